import PyProof.Rows.All
import Wide.All
import OpenK.AllK
import Wide.FinOn
import Lean
import PyProof.EqAt
import PyProof.EqKinds
import PyProof.TupleCall
import PySem.Challenge.RW_farquotient_k41_columns_of_a_ladder
set_option Elab.async false
set_option linter.all false
set_option maxRecDepth 100000
namespace L2
open PySem PySem.Spec PyProof.Rows

noncomputable abbrev Key := Sum Int Str
noncomputable def keyIs : Key → Value → Bool
  | .inl k, v => Value.isInt k v
  | .inr x, v => Value.isStrOf x v
noncomputable def keyH (w : World) : Key → Int
  | .inl k => hashInt k
  | .inr x => hashStr w x
theorem keyIs_shape : ∀ {k : Key} {v : Value}, keyIs k v = true → (∃ i t, k = Sum.inl i ∧ v = Value.int i t) ∨ (∃ x t, k = Sum.inr x ∧ v = Value.str x t)
  | .inl i, v, h => by
    obtain ⟨t, e⟩ := Value.isInt_shape (k := i) (v := v) h
    exact .inl ⟨i, t, rfl, e⟩
  | .inr x, v, h => by
    obtain ⟨t, e⟩ := Value.isStrOf_shape (x := x) (v := v) h
    exact .inr ⟨x, t, rfl, e⟩
theorem keyIs_int (i : Int) (t : Tok) : keyIs (.inl i) (.int i t) = true := by simp [keyIs, Value.isInt]
theorem keyIs_str (x : Str) (t : Tok) : keyIs (.inr x) (.str x t) = true := by simp [keyIs, Value.isStrOf]
theorem key_ll (a b : Int) : decide ((Sum.inl a : Key) = Sum.inl b) = (a == b) := by
  by_cases e : a = b
  · subst e; simp
  · have h : ¬ (Sum.inl a : Key) = Sum.inl b := fun q => e (Sum.inl.inj q)
    rw [decide_eq_false h]
    exact (beq_eq_false_iff_ne.mpr e).symm
theorem key_rr (a b : Str) : decide ((Sum.inr a : Key) = Sum.inr b) = decide (a = b) := by
  by_cases e : a = b
  · subst e; simp
  · have h : ¬ (Sum.inr a : Key) = Sum.inr b := fun q => e (Sum.inr.inj q)
    rw [decide_eq_false h, decide_eq_false e]
theorem key_lr (a : Int) (b : Str) : decide ((Sum.inl a : Key) = Sum.inr b) = false := decide_eq_false (fun q => nomatch q)
theorem key_rl (a : Str) (b : Int) : decide ((Sum.inr a : Key) = Sum.inl b) = false := decide_eq_false (fun q => nomatch q)

noncomputable def mixKind (prog : Program) (w : World) : PySem.KeyKind prog w Key where
  is := keyIs
  hash := keyH w
  inj := fun v a b ha hb => by
    rcases keyIs_shape ha with ⟨i, t, rfl, rfl⟩ | ⟨x, t, rfl, rfl⟩
    · rcases keyIs_shape hb with ⟨j, u, rfl, e⟩ | ⟨y, u, rfl, e⟩
      · injection e with e1 _; rw [e1]
      · exact nomatch e
    · rcases keyIs_shape hb with ⟨j, u, rfl, e⟩ | ⟨y, u, rfl, e⟩
      · exact nomatch e
      · injection e with e1 _; rw [e1]
  byValue := fun k v h => by
    rcases keyIs_shape h with ⟨i, t, rfl, rfl⟩ | ⟨x, t, rfl, rfl⟩ <;> rfl
  pyHash := fun hv h => by
    rcases keyIs_shape hv with ⟨i, t, rfl, rfl⟩ | ⟨x, t, rfl, rfl⟩
    · exact wpAny_pyHash_int h
    · exact wpAny_pyHash_str h
  eqBool := fun hu hv h => by
    rcases keyIs_shape hu with ⟨i, t, rfl, rfl⟩ | ⟨x, t, rfl, rfl⟩
    · rcases keyIs_shape hv with ⟨j, u, rfl, rfl⟩ | ⟨y, u, rfl, rfl⟩
      · rw [key_ll] at h; exact wpAny_eqBool_int h
      · rw [key_lr] at h; exact SeqAt.EqAt.int_str i t y u _ _ _ _ h
    · rcases keyIs_shape hv with ⟨j, u, rfl, rfl⟩ | ⟨y, u, rfl, rfl⟩
      · rw [key_rl] at h; exact SeqAt.EqAt.str_int x t j u _ _ _ _ h
      · rw [key_rr] at h; exact wpAny_eqBool_str h
  «strs» := fun k x t v h => by
    rcases keyIs_shape h with ⟨i, u, rfl, e⟩ | ⟨y, u, rfl, e⟩
    · exact nomatch e
    · injection e with e1 _
      subst e1
      cases v <;> rfl

theorem mixKind_int (prog : Program) (w : World) (i : Int) (t : Tok) : (mixKind prog w).is (.inl i) (.int i t) = true := keyIs_int i t
theorem mixKind_str (prog : Program) (w : World) (x : Str) (t : Tok) : (mixKind prog w).is (.inr x) (.str x t) = true := keyIs_str x t
end L2

namespace L2
open PySem PySem.Spec PyProof.Rows

inductive V where
  | non | bl (b : Bool) | int (i : Int) | str (x : Str) | byt (b : Array UInt8) | flt (b : UInt64) | ref (a : Addr) | ty (n : String)
  deriving DecidableEq

noncomputable def RelV : V → Value → Prop
  | .non, u => u = Value.none
  | .bl b, u => u = Value.bool b
  | .int i, u => ∃ t, u = Value.int i t
  | .str x, u => ∃ t, u = Value.str x t
  | .byt b, u => ∃ t, u = Value.bytes b t
  | .flt b, u => ∃ t, u = Value.float b t
  | .ref a, u => u = Value.ref a
  | .ty n, u => u = Value.type n

noncomputable abbrev Vals : List V → List Value → Prop := Paired RelV
theorem Vals.length {xs : List V} {us : List Value} (r : Vals xs us) : xs.length = us.length := Paired.length r
theorem Vals.get : ∀ {xs : List V} {us : List Value} {i : Nat} {x : V}, Vals xs us → xs[i]? = some x → ∃ u, us[i]? = some u ∧ RelV x u
  | _, _, _, _, .nil, e => by simp at e
  | _, _, 0, _, .cons r _, e => by simp at e; subst e; exact ⟨_, rfl, r⟩
  | _, _, i + 1, x, .cons _ t, e => by
    obtain ⟨u, h1, h2⟩ := Vals.get (i := i) (x := x) t (by simpa using e)
    exact ⟨u, by simpa using h1, h2⟩
theorem Vals.set {x : V} {u : Value} (r : RelV x u) : ∀ {xs : List V} {us : List Value} (i : Nat), Vals xs us → Vals (xs.set i x) (us.set i u)
  | _, _, _, .nil => .nil
  | _, _, 0, .cons _ t => .cons r t
  | _, _, i + 1, .cons q t => .cons q (Vals.set r i t)
theorem Vals.append {xs ys : List V} {us ws : List Value} (h : Vals xs us) (s : Vals ys ws) : Vals (xs ++ ys) (us ++ ws) := by
  induction h with
  | nil => exact s
  | cons r t ih => exact .cons r ih
theorem Vals.take : ∀ {xs : List V} {us : List Value} (n : Nat), Vals xs us → Vals (xs.take n) (us.take n)
  | _, _, 0, _ => .nil
  | _, _, _ + 1, .nil => .nil
  | _, _, n + 1, .cons r t => .cons r (Vals.take n t)
theorem Vals.drop : ∀ {xs : List V} {us : List Value} (n : Nat), Vals xs us → Vals (xs.drop n) (us.drop n)
  | _, _, 0, r => r
  | _, _, _ + 1, .nil => .nil
  | _, _, n + 1, .cons _ t => Vals.drop n t
theorem Vals.none_of : ∀ {xs : List V} {us : List Value} {i : Nat}, Vals xs us → xs[i]? = none → us[i]? = none := fun {xs us i} r e => by
  have h1 := r.length
  have h2 : xs.length ≤ i := List.getElem?_eq_none_iff.mp e
  exact List.getElem?_eq_none_iff.mpr (by omega)

noncomputable def RelO : Option V → Option Value → Prop
  | some v, some u => RelV v u
  | none, none => True
  | _, _ => False
noncomputable def KV {κ : Type} : List (κ × V) → List (κ × Value) → Prop := Paired fun (p : κ × V) (q : κ × Value) => p.1 = q.1 ∧ RelV p.2 q.2

noncomputable def kV : Key → V
  | .inl i => .int i
  | .inr x => .str x

inductive HO where
  /-- a list -/
  | lst (xs : List V)
  /-- a tuple (never changes) -/
  | tup (xs : List V)
  /-- a dict whose keys are ints and texts; one whose keys are tuples of ints and texts (the empty one is both) -/
  | dK (kvs : List (Key × V)) | dT (kvs : List (List Key × V))
  /-- a set of ints: its members, its size -/
  | set (S : Int → Bool) (n : Nat)
  /-- an instance of the class at C, its dict at dx, its attributes -/
  | ins (C dx : Addr) (fs : List (Str × V))
  /-- the dict of the instance at x -/
  | own (x : Addr)
  /-- the dict of an exception -/
  | xd (fs : List (Str × V))
  /-- a bound method, f of x -/
  | met (f x : Addr)
  /-- a range object lo, lo + 1, .. below hi -/
  | rng (lo hi : Int)
  /-- a thing that is known to the object (the script; a dict while a loop walks it): read, never written while it is so -/
  | frz (o : Obj) (u : HO)
  /-- a code object's table -/
  | tbl (ps : Array Value)
  /-- any other thing, by what is true of its one object (a def of one's own: SetO a S n := HO.ext fun h => ..) -/
  | ext (φ : Heap → Prop)

noncomputable abbrev Hp := Addr → Option HO
noncomputable def upd (H : Hp) (a : Addr) (o : HO) : Hp := fun b => if b = a then some o else H b
theorem upd_same {H : Hp} {a : Addr} {o : HO} : upd H a o a = some o := by unfold upd; rw [if_pos rfl]
theorem upd_ne {H : Hp} {a b : Addr} {o : HO} (h : b ≠ a) : upd H a o b = H b := by unfold upd; rw [if_neg h]
theorem ne_of {H : Hp} {a b : Addr} {o u : HO} (h : H a = some o) (h' : H b = some u) (d : o ≠ u) : a ≠ b := by
  intro e; subst e; rw [h] at h'; exact d (Option.some.inj h')
theorem ne_of_none {H : Hp} {a b : Addr} {o : HO} (h : H a = some o) (h' : H b = none) : a ≠ b := by
  intro e; subst e; rw [h] at h'; cases h'

section
variable (P : Program) (w : World)
noncomputable def ObjOk (H : Hp) (h : Heap) (a : Addr) : HO → Prop
  | .lst xs => xs.length ≤ sizeLine ∧ ∃ (its : List Value) (n : Nat), Vals xs its ∧ h.get? a = some { cls := .type "list", data := .seq its.toArray n }
  | .tup xs => xs.length ≤ sizeLine ∧ ∃ its : List Value, Vals xs its ∧ IsTup h a its.toArray
  | .dK kvs => kvs.length ≤ sizeLine ∧ (a == sysModules) = false ∧ ∃ vs, KV kvs vs ∧ h.DictOf (mixKind P w) a vs
  | .dT kvs => kvs.length ≤ sizeLine ∧ (a == sysModules) = false ∧ ∃ xs : List (List Key × Addr × Value),
      Paired (fun (p : List Key × V) (q : List Key × Addr × Value) => p.1 = q.1 ∧ H q.2.1 = some (.tup (p.1.map kV)) ∧ RelV p.2 q.2.2) kvs xs ∧
      ∃ o es ep, h.get? a = some o ∧ o.ExactDict ∧ o.data = .dict es ep ∧ es.toList = xs.map (entryOfKey (tupleKind (mixKind P w))) ∧ (xs.map (·.1)).Nodup
  | .set S n => h.SetOf (intKind P w) a S n
  | .ins C dx fs => H dx = some (.own a) ∧ fs.length ≤ 1000 ∧ dx ≠ a ∧ h.get? a = some (PySem.W.instObj C dx) ∧
      ∃ mA, h.Ns1 dx mA ∧ (∀ f, RelO (fs.lookup f) (mA f)) ∧ PySem.Within mA (fs.map (·.1))
  | .own _ => ∃ o, h.get? a = some o
  | .xd fs => ∃ mA, h.Ns1 a mA ∧ ∀ f, RelO (fs.lookup f) (mA f)
  | .rng lo hi => ∃ t u v, h.get? a = some { cls := .type "range", data := .fields #[.int lo t, .int hi u, .int 1 v] }
  | .frz o u => h.get? a = some o ∧ ObjOk H h a u
  | .tbl ps => h.get? a = some { cls := .none, data := .fields ps }
  | .met f x => h.get? a = some (PySem.W.methodObj (.ref f) (.ref x))
  | .ext φ => φ h ∧ (∃ o, h.get? a = some o) ∧ ∀ h1 h2 : Heap, φ h1 → (∀ o, h1.get? a = some o → h2.get? a = some o) → φ h2
noncomputable def HOk (H : Hp) (h : Heap) : Prop := ∀ a o, H a = some o → ObjOk P w H h a o
end

section
variable {P : Program} {w : World} {H H' : Hp} {h h' : Heap} {a : Addr} {o : HO}
theorem ObjOk.lt (x : ObjOk P w H h a o) : a < h.objs.size := by
  cases o with
  | lst xs => obtain ⟨_, _, _, _, e⟩ := x; exact Heap.lt_size e
  | tup xs => obtain ⟨_, _, _, p⟩ := x; exact p.lt
  | dK kvs => obtain ⟨_, _, _, _, o, _, _, e, _⟩ := x; exact Heap.lt_size e
  | dT kvs => obtain ⟨_, _, _, _, o, _, _, e, _⟩ := x; exact Heap.lt_size e
  | set S n => obtain ⟨o, _, _, _, e, _⟩ := x; exact Heap.lt_size e
  | ins C dx fs => obtain ⟨_, _, _, e, _⟩ := x; exact Heap.lt_size e
  | own y => obtain ⟨_, e⟩ := x; exact Heap.lt_size e
  | xd fs => obtain ⟨_, ⟨_, _, _, e, _⟩, _⟩ := x; exact Heap.lt_size e
  | rng lo hi => obtain ⟨_, _, _, e⟩ := x; exact Heap.lt_size e
  | frz ob u => obtain ⟨e, _⟩ := x; exact Heap.lt_size e
  | tbl ps => exact Heap.lt_size (show h.get? a = some _ from x)
  | met f y => exact Heap.lt_size (show h.get? a = some _ from x)
  | ext φ => obtain ⟨_, ⟨_, e⟩, _⟩ := x; exact Heap.lt_size e
theorem Paired.mapP {α β : Type} {F G : α → β → Prop} {l₁ : List α} {l₂ : List β} (h : Paired F l₁ l₂) (f : ∀ a b, F a b → G a b) : Paired G l₁ l₂ := by
  induction h with
  | nil => exact .nil
  | cons r t ih => exact .cons (f _ _ r) ih
theorem ObjOk.stay (x : ObjOk P w H h a o) (k : ∀ b u, (b = a ∨ H b = some (.own a)) → h.get? b = some u → h'.get? b = some u)
    (ho : ∀ b, H b = some (.own a) → H' b = some (.own a)) (ht : ∀ b xs, H b = some (.tup xs) → H' b = some (.tup xs)) : ObjOk P w H' h' a o := by
  induction o with
  | lst xs => obtain ⟨z, its, n, r, e⟩ := x; exact ⟨z, its, n, r, k _ _ (.inl rfl) e⟩
  | tup xs => obtain ⟨z, its, r, ob, e, c⟩ := x; exact ⟨z, its, r, ob, k _ _ (.inl rfl) e, c⟩
  | dK kvs => obtain ⟨z, y, vs, r, ob, es, ep, e, c⟩ := x; exact ⟨z, y, vs, r, ob, es, ep, k _ _ (.inl rfl) e, c⟩
  | dT kvs =>
    obtain ⟨z, y, xs, r, ob, es, ep, e, c⟩ := x
    exact ⟨z, y, xs, Paired.mapP r fun p q z => ⟨z.1, ht _ _ z.2.1, z.2.2⟩, ob, es, ep, k _ _ (.inl rfl) e, c⟩
  | set S n => obtain ⟨ob, es, ep, t, e, c⟩ := x; exact ⟨ob, es, ep, t, k _ _ (.inl rfl) e, c⟩
  | ins C dx fs =>
    obtain ⟨d, z, ne, e, mA, ⟨od, es, ep, e2, c⟩, r⟩ := x
    exact ⟨ho _ d, z, ne, k _ _ (.inl rfl) e, mA, ⟨od, es, ep, k _ _ (.inr d) e2, c⟩, r⟩
  | own y => obtain ⟨ob, e⟩ := x; exact ⟨ob, k _ _ (.inl rfl) e⟩
  | xd fs => obtain ⟨mA, ⟨od, es, ep, e, c⟩, r⟩ := x; exact ⟨mA, ⟨od, es, ep, k _ _ (.inl rfl) e, c⟩, r⟩
  | rng lo hi => obtain ⟨t, u, v, e⟩ := x; exact ⟨t, u, v, k _ _ (.inl rfl) e⟩
  | frz ob u ih => obtain ⟨e, q⟩ := x; exact ⟨k _ _ (.inl rfl) e, ih q⟩
  | tbl ps =>
    have e : h.get? a = some { cls := .none, data := .fields ps } := x
    show h'.get? a = some { cls := .none, data := .fields ps }
    exact k a _ (.inl rfl) e
  | met f y =>
    have e : h.get? a = some (PySem.W.methodObj (.ref f) (.ref y)) := x
    show h'.get? a = some (PySem.W.methodObj (.ref f) (.ref y))
    exact k a _ (.inl rfl) e
  | ext φ => obtain ⟨p, ⟨o, e⟩, st⟩ := x; exact ⟨st _ _ p fun o q => k _ _ (.inl rfl) q, ⟨o, k _ _ (.inl rfl) e⟩, st⟩
theorem HOk.lt (x : HOk P w H h) (e : H a = some o) : a < h.objs.size := (x a o e).lt
theorem HOk.fresh (x : HOk P w H h) (e : h.objs.size ≤ a) : H a = none := by
  cases q : H a with
  | none => rfl
  | some u => exact absurd (Nat.lt_of_lt_of_le (x.lt q) e) (Nat.lt_irrefl _)
theorem HOk.kept (x : HOk P w H h) (k : ∀ b u, h.get? b = some u → h'.get? b = some u) : HOk P w H h' := fun a o e =>
  (x a o e).stay (fun b u _ q => k b u q) (fun _ q => q) fun _ _ q => q
theorem HOk.laid (x : HOk P w H h) (k : ∀ b u, h.get? b = some u → h'.get? b = some u) (hp : h.objs.size ≤ a) (new : ObjOk P w (upd H a o) h' a o) : HOk P w (upd H a o) h' := fun b u e => by
  have hn := x.fresh hp
  by_cases hb : b = a
  · subst hb; rw [upd_same] at e; cases e; exact new
  · rw [upd_ne hb] at e
    exact (x b u e).stay (fun c v _ q => k c v q) (fun c q => by rw [upd_ne (ne_of_none q hn)]; exact q) fun c xs q => by rw [upd_ne (ne_of_none q hn)]; exact q
end

noncomputable def Rd (H : Hp) (a : Addr) (u : HO) : Prop := H a = some u ∨ ∃ o, H a = some (.frz o u)
theorem Rd.of {H : Hp} {a : Addr} {u : HO} (h : H a = some u) : Rd H a u := .inl h
theorem Rd.ok {P : Program} {w : World} {H : Hp} {h : Heap} {a : Addr} {u : HO} (r : Rd H a u) (x : HOk P w H h) : ObjOk P w H h a u := by
  rcases r with r | ⟨o, r⟩
  · exact x a u r
  · obtain ⟨_, q⟩ := x a _ r
    exact q
noncomputable def Mut : Option HO → Prop
  | some (.lst _) => True
  | some (.dK _) => True
  | some (.dT _) => True
  | some (.set _ _) => True
  | some (.ins _ _ _) => True
  | some (.ext _) => True
  | _ => False
section
variable {P : Program} {w : World} {H : Hp} {h h' : Heap} {x e : Addr} {o' : HO}
theorem HOk.write (ok : HOk P w H h) (mu : Mut (H x)) (he : e = x ∨ H e = some (.own x)) (k : ∀ b u, b ≠ e → h.get? b = some u → h'.get? b = some u) (heo : ∃ u, h'.get? e = some u)
    (new : ObjOk P w (upd H x o') h' x o') : HOk P w (upd H x o') h' := fun b u q => by
  have nown : ∀ c y, H c = some (.own y) → c ≠ x := fun c y r z => by subst z; rw [r] at mu; exact mu
  have ntup : ∀ c xs, H c = some (.tup xs) → c ≠ x := fun c xs r z => by subst z; rw [r] at mu; exact mu
  by_cases hb : b = x
  · subst hb; rw [upd_same] at q; cases q; exact new
  · rw [upd_ne hb] at q
    by_cases hbe : b = e
    · have q' : H b = some (.own x) := by
        rcases he with z | z
        · exact absurd (hbe.trans z) hb
        · rw [hbe]; exact z
      rw [q] at q'; cases q'
      obtain ⟨v, hv⟩ := heo
      exact ⟨v, by rw [hbe]; exact hv⟩
    · refine (ok b u q).stay (fun c v hc r => k c v ?_ r) (fun c r => by rw [upd_ne (nown c b r)]; exact r) fun c xs r => by rw [upd_ne (ntup c xs r)]; exact r
      rcases hc with rfl | hc
      · exact hbe
      · rintro rfl
        rcases he with z | z
        · exact nown c b hc z
        · rw [hc] at z; cases z; exact hb rfl
end

structure Un (fs ex : List Addr) (H H' : Hp) (h h' : Heap) : Prop where
  keep : ∀ b o, h.get? b = some o → H b = none → b ∉ fs → b ∉ ex → h'.get? b = some o
  slot : ∀ b o, h.get? b = some o → H b = none → b ∈ fs → b ∉ ex → ∃ sl, h'.get? b = some { o with slots := sl }
  free : ∀ b o, h.get? b = some o → H b = none → b ∉ ex → H' b = none
  there : ∀ b o, h.get? b = some o → b ∉ ex → ∃ o', h'.get? b = some o'
  tups : ∀ b xs, H b = some (.tup xs) → H' b = some (.tup xs)
  frzs : ∀ b o u, H b = some (.frz o u) → H' b = some (.frz o u)
  tbls : ∀ b ps, H b = some (.tbl ps) → ∃ more, H' b = some (.tbl (ps ++ more))
section
variable {fs fs' ex ex' : List Addr} {H H1 H2 : Hp} {h h1 h2 h' : Heap} {a x e : Addr} {o : HO}
theorem Un.any (u : Un fs ex H H1 h h1) {b : Addr} {ob : Obj} (q : h.get? b = some ob) (n : H b = none) (hx : b ∉ ex) : ∃ sl, h1.get? b = some { ob with slots := sl } := by
  by_cases hb : b ∈ fs
  · exact u.slot b ob q n hb hx
  · exact ⟨ob.slots, u.keep b ob q n hb hx⟩
theorem Un.trans (a : Un fs ex H H1 h h1) (b : Un fs ex H1 H2 h1 h2) : Un fs ex H H2 h h2 where
  keep := fun c ob q n hc hx => b.keep c ob (a.keep c ob q n hc hx) (a.free c ob q n hx) hc hx
  slot := fun c ob q n hc hx => by
    obtain ⟨sl, e1⟩ := a.slot c ob q n hc hx
    obtain ⟨sl', e2⟩ := b.slot c _ e1 (a.free c ob q n hx) hc hx
    exact ⟨sl', e2⟩
  free := fun c ob q n hx => by
    obtain ⟨o', e1⟩ := a.there c ob q hx
    exact b.free c o' e1 (a.free c ob q n hx) hx
  there := fun c ob q hx => by
    obtain ⟨o', e1⟩ := a.there c ob q hx
    exact b.there c o' e1 hx
  tups := fun c xs q => b.tups c xs (a.tups c xs q)
  frzs := fun c ob xs q => b.frzs c ob xs (a.frzs c ob xs q)
  tbls := fun c ps q => by
    obtain ⟨m1, e1⟩ := a.tbls c ps q
    obtain ⟨m2, e2⟩ := b.tbls c _ e1
    exact ⟨m1 ++ m2, by rw [e2, Array.append_assoc]⟩
theorem Un.kept (k : ∀ b u, h.get? b = some u → h'.get? b = some u) : Un fs ex H H h h' :=
  ⟨fun b ob q _ _ _ => k b ob q, fun b ob q _ _ _ => ⟨ob.slots, k b ob q⟩, fun _ _ _ n _ => n, fun b ob q _ => ⟨ob, k b ob q⟩, fun _ _ q => q, fun _ _ _ q => q, fun _ ps q => ⟨#[], by rw [q]; simp⟩⟩
theorem Un.refl : Un fs ex H H h h := Un.kept fun _ _ q => q
theorem Un.laid (k : ∀ b u, h.get? b = some u → h'.get? b = some u) (hp : h.objs.size ≤ a) (hn : H a = none) : Un fs ex H (upd H a o) h h' where
  keep := fun b u q _ _ _ => k b u q
  slot := fun b u q _ _ _ => ⟨u.slots, k b u q⟩
  free := fun b u q n _ => by rw [upd_ne (Nat.ne_of_lt (Nat.lt_of_lt_of_le (Heap.lt_size q) hp))]; exact n
  there := fun b u q _ => ⟨u, k b u q⟩
  tups := fun b xs q => by rw [upd_ne (ne_of_none q hn)]; exact q
  frzs := fun b u xs q => by rw [upd_ne (ne_of_none q hn)]; exact q
  tbls := fun b ps q => ⟨#[], by rw [upd_ne (ne_of_none q hn), q]; simp⟩
theorem Un.write (mu : Mut (H x)) (he : e = x ∨ H e = some (.own x)) (k : ∀ b u, b ≠ e → h.get? b = some u → h'.get? b = some u) (heo : ∃ u, h'.get? e = some u) : Un fs ex H (upd H x o) h h' := by
  have hx : ∀ b, H b = none → b ≠ x := fun b n z => by subst z; rw [n] at mu; exact mu
  have hb : ∀ b, H b = none → b ≠ e := fun b n z => by
    subst z
    rcases he with r | r
    · exact hx b n r
    · rw [n] at r; cases r
  have hm : ∀ b u, H b = some u → ¬ Mut (some u) → b ≠ x := fun b u q nm z => by subst z; rw [q] at mu; exact nm mu
  refine ⟨fun b u q n _ _ => k b u (hb b n) q, fun b u q n _ _ => ⟨u.slots, k b u (hb b n) q⟩, fun b u q n _ => by rw [upd_ne (hx b n)]; exact n, fun b u q _ => ?_,
    fun b xs q => by rw [upd_ne (hm b _ q fun z => z)]; exact q, fun b u xs q => by rw [upd_ne (hm b _ q fun z => z)]; exact q, fun b ps q => ⟨#[], by rw [upd_ne (hm b _ q fun z => z), q]; simp⟩⟩
  by_cases hbe : b = e
  · subst hbe; exact heo
  · exact ⟨u, k b u hbe q⟩
theorem Un.mono (u : Un fs ex H H1 h h1) (hs : ∀ b ∈ fs, b ∈ fs') (hx : ∀ b ∈ ex, b ∈ ex') : Un fs' ex' H H1 h h1 :=
  ⟨fun b ob q n hb he => u.keep b ob q n (fun z => hb (hs b z)) fun z => he (hx b z), fun _ _ q n _ he => u.any q n fun z => he (hx _ z), fun b ob q n he => u.free b ob q n fun z => he (hx b z), fun b ob q he => u.there b ob q fun z => he (hx b z), u.tups, u.frzs, u.tbls⟩
end

noncomputable def trk (h : Heap) (H : Hp) : List Addr := (List.range h.objs.size).filter fun a => (H a).isSome
noncomputable def hidT (h : Heap) (H : Hp) : Heap := PySem.W.hideAll h (trk h H)
theorem hidT_size (h : Heap) (H : Hp) : (hidT h H).objs.size = h.objs.size := PySem.W.hideAll_size _ _
theorem hidT_get {h : Heap} {H : Hp} {b : Addr} {o : Obj} (e : h.get? b = some o) (n : H b = none) : (hidT h H).get? b = some o :=
  PySem.W.hideAll_get _ e fun hm => by
    have q : (H b).isSome = true := (List.mem_filter.mp hm).2
    rw [n] at q; simp at q
theorem of_hidT {h : Heap} {H : Hp} {b : Addr} {o : Obj} (e : (hidT h H).get? b = some o) : h.get? b = some o ∧ H b = none := by
  have e' : h.get? b = some o := PySem.W.of_hideAll (trk h H) e
  refine ⟨e', ?_⟩
  cases q : H b with
  | none => rfl
  | some x =>
    have hm : b ∈ trk h H := List.mem_filter.mpr ⟨List.mem_range.mpr (Heap.lt_size e'), by simp [q]⟩
    have z : (hidT h H).get? b = none := PySem.W.hideAll_none (trk h H) hm
    rw [z] at e; cases e

noncomputable def allNews (g h : Heap) (L : Addr) : List (Addr × Obj) := (List.range h.objs.size).filterMap fun a => if a = L ∨ (g.get? a).isSome = true then none else (h.get? a).map fun o => (a, o)
noncomputable def rest (g h : Heap) (L d : Addr) : List (Addr × Obj) := (allNews g h L).filter fun p => decide (p.1 ≠ d)
end L2

namespace L2
open PySem PySem.Spec PyProof.Rows

structure Mod (K : PySem.W.Frag) (mg : Str → Option Value) (base : Heap) : Prop where
  kin : K.In base
  glob : base.Ns mainGlobals mg
  blt : ∃ mb, base.Ns builtinsNs mb ∧ ∀ x : Str, x ≠ "__name__" → mb x = bootBuiltins x
  nolimit : base.NoLimit

structure Cx where
  prog : Program
  w : World
  K : PySem.W.Frag
  mg : Str → Option Value
  base : Heap
  A : Around
  N : List Str
  s₀ : Shared
  H₀ : Hp
  env : Env
  outer : List Env
  stack : List Env
  ex : List Addr
  fn : Str → Bool
  calm : Bool
  pn : List (Addr × Obj)
  xe : Value → Shared → Prop
noncomputable def frs (l : List Env) : List Addr := l.filterMap (·.frame)
noncomputable abbrev Cx.fs (X : Cx) : List Addr := frs X.outer

noncomputable def Vis (sc : Scope) (x : Str) : Prop := sc.names.lookup x = some .local ∨ sc.names.lookup x = some .cell ∨ sc.names.lookup x = some .free
noncomputable def Loc (sc : Scope) (x : Str) : Prop := sc.names.lookup x = some .local ∨ sc.names.lookup x = some .cell
noncomputable def Look (env : Env) (h : Heap) (m : Str → Option Value) (x : Str) (u : Value) : Prop :=
  (env.kindOf x = some .local ∧ m x = some u) ∨ ((env.kindOf x = some .cell ∨ env.kindOf x = some .free) ∧ ∃ c, env.cells.lookup x = some c ∧ h.IsCell c (some u))

structure Cx.Ok (X : Cx) : Prop where
  mod : Mod X.K X.mg X.base
  kind : X.env.scope.kind = .function
  glob : X.env.globals = mainGlobals
  blt : X.env.builtins = builtinsNs
  above : X.s₀.heap.objs.size ≤ X.env.locals
  inj : ∀ x y c, X.env.cells.lookup x = some c → X.env.cells.lookup y = some c → x = y
  has : ∀ x, (X.env.kindOf x = some .cell ∨ X.env.kindOf x = some .free) → ∃ c, X.env.cells.lookup x = some c
  cab : ∀ x c, X.fn x = true → X.env.cells.lookup x = some c → X.s₀.heap.objs.size ≤ c
  hd : X.calm = true → X.A.handled = none
  frames : X.A.frames = some X.stack
  stk : X.stack = X.outer ∨ (X.stack = X.env :: X.outer ∧ X.env.frame = some X.env.locals)
  exf : ∀ b ∈ X.ex, b ≠ X.env.locals ∧ ∀ x c, X.env.cells.lookup x = some c → c ≠ b
  bs : ∀ b o, X.base.get? b = some o → X.s₀.heap.get? b = some o ∧ X.H₀ b = none
  bsz : X.base.objs.size ≤ X.s₀.heap.objs.size
  noex : ∀ b o, X.base.get? b = some o → b ∉ X.ex
  exfs : ∀ b ∈ X.ex, b ∉ X.fs
  funs : X.s₀.heap.FunFrames X.base X.outer
  frf : ∀ b ∈ X.fs, X.H₀ b = none

structure Inv (X : Cx) (pins : List (Addr × Obj)) (σ : List (Option V)) (H : Hp) (s : Shared) : Prop where
  ok : X.Ok
  os : s.os = X.s₀.os
  bare : AllBare s.gens
  base : Un X.fs X.ex X.H₀ H X.s₀.heap s.heap
  loc : ∃ m, s.heap.Ns X.env.locals m ∧ ∀ (i : Nat) (x : Str) (v : V), X.N[i]? = some x → σ[i]? = some (some v) → Vis X.env.scope x → ∃ u, RelV v u ∧ Look X.env s.heap m x u
  cell : ∀ x c, X.env.cells.lookup x = some c → ∃ v, s.heap.IsCell c v
  free : H X.env.locals = none
  freeC : ∀ x c, X.env.cells.lookup x = some c → H c = none
  pin : ∀ p ∈ X.pn ++ pins, s.heap.get? p.1 = some p.2 ∧ H p.1 = none ∧ p.1 ≠ X.env.locals ∧ p.1 ∉ X.fs ∧ ∀ v, p.2.data ≠ .cell v
  hok : HOk X.prog X.w H s.heap
  len : σ.length = X.N.length

section
variable {X : Cx} {pins : List (Addr × Obj)} {σ : List (Option V)} {H H' : Hp} {s : Shared} {h' : Heap}

theorem Cx.Ok.nofr (ok : X.Ok) {b : Addr} {o : Obj} (e : X.base.get? b = some o) : b ∉ X.fs := fun hb => by
  have := (ok.funs.mem hb).1
  rw [e] at this; cases this
theorem Inv.bs (I : Inv X pins σ H s) : ∀ b o, X.base.get? b = some o → s.heap.get? b = some o ∧ H b = none := fun b o e =>
  ⟨I.base.keep b o (I.ok.bs b o e).1 (I.ok.bs b o e).2 (I.ok.nofr e) (I.ok.noex b o e), I.base.free b o (I.ok.bs b o e).1 (I.ok.bs b o e).2 (I.ok.noex b o e)⟩
theorem Inv.bk (I : Inv X pins σ H s) : ∀ b o, X.base.get? b = some o → s.heap.get? b = some o := fun b o e => (I.bs b o e).1
theorem Inv.mod (I : Inv X pins σ H s) : Mod X.K X.mg X.base := I.ok.mod
theorem Inv.kIn (I : Inv X pins σ H s) : X.K.In s.heap := I.ok.mod.kin.keeps I.bk
theorem Inv.nolimit (I : Inv X pins σ H s) : s.heap.NoLimit := I.ok.mod.nolimit.keeps I.bk
theorem Inv.fr (I : Inv X pins σ H s) : ∃ m, Fr X.base X.env.locals s.heap m :=
  let ⟨m, hn, _⟩ := I.loc
  ⟨m, hn, I.bk, Nat.le_trans I.ok.bsz I.ok.above⟩
theorem Inv.lt (I : Inv X pins σ H s) : X.env.locals < s.heap.objs.size := let ⟨_, hn, _⟩ := I.loc; hn.lt
theorem Inv.sz (I : Inv X pins σ H s) : X.s₀.heap.objs.size ≤ s.heap.objs.size := Nat.le_trans I.ok.above (Nat.le_of_lt I.lt)
theorem Inv.nofs (I : Inv X pins σ H s) {a : Addr} (h : s.heap.objs.size ≤ a) : a ∉ X.fs := fun hb => by
  obtain ⟨_, o, ho, _⟩ := I.ok.funs.mem hb
  exact absurd (Nat.lt_of_lt_of_le (Heap.lt_size ho) (Nat.le_trans I.sz h)) (Nat.lt_irrefl _)
theorem Inv.cne (I : Inv X pins σ H s) : ∀ x c, X.env.cells.lookup x = some c → c ≠ X.env.locals := fun x c e z => by
  obtain ⟨v, o, ho, hd⟩ := I.cell x c e
  obtain ⟨m, ⟨o', es, ep, ho', hd', _⟩, _⟩ := I.loc
  rw [z, ho'] at ho; cases ho; rw [hd'] at hd; cases hd
theorem Inv.funs (I : Inv X pins σ H s) : s.heap.FunFrames X.base X.outer := by
  have all : ∀ (l : List Env), (∀ b ∈ frs l, b ∈ X.fs) → X.s₀.heap.FunFrames X.base l → s.heap.FunFrames X.base l := by
    intro l
    induction l with
    | nil => intro _ _; trivial
    | cons env r ih =>
      intro hs hl
      obtain ⟨hk, ⟨L, o, hf, hn, ho, hd⟩, hr⟩ := hl
      have hL : L ∈ X.fs := hs L (by unfold frs; rw [List.filterMap_cons, hf]; exact List.mem_cons_self)
      obtain ⟨sl, e⟩ := I.base.slot L o ho (I.ok.frf L hL) hL fun z => I.ok.exfs L z hL
      exact ⟨hk, ⟨L, _, hf, hn, e, hd⟩, ih (fun b hb => hs b (by unfold frs; rw [List.filterMap_cons, hf]; exact List.mem_cons_of_mem _ hb)) hr⟩
  exact all X.outer (fun _ hb => hb) I.ok.funs

theorem Inv.stack (I : Inv X pins σ H s) : s.heap.FunFrames X.base X.stack := by
  rcases I.ok.stk with e | ⟨e, hf⟩
  · rw [e]; exact I.funs
  · rw [e]
    obtain ⟨m, hn, _⟩ := I.loc
    refine .cons (by rw [I.ok.kind]; decide) hf hn ?_ I.funs
    exact Heap.get?_none_of_le (Nat.le_trans I.ok.bsz I.ok.above)
theorem Inv.stkSub (I : Inv X pins σ H s) : ∀ b ∈ frs X.stack, b ∈ X.env.locals :: X.fs := fun b hb => by
  rcases I.ok.stk with e | ⟨e, hf⟩
  · rw [e] at hb; exact List.mem_cons_of_mem _ hb
  · rw [e] at hb
    unfold frs at hb
    rw [List.filterMap_cons, hf] at hb
    exact hb
theorem Inv.stkFree (I : Inv X pins σ H s) : ∀ b ∈ frs X.stack, H b = none := fun b hb => by
  rcases List.mem_cons.mp (I.stkSub b hb) with e | hb
  · rw [e]; exact I.free
  · obtain ⟨_, o, ho, _⟩ := I.ok.funs.mem hb
    exact I.base.free b o ho (I.ok.frf b hb) fun z => I.ok.exfs b z hb

theorem Inv.step {g' : Array GenState} {t' : Nat} {d' : Drawn} {ch : List Addr} (I : Inv X pins σ H s)
    (hch : ∀ b ∈ ch, (b ∈ X.ex ∨ X.s₀.heap.objs.size ≤ b) ∧ b ≠ X.env.locals ∧ (∀ x c, X.env.cells.lookup x = some c → c ≠ b) ∧ ∀ p ∈ X.pn ++ pins, p.1 ≠ b)
    (keep : ∀ b o, b ≠ X.env.locals → b ∉ X.fs → b ∉ ch → s.heap.get? b = some o → H b = none → h'.get? b = some o)
    (slot : ∀ b o, b ≠ X.env.locals → b ∈ X.fs → b ∉ ch → s.heap.get? b = some o → H b = none → ∃ sl, h'.get? b = some { o with slots := sl }) (free : ∀ b o, b ∉ ch → s.heap.get? b = some o → H b = none → H' b = none)
    (there : ∀ b o, b ∉ ch → s.heap.get? b = some o → ∃ o', h'.get? b = some o')
    (tups : ∀ b xs, H b = some (.tup xs) → H' b = some (.tup xs)) (frzs : ∀ b o u, H b = some (.frz o u) → H' b = some (.frz o u)) (tbls : ∀ b ps, H b = some (.tbl ps) → ∃ more, H' b = some (.tbl (ps ++ more)))
    (ns : ∀ m, s.heap.Ns X.env.locals m → h'.Ns X.env.locals m) (hok : HOk X.prog X.w H' h') (hg : AllBare g') :
    Inv X pins σ H' { s with heap := h', gens := g', drawn := d', toks := t' } := by
  have neL : ∀ b o, X.s₀.heap.get? b = some o → b ≠ X.env.locals := fun b o e => Nat.ne_of_lt (Nat.lt_of_lt_of_le (Heap.lt_size e) I.ok.above)
  have neC : ∀ b o, X.s₀.heap.get? b = some o → b ∉ X.ex → b ∉ ch := fun b o e hx hb => by
    rcases (hch b hb).1 with z | z
    · exact hx z
    · exact absurd (Nat.lt_of_lt_of_le (Heap.lt_size e) z) (Nat.lt_irrefl _)
  have cellK : ∀ x c, X.env.cells.lookup x = some c → ∀ v, s.heap.IsCell c v → h'.IsCell c v := fun x c e v x__1 => by
    obtain ⟨o, ho, hd⟩ := x__1
    have nch : c ∉ ch := fun z => (hch c z).2.2.1 x c e rfl
    by_cases hc : c ∈ X.fs
    · obtain ⟨sl, q⟩ := slot c o (I.cne x c e) hc nch ho (I.freeC x c e)
      exact ⟨_, q, hd⟩
    · exact ⟨o, keep c o (I.cne x c e) hc nch ho (I.freeC x c e), hd⟩
  refine ⟨I.ok, I.os, hg, ⟨fun b o e n hb hx => ?_, fun b o e n hb hx => ?_, fun b o e n hx => ?_, fun b o e hx => ?_, fun b xs e => tups b xs (I.base.tups b xs e), fun b o xs e => frzs b o xs (I.base.frzs b o xs e), fun b ps e => ?_⟩, ?_, fun x c e => ?_, ?_, fun x c e => ?_, fun p hp => ?_, hok, I.len⟩
  · exact keep b o (neL b o e) hb (neC b o e hx) (I.base.keep b o e n hb hx) (I.base.free b o e n hx)
  · obtain ⟨sl, e1⟩ := I.base.slot b o e n hb hx
    obtain ⟨sl', e2⟩ := slot b _ (neL b o e) hb (neC b o e hx) e1 (I.base.free b o e n hx)
    exact ⟨sl', e2⟩
  · obtain ⟨o', e1⟩ := I.base.there b o e hx
    exact free b o' (neC b o e hx) e1 (I.base.free b o e n hx)
  · obtain ⟨o', e1⟩ := I.base.there b o e hx
    exact there b o' (neC b o e hx) e1
  · obtain ⟨m1, e1⟩ := I.base.tbls b ps e
    obtain ⟨m2, e2⟩ := tbls b _ e1
    exact ⟨m1 ++ m2, by rw [e2, Array.append_assoc]⟩
  · obtain ⟨m, hn, hl⟩ := I.loc
    refine ⟨m, ns m hn, fun i x v e1 e2 e3 => ?_⟩
    obtain ⟨u, r, l⟩ := hl i x v e1 e2 e3
    refine ⟨u, r, ?_⟩
    rcases l with l | ⟨k, c, e, z⟩
    · exact .inl l
    · exact .inr ⟨k, c, e, cellK x c e _ z⟩
  · obtain ⟨v, z⟩ := I.cell x c e
    exact ⟨v, cellK x c e v z⟩
  · obtain ⟨m, ⟨o, _, _, ho, _⟩, _⟩ := I.loc
    exact free _ o (fun z => (hch _ z).2.1 rfl) ho I.free
  · obtain ⟨v, o, ho, hd⟩ := I.cell x c e
    exact free c o (fun z => (hch c z).2.2.1 x c e rfl) ho (I.freeC x c e)
  · obtain ⟨e, n, ne, nf, d⟩ := I.pin p hp
    have nch : p.1 ∉ ch := fun z => (hch p.1 z).2.2.2 p hp rfl
    exact ⟨keep p.1 p.2 ne nf nch e n, free p.1 p.2 nch e n, ne, nf, d⟩
theorem Inv.un {t' : Nat} (I : Inv X pins σ H s) (u : Un X.fs [] H H' s.heap h') (hok : HOk X.prog X.w H' h') : Inv X pins σ H' { s with heap := h', toks := t' } := by
  obtain ⟨m, ⟨o, es, ep, ho, r⟩, _⟩ := id I.loc
  obtain ⟨sl, hL⟩ := u.any ho I.free (by simp)
  exact I.step (g' := s.gens) (d' := s.drawn) (ch := []) (fun _ z => nomatch z) (fun b o _ hb _ e n => u.keep b o e n hb (by simp)) (fun b o _ hb _ e n => u.slot b o e n hb (by simp)) (fun b o _ e n => u.free b o e n (by simp)) (fun b o _ e => u.there b o e (by simp)) u.tups u.frzs u.tbls (fun m' hm => by
    obtain ⟨o', es', ep', ho', r'⟩ := hm
    rw [ho] at ho'; cases ho'
    exact ⟨_, es', ep', hL, r'⟩) hok I.bare
theorem Inv.call {g' : Array GenState} {t' : Nat} {d' : Drawn} {ch : List Addr} (I : Inv X pins σ H s) (u : Un (frs X.stack) ch H H' s.heap h') (hok : HOk X.prog X.w H' h') (hg : AllBare g')
    (hch : ∀ b ∈ ch, (b ∈ X.ex ∨ X.s₀.heap.objs.size ≤ b) ∧ b ≠ X.env.locals ∧ (∀ x c, X.env.cells.lookup x = some c → c ≠ b) ∧ ∀ p ∈ X.pn ++ pins, p.1 ≠ b) :
    Inv X pins σ H' { s with heap := h', gens := g', drawn := d', toks := t' } := by
  obtain ⟨m, ⟨o, es, ep, ho, r⟩, _⟩ := id I.loc
  obtain ⟨sl, hL⟩ := u.any ho I.free fun z => (hch _ z).2.1 rfl
  exact I.step (ch := ch) hch (fun b o hL hb hc e n => u.keep b o e n (fun z => (List.mem_cons.mp (I.stkSub b z)).elim hL hb) hc) (fun b o _ _ hc e n => u.any e n hc) (fun b o hc e n => u.free b o e n hc) (fun b o hc e => u.there b o e hc) u.tups u.frzs u.tbls (fun m' hm => by
    obtain ⟨o', es', ep', ho', r'⟩ := hm
    rw [ho] at ho'; cases ho'
    exact ⟨_, es', ep', hL, r'⟩) hok hg
theorem Inv.turned {t' : Nat} {it : Addr} (I : Inv X pins σ H s) (k : ∀ b o, b ≠ it → s.heap.get? b = some o → h'.get? b = some o) (hn : H it = none) (hL : it ≠ X.env.locals)
    (h1 : it ∈ X.ex ∨ X.s₀.heap.objs.size ≤ it) (h2 : ∀ x c, X.env.cells.lookup x = some c → c ≠ it) (h3 : ∀ p ∈ X.pn ++ pins, p.1 ≠ it) : Inv X pins σ H { s with heap := h', toks := t' } := by
  have nit : ∀ b u, H b = some u → b ≠ it := fun b u e z => by rw [z, hn] at e; cases e
  refine I.step (g' := s.gens) (d' := s.drawn) (ch := [it]) (fun b hb => ?_) (fun b o _ _ hc e _ => k b o (fun z => hc (by simp [z])) e) (fun b o _ _ hc e _ => ⟨o.slots, k b o (fun z => hc (by simp [z])) e⟩) (fun _ _ _ _ n => n)
    (fun b o hc e => ⟨o, k b o (fun z => hc (by simp [z])) e⟩) (fun _ _ e => e) (fun _ _ _ e => e) (fun b ps e => ⟨#[], by rw [e]; simp⟩) (fun m hm => ?_) (fun b u e => ?_) I.bare
  · have e : b = it := by simpa using hb
    subst e
    exact ⟨h1, hL, h2, h3⟩
  · obtain ⟨o, es, ep, ho, r⟩ := hm
    exact ⟨o, es, ep, k _ o (Ne.symm hL) ho, r⟩
  · refine (I.hok b u e).stay (fun c v hc q => k c v ?_ q) (fun _ q => q) fun _ _ q => q
    rcases hc with z | z
    · rw [z]; exact nit b u e
    · exact nit c _ z
theorem Inv.tok (I : Inv X pins σ H s) (t : Nat) : Inv X pins σ H { s with toks := t } := I.un (h' := s.heap) (t' := t) Un.refl I.hok
theorem Inv.kept {t' : Nat} (I : Inv X pins σ H s) (k : ∀ b u, s.heap.get? b = some u → h'.get? b = some u) : Inv X pins σ H { s with heap := h', toks := t' } := I.un (Un.kept k) (I.hok.kept k)
theorem Inv.laid {a : Addr} {o : HO} {t' : Nat} (I : Inv X pins σ H s) (k : ∀ b u, s.heap.get? b = some u → h'.get? b = some u) (hp : s.heap.objs.size ≤ a) (new : ObjOk X.prog X.w (upd H a o) h' a o) :
    Inv X pins σ (upd H a o) { s with heap := h', toks := t' } := I.un (Un.laid k hp (I.hok.fresh hp)) (I.hok.laid k hp new)
theorem Inv.write {x e : Addr} {o : HO} {t' : Nat} (I : Inv X pins σ H s) (mu : Mut (H x)) (he : e = x ∨ H e = some (.own x)) (k : ∀ b u, b ≠ e → s.heap.get? b = some u → h'.get? b = some u) (heo : ∃ u, h'.get? e = some u)
    (new : ObjOk X.prog X.w (upd H x o) h' x o) : Inv X pins σ (upd H x o) { s with heap := h', toks := t' } := I.un (Un.write mu he k heo) (I.hok.write mu he k heo new)
theorem Inv.weak {σ' : List (Option V)} (I : Inv X pins σ H s) (hl : σ'.length = σ.length) (w : ∀ (i : Nat) v, σ'[i]? = some (some v) → σ[i]? = some (some v)) : Inv X pins σ' H s :=
  ⟨I.ok, I.os, I.bare, I.base, let ⟨m, hn, hl'⟩ := I.loc; ⟨m, hn, fun i x v e1 e2 e3 => hl' i x v e1 (w i v e2) e3⟩, I.cell, I.free, I.freeC, I.pin, I.hok, hl.trans I.len⟩
theorem Inv.pins_of {pins' : List (Addr × Obj)} (I : Inv X pins σ H s) (h : ∀ p ∈ pins', s.heap.get? p.1 = some p.2 ∧ H p.1 = none ∧ p.1 ≠ X.env.locals ∧ p.1 ∉ X.fs ∧ ∀ v, p.2.data ≠ .cell v) : Inv X pins' σ H s :=
  ⟨I.ok, I.os, I.bare, I.base, I.loc, I.cell, I.free, I.freeC, fun p hp => (List.mem_append.mp hp).elim (fun z => I.pin p (List.mem_append_left _ z)) (h p), I.hok, I.len⟩

theorem nodup_ix {N : List Str} (hN : N.Nodup) {i j : Nat} {x : Str} (a : N[i]? = some x) (b : N[j]? = some x) : i = j := by
  obtain ⟨h1, e1⟩ := List.getElem?_eq_some_iff.mp a
  obtain ⟨h2, e2⟩ := List.getElem?_eq_some_iff.mp b
  exact (List.getElem_inj hN).mp (e1.trans e2.symm)

theorem store_ok2 {M : Model} {A : Around} {E : Value → Shared → Prop} {i : Nat} {x : Str} {v : V} {u : Value} {Q : Unit → Shared → Prop} (I : Inv X pins σ H s) (hN : X.N.Nodup) (hi : X.N[i]? = some x) (hx : Loc X.env.scope x) (r : RelV v u)
    (h : ∀ s', Inv X pins (σ.set i (some v)) H s' → (∃ a, Heap.SameBut a s.heap s'.heap ∧ (a = X.env.locals ∨ X.env.cells.lookup x = some a)) → Q () s') (hf : X.fn x = true ∨ X.env.scope.names.lookup x = some .local := by first | exact .inl rfl | exact .inr rfl | assumption) : wpAny M A (storeName X.env x u) Q E s := by
  obtain ⟨m, hn, hl⟩ := id I.loc
  have hcls : (X.env.scope.kind == .class || (X.env.scope.kind == .module && X.env.locals != X.env.globals)) = false := by rw [I.ok.kind]; rfl
  have hiσ : i < σ.length := by rw [I.len]; exact (List.getElem?_eq_some_iff.mp hi).1
  have cne := I.cne
  have tracked : ∀ {a : Addr} {h' : Heap}, (∃ o, s.heap.get? a = some o ∧ H a = none) → Heap.SameBut a s.heap h' → HOk X.prog X.w H h' := fun {a h'} ha hs b ob e => by
    obtain ⟨_, _, hfree⟩ := ha
    refine (I.hok b ob e).stay (fun c w' hc q => (hs.2 c ?_).trans q) (fun _ q => q) fun _ _ q => q
    rintro rfl
    rcases hc with rfl | hc
    · rw [hfree] at e; cases e
    · rw [hfree] at hc; cases hc
  rcases hx with hk | hk
  · refine wpAny_storeName_local hk hn (fun h' hn' hs => ?_) hcls
    obtain ⟨oL, _, _, hoL, _⟩ := id hn
    refine h _ ⟨I.ok, I.os, I.bare, ⟨fun b o e n hb hx => ?_, fun b o e n hb hx => ?_, I.base.free, fun b o e hx => ?_, I.base.tups, I.base.frzs, I.base.tbls⟩, ⟨_, hn', fun j y v' e1 e2 e3 => ?_⟩, fun y c e => ?_, I.free, I.freeC, fun p hp => ?_, tracked ⟨oL, hoL, I.free⟩ hs, by simpa using I.len⟩ ⟨_, hs, .inl rfl⟩
    · exact (hs.2 b (Nat.ne_of_lt (Nat.lt_of_lt_of_le (Heap.lt_size e) I.ok.above))).trans (I.base.keep b o e n hb hx)
    · obtain ⟨sl, e1⟩ := I.base.slot b o e n hb hx
      exact ⟨sl, (hs.2 b (Nat.ne_of_lt (Nat.lt_of_lt_of_le (Heap.lt_size e) I.ok.above))).trans e1⟩
    · obtain ⟨o', e1⟩ := I.base.there b o e hx
      exact ⟨o', (hs.2 b (Nat.ne_of_lt (Nat.lt_of_lt_of_le (Heap.lt_size e) I.ok.above))).trans e1⟩
    · by_cases hj : j = i
      · subst hj
        rw [hi] at e1; cases e1
        rw [List.getElem?_set_self hiσ] at e2
        cases e2
        exact ⟨u, r, .inl ⟨hk, by simp⟩⟩
      · rw [List.getElem?_set_ne (Ne.symm hj)] at e2
        obtain ⟨u', r', q⟩ := hl j y v' e1 e2 e3
        refine ⟨u', r', ?_⟩
        rcases q with ⟨k, e⟩ | ⟨k, c, e, z⟩
        · refine .inl ⟨k, ?_⟩
          have : y ≠ x := fun e => hj (nodup_ix hN e1 (e ▸ hi))
          simp [this, e]
        · exact .inr ⟨k, c, e, z.sameBut hs (cne y c e)⟩
    · obtain ⟨w', z⟩ := I.cell y c e
      exact ⟨w', z.sameBut hs (cne y c e)⟩
    · obtain ⟨e, n, ne, nf, d⟩ := I.pin p hp
      exact ⟨(hs.2 p.1 ne).trans e, n, ne, nf, d⟩
  · have hfn : X.fn x = true := by
      rcases hf with z | z
      · exact z
      · rw [z] at hk; cases hk
    obtain ⟨c, hc⟩ := I.ok.has x (.inl hk)
    obtain ⟨w', z⟩ := I.cell x c hc
    refine wpAny_storeName_cell I.ok.kind hk hc z (fun h' hc' hs => ?_)
    obtain ⟨oc, hoc, hocd⟩ := id z
    refine h { s with heap := h' } ⟨I.ok, I.os, I.bare, ⟨fun b o e n hb hx => ?_, fun b o e n hb hx => ?_, I.base.free, fun b o e hx => ?_, I.base.tups, I.base.frzs, I.base.tbls⟩, ⟨m, hn.sameBut hs (Ne.symm (cne x c hc)), fun j y v' e1 e2 e3 => ?_⟩, fun y c' e => ?_, I.free, I.freeC, fun p hp => ?_, tracked ⟨oc, hoc, I.freeC x c hc⟩ hs, by simpa using I.len⟩ ⟨c, hs, .inr hc⟩
    · exact (hs.2 b (Nat.ne_of_lt (Nat.lt_of_lt_of_le (Heap.lt_size e) (I.ok.cab x c hfn hc)))).trans (I.base.keep b o e n hb hx)
    · obtain ⟨sl, e1⟩ := I.base.slot b o e n hb hx
      exact ⟨sl, (hs.2 b (Nat.ne_of_lt (Nat.lt_of_lt_of_le (Heap.lt_size e) (I.ok.cab x c hfn hc)))).trans e1⟩
    · obtain ⟨o', e1⟩ := I.base.there b o e hx
      exact ⟨o', (hs.2 b (Nat.ne_of_lt (Nat.lt_of_lt_of_le (Heap.lt_size e) (I.ok.cab x c hfn hc)))).trans e1⟩
    · by_cases hj : j = i
      · subst hj
        rw [hi] at e1; cases e1
        rw [List.getElem?_set_self hiσ] at e2
        cases e2
        exact ⟨u, r, .inr ⟨.inl hk, c, hc, hc'⟩⟩
      · rw [List.getElem?_set_ne (Ne.symm hj)] at e2
        obtain ⟨u', r', q⟩ := hl j y v' e1 e2 e3
        refine ⟨u', r', ?_⟩
        rcases q with q | ⟨k, c', e, z'⟩
        · exact .inl q
        · refine .inr ⟨k, c', e, z'.sameBut hs ?_⟩
          rintro rfl
          exact hj (nodup_ix hN e1 (I.ok.inj _ _ _ e hc ▸ hi))
    · by_cases hcc : c' = c
      · subst hcc; exact ⟨_, hc'⟩
      · obtain ⟨w2, z2⟩ := I.cell y c' e
        exact ⟨w2, z2.sameBut hs hcc⟩
    · obtain ⟨e, n, ne, nf, d⟩ := I.pin p hp
      refine ⟨(hs.2 p.1 ?_).trans e, n, ne, nf, d⟩
      intro q
      rw [q, hoc] at e
      have q' : oc = p.2 := Option.some.inj e
      exact d w' (by rw [← q']; exact hocd)
theorem store_ok {M : Model} {A : Around} {E : Value → Shared → Prop} {i : Nat} {x : Str} {v : V} {u : Value} {Q : Unit → Shared → Prop} (I : Inv X pins σ H s) (hN : X.N.Nodup) (hi : X.N[i]? = some x) (hx : Loc X.env.scope x) (r : RelV v u)
    (h : ∀ s', Inv X pins (σ.set i (some v)) H s' → Q () s') (hf : X.fn x = true ∨ X.env.scope.names.lookup x = some .local := by first | exact .inl rfl | exact .inr rfl | assumption) : wpAny M A (storeName X.env x u) Q E s :=
  store_ok2 I hN hi hx r (fun s' I' _ => h s' I') hf
theorem Inv.call' {s' : Shared} {ch : List Addr} (I : Inv X pins σ H s) (ho : s'.os = s.os) (u : Un (frs X.stack) ch H H' s.heap s'.heap) (hok : HOk X.prog X.w H' s'.heap) (hg : AllBare s'.gens)
    (hch : ∀ b ∈ ch, (b ∈ X.ex ∨ X.s₀.heap.objs.size ≤ b) ∧ b ≠ X.env.locals ∧ (∀ x c, X.env.cells.lookup x = some c → c ≠ b) ∧ ∀ p ∈ X.pn ++ pins, p.1 ≠ b) : Inv X pins σ H' s' := by
  obtain ⟨h', g', d', t', o'⟩ := s'
  have e : o' = s.os := ho
  subst e
  exact I.call (g' := g') (t' := t') (d' := d') u hok hg hch
end

noncomputable abbrev XK := Value → Option Addr → Hp → Prop
noncomputable abbrev St := List (Option V)
noncomputable abbrev VK := V → Hp → Prop
noncomputable abbrev TE := St → Hp → VK → Prop
noncomputable abbrev TT := St → Hp → (Bool → Hp → Prop) → Prop
noncomputable abbrev TA := St → Hp → (List V → Hp → Prop) → Prop
structure Ends where
  nx : St → Hp → Prop
  rt : VK
  bk : St → Hp → Prop := fun _ _ => False
  ct : St → Hp → Prop := fun _ _ => False
noncomputable abbrev TS := Ends → St → Hp → Prop

inductive NP (X : Cx) (pins : List (Addr × Obj)) (Q : St → Hp → Prop) (s' : Shared) : Prop
  | mk (σ' : St) (H' : Hp) (h0 : Inv X pins σ' H' s') (h1 : Q σ' H')
inductive RP (X : Cx) (pins : List (Addr × Obj)) (Q : VK) (u : Value) (s' : Shared) : Prop
  | mk (v : V) (σ' : St) (H' : Hp) (h0 : Inv X pins σ' H' s') (h1 : RelV v u) (h2 : Q v H')
inductive EP (X : Cx) (pins : List (Addr × Obj)) (σ : St) (Q : VK) (u : Value) (s' : Shared) : Prop
  | mk (v : V) (H' : Hp) (h0 : Inv X pins σ H' s') (h1 : RelV v u) (h2 : Q v H')
inductive TP (X : Cx) (pins : List (Addr × Obj)) (σ : St) (Q : Bool → Hp → Prop) (b : Bool) (s' : Shared) : Prop
  | mk (H' : Hp) (h0 : Inv X pins σ H' s') (h1 : Q b H')
inductive AP (X : Cx) (pins : List (Addr × Obj)) (σ : St) (Q : List V → Hp → Prop) (us : List Value) (s' : Shared) : Prop
  | mk (vs : List V) (H' : Hp) (h0 : Inv X pins σ H' s') (h1 : Vals vs us) (h2 : Q vs H')
noncomputable def SP (X : Cx) (pins : List (Addr × Obj)) (D : Ends) (f : Flow) (s' : Shared) : Prop :=
  match f with
  | .next => NP X pins D.nx s'
  | .brk => NP X pins D.bk s'
  | .cont => NP X pins D.ct s'
  | .ret u => RP X pins D.rt u s'

noncomputable def PE (X : Cx) (e : Expr) (t : TE) : Prop :=
  ∀ (pins : List (Addr × Obj)) (s : Shared) (σ : St) (H : Hp) (Q : VK), Inv X pins σ H s → t σ H Q → wpAny (model X.prog X.w) X.A (eval e X.env) (EP X pins σ Q) X.xe s
noncomputable def PT (X : Cx) (e : Expr) (t : TT) : Prop :=
  ∀ (pins : List (Addr × Obj)) (s : Shared) (σ : St) (H : Hp) (Q : Bool → Hp → Prop), Inv X pins σ H s → t σ H Q → wpAny (model X.prog X.w) X.A (isTrue e X.env (eval e X.env)) (TP X pins σ Q) X.xe s
noncomputable def PW (X : Cx) (e : Expr) (t : TT) : Prop :=
  ∀ (whole : Sem Value) (pins : List (Addr × Obj)) (s : Shared) (σ : St) (H : Hp) (Q : Bool → Hp → Prop), Inv X pins σ H s → t σ H Q → wpAny (model X.prog X.w) X.A (isTrue e X.env whole) (TP X pins σ Q) X.xe s
theorem PW.pt {X : Cx} {e : Expr} {t : TT} (h : PW X e t) : PT X e t := h _
noncomputable def PA (X : Cx) (es : List Expr) (t : TA) : Prop :=
  ∀ (pos : Pos) (pins : List (Addr × Obj)) (s : Shared) (σ : St) (H : Hp) (Q : List V → Hp → Prop), Inv X pins σ H s → t σ H Q → wpAny (model X.prog X.w) X.A (spliced (backTo pos (starEach es X.env))) (AP X pins σ Q) X.xe s
noncomputable def PS (X : Cx) (st : Stmt) (t : TS) : Prop :=
  ∀ (pins : List (Addr × Obj)) (s : Shared) (σ : St) (H : Hp) (D : Ends), Inv X pins σ H s → t D σ H → wpAny (model X.prog X.w) X.A (exec st X.env) (SP X pins D) X.xe s
noncomputable def PSs (X : Cx) (st : List Stmt) (t : TS) : Prop :=
  ∀ (pins : List (Addr × Obj)) (s : Shared) (σ : St) (H : Hp) (D : Ends), Inv X pins σ H s → t D σ H → wpAny (model X.prog X.w) X.A (execs st X.env) (SP X pins D) X.xe s
theorem thn {α : Type} {t : Sem α} {Q Q' : α → Shared → Prop} {M : Model} {A : Around} {E : Value → Shared → Prop} {s : Shared} (h : wpAny M A t Q E s) (hQ : ∀ a s, Q a s → Q' a s) : wpAny M A t Q' E s := wpAny_mono h hQ fun _ _ x => x
end L2

namespace L2
open PySem PySem.Spec PyProof.Rows
section
variable {X : Cx}

noncomputable def tVar (i : Nat) : TE := fun σ H Q => ∃ v, σ[i]? = some (some v) ∧ Q v H
noncomputable def tC (v : V) : TE := fun _ H Q => Q v H
theorem pe_var {i : Nat} {x : Str} {pos : Pos} (hN : X.N[i]? = some x) (hv : Vis X.env.scope x) (hd : (x == ("__debug__" : Str)) = false := by decide) (hcd : (x == ("__classdict__" : Str)) = false := by decide) : PE X (.Name x pos) (tVar i) := by
  intro pins s σ H Q I h
  obtain ⟨v, e, h⟩ := h
  obtain ⟨m, hn, hl⟩ := I.loc
  obtain ⟨u, r, l⟩ := hl i x v hN e hv
  have fin : EP X pins σ Q u s := ⟨v, H, I, r, h⟩
  rcases l with ⟨hk, hm⟩ | ⟨hk, c, hc, hcell⟩
  · exact wpAny_Name (wpAny_loadName_local I.ok.kind hk hn hm fin) hd
  · rcases hk with hk | hk
    · exact wpAny_Name (wpAny_loadName_cell I.ok.kind hk hc hcell fin) hd
    · exact wpAny_Name (wpAny_loadName_free I.ok.kind hk hc hcell fin hcd) hd
theorem pe_int {i j pos} : PE X (.Constant (.int i) j pos) (tC (.int i)) := fun _ _ _ H _ I h => wpAny_Constant_int ⟨.int i, H, I.tok _, ⟨_, rfl⟩, h⟩
theorem pe_bl {b j pos} : PE X (.Constant (.bool b) j pos) (tC (.bl b)) := fun _ _ _ H _ I h => Constant_bool ⟨.bl b, H, I, rfl, h⟩
theorem pe_non {j pos} : PE X (.Constant .none j pos) (tC .non) := fun _ _ _ H _ I h => Constant_none ⟨.non, H, I, rfl, h⟩
theorem pe_str {x j pos} : PE X (.Constant (.str x) j pos) (tC (.str x)) := fun _ _ _ H _ I h => Calls.Constant_str ⟨.str x, H, I.tok _, ⟨_, rfl⟩, h⟩

noncomputable def Gl (X : Cx) (x : Str) : Prop := X.env.kindOf x = some .globalImplicit
theorem ld_glob {E : Value → Shared → Prop} {pins : List (Addr × Obj)} {s : Shared} {σ : St} {H : Hp} {x : Str} {u : Value} {pos : Pos} {Q : Value → Shared → Prop} (I : Inv X pins σ H s) (hg : Gl X x) (hm : X.mg x = some u) (h : Q u s)
    (hd : (x == ("__debug__" : Str)) = false := by decide) : wpAny (model X.prog X.w) X.A (eval (.Name x pos) X.env) Q E s :=
  Calls.Name_function_global I.ok.kind hg (Calls.loadGlobal_global (by rw [I.ok.glob]; exact I.mod.glob.keeps I.bk) hm h) hd
theorem ld_blt {E : Value → Shared → Prop} {pins : List (Addr × Obj)} {s : Shared} {σ : St} {H : Hp} {x : Str} {u : Value} {pos : Pos} {Q : Value → Shared → Prop} (I : Inv X pins σ H s) (hg : Gl X x) (hm : X.mg x = none) (hv : bootBuiltins x = some u) (h : Q u s)
    (hn : x ≠ "__name__" := by decide) (hd : (x == ("__debug__" : Str)) = false := by decide) : wpAny (model X.prog X.w) X.A (eval (.Name x pos) X.env) Q E s := by
  obtain ⟨mb, h1, h2⟩ := I.mod.blt
  exact Calls.Name_function_global I.ok.kind hg (Calls.loadGlobal_builtin (by rw [I.ok.glob]; exact I.mod.glob.keeps I.bk) hm (by rw [I.ok.blt]; exact h1.keeps I.bk) ((h2 x hn).trans hv) h) hd
theorem pe_glob {x : Str} {v : V} {u : Value} {pos : Pos} (hg : Gl X x) (hm : X.mg x = some u) (r : RelV v u) (hd : (x == ("__debug__" : Str)) = false := by decide) : PE X (.Name x pos) (tC v) :=
  fun _ _ _ H _ I h => ld_glob I hg hm ⟨v, H, I, r, h⟩ hd
theorem pe_bltn {x : Str} {v : V} {u : Value} {pos : Pos} (hg : Gl X x) (hm : X.mg x = none) (hv : bootBuiltins x = some u) (r : RelV v u) (hn : x ≠ "__name__" := by decide) (hd : (x == ("__debug__" : Str)) = false := by decide) : PE X (.Name x pos) (tC v) :=
  fun _ _ _ H _ I h => ld_blt I hg hm hv ⟨v, H, I, r, h⟩ hn hd

variable {a b : Expr} {ta tb : TE} {pos : Pos}
variable {tA tB' : TT} {rest : List Expr}
noncomputable def tAnd (t u : TT) : TT := fun σ H Q => t σ H fun c H1 => if c = true then u σ H1 Q else Q false H1
noncomputable def tOr (t u : TT) : TT := fun σ H Q => t σ H fun c H1 => if c = true then Q true H1 else u σ H1 Q
noncomputable def tNot (t : TT) : TT := fun σ H Q => t σ H fun c H1 => Q (!c) H1
theorem pw_and1 (ha : PT X a tA) : PW X (.BoolOp .And [a] pos) tA := by
  intro wh pins s σ H Q I h
  refine isTrue_and (thn (ha pins s σ H Q I h) fun c s1 e => ?_)
  cases c with
  | true => exact isTrue_and_nil e
  | false => exact e
theorem pw_or1 (ha : PT X a tA) : PW X (.BoolOp .Or [a] pos) tA := by
  intro wh pins s σ H Q I h
  refine isTrue_or (thn (ha pins s σ H Q I h) fun c s1 e => ?_)
  cases c with
  | false => exact isTrue_or_nil e
  | true => exact e
theorem pw_and (ha : PT X a tA) (hb : PW X (.BoolOp .And (b :: rest) pos) tB') : PW X (.BoolOp .And (a :: b :: rest) pos) (tAnd tA tB') := by
  intro wh pins s σ H Q I h
  refine isTrue_and (thn (ha pins s σ H _ I h) fun c s1 x__2 => ?_)
  obtain ⟨H1, I1, q1⟩ := x__2
  cases c with
  | true => exact hb wh pins s1 σ H1 Q I1 q1
  | false => exact ⟨H1, I1, q1⟩
theorem pw_or (ha : PT X a tA) (hb : PW X (.BoolOp .Or (b :: rest) pos) tB') : PW X (.BoolOp .Or (a :: b :: rest) pos) (tOr tA tB') := by
  intro wh pins s σ H Q I h
  refine isTrue_or (thn (ha pins s σ H _ I h) fun c s1 x__3 => ?_)
  obtain ⟨H1, I1, q1⟩ := x__3
  cases c with
  | true => exact ⟨H1, I1, q1⟩
  | false => exact hb wh pins s1 σ H1 Q I1 q1
theorem pt_not (ha : PT X a tA) : PT X (.UnaryOp .Not a pos) (tNot tA) := by
  intro pins s σ H Q I h
  exact isTrue_not (thn (ha pins s σ H (fun c H1 => Q (!c) H1) I h) fun c s1 x__4 => (by obtain ⟨H1, I1, q1⟩ := x__4; exact ⟨H1, I1, q1⟩))
noncomputable def tAndV (ta tb : TE) : TE := fun σ H Q => ta σ H fun x H1 => ∃ c, x = .bl c ∧ if c = true then tb σ H1 Q else Q (.bl false) H1
noncomputable def tNotV (ta : TE) : TE := fun σ H Q => ta σ H fun x H1 => ∃ c, x = .bl c ∧ Q (.bl (!c)) H1
theorem pe_one {op} {t : TE} (h : PE X a t) : PE X (.BoolOp op [a] pos) t := fun pins s σ H Q I hw => BoolOp_one (h pins s σ H Q I hw)
theorem pe_and (ha : PE X a ta) (hb : PE X (.BoolOp .And (b :: rest) pos) tb) : PE X (.BoolOp .And (a :: b :: rest) pos) (tAndV ta tb) := by
  intro pins s σ H Q I h
  refine BoolOp_and (thn (ha pins s σ H _ I h) fun v s1 x__5 => ?_)
  obtain ⟨x, H1, I1, r1, q1⟩ := x__5
  obtain ⟨c, rfl, q1⟩ := q1
  cases r1
  refine wpAny_truthy_bool ?_
  cases c with
  | true => exact hb pins s1 σ H1 Q I1 q1
  | false => exact ⟨.bl false, H1, I1, rfl, q1⟩
theorem pe_not (ha : PE X a ta) : PE X (.UnaryOp .Not a pos) (tNotV ta) := by
  intro pins s σ H Q I h
  refine UnaryOp_ (thn (ha pins s σ H _ I h) fun v s1 x__6 => ?_)
  obtain ⟨x, H1, I1, r1, q1⟩ := x__6
  obtain ⟨c, rfl, q1⟩ := q1
  cases r1
  exact not_of (wpAny_truthy_bool ⟨.bl (!c), H1, I1, rfl, q1⟩)
noncomputable def tIf (t : TT) (ta tb : TE) : TE := fun σ H Q => t σ H fun c H1 => if c = true then ta σ H1 Q else tb σ H1 Q
theorem pe_ifExp {c : Expr} (hc : PT X c tA) (ha : PE X a ta) (hb : PE X b tb) : PE X (.IfExp c a b pos) (tIf tA ta tb) := by
  intro pins s σ H Q I h
  refine wpAny_IfExp (thn (hc pins s σ H _ I h) fun d s1 x__7 => ?_)
  obtain ⟨H1, I1, q1⟩ := x__7
  cases d with
  | true => exact ha pins s1 σ H1 Q I1 q1
  | false => exact hb pins s1 σ H1 Q I1 q1
end
end L2

namespace L2
open PySem PySem.Spec PyProof.Rows

noncomputable def SqL (K : PySem.W.Frag) (H : Hp) (a : Addr) (xs : List V) : Prop :=
  Rd H a (.lst xs) ∨
    ∃ (o : Obj) (its : Array Value) (n : Nat), K.lookup a = some o ∧ o.cls = .type "list" ∧ o.dict = none ∧ o.data = .seq its n ∧ its.size ≤ sizeLine ∧ Vals xs its.toList
noncomputable def SqT (K : PySem.W.Frag) (H : Hp) (a : Addr) (xs : List V) : Prop :=
  Rd H a (.tup xs) ∨
    ∃ (o : Obj) (its : Array Value) (n : Nat), K.lookup a = some o ∧ o.cls = .type "tuple" ∧ o.data = .seq its n ∧ its.size ≤ sizeLine ∧ Vals xs its.toList
noncomputable def absV : Value → Option V
  | .none => some .non
  | .bool b => some (.bl b)
  | .int i _ => some (.int i)
  | .str x _ => some (.str x)
  | .bytes b _ => some (.byt b)
  | .float b _ => some (.flt b)
  | .ref a => some (.ref a)
  | .type n => some (.ty n)
  | _ => none
theorem RelV.abs {x : V} {u : Value} (r : RelV x u) : absV u = some x := by
  cases x with
  | non => cases r; rfl
  | bl _ => cases r; rfl
  | int _ => obtain ⟨t, rfl⟩ := r; rfl
  | str _ => obtain ⟨t, rfl⟩ := r; rfl
  | byt _ => obtain ⟨t, rfl⟩ := r; rfl
  | flt _ => obtain ⟨t, rfl⟩ := r; rfl
  | ref _ => cases r; rfl
  | ty _ => cases r; rfl
theorem RelV.inj {x y : V} {u : Value} (r : RelV x u) (q : RelV y u) : x = y := Option.some.inj (r.abs.symm.trans q.abs)
theorem Vals.inj {xs ys : List V} {us : List Value} (h : Vals xs us) (g : Vals ys us) : xs = ys := by
  induction h generalizing ys with
  | nil => cases g; rfl
  | cons r t ih =>
    cases g with
    | cons r' t' => rw [r.inj r', ih t']
section
variable {X : Cx} {pins : List (Addr × Obj)} {σ : St} {H : Hp} {s : Shared} {a : Addr} {xs ys : List V}
theorem SqL.of {K : PySem.W.Frag} (h : H a = some (.lst xs)) : SqL K H a xs := .inl (.inl h)
theorem SqT.of {K : PySem.W.Frag} (h : H a = some (.tup xs)) : SqT K H a xs := .inl (.inl h)
theorem Inv.list (I : Inv X pins σ H s) (h : SqL X.K H a xs) : ∃ its : List Value, Vals xs its ∧ PlainL s.heap a its.toArray ∧ xs.length ≤ sizeLine := by
  rcases h with h | ⟨o, its, n, hk, hc, hd, hs, hz, r⟩
  · obtain ⟨z, its, n, r, e⟩ := h.ok I.hok
    exact ⟨its, r, ⟨_, n, e, rfl, rfl, rfl⟩, z⟩
  · refine ⟨its.toList, r, ⟨o, n, I.kIn a o hk, hc, hd, by simpa using hs⟩, ?_⟩
    have e := r.length
    simp only [Array.length_toList] at e
    omega
theorem Inv.tuple (I : Inv X pins σ H s) (h : SqT X.K H a xs) : ∃ its : List Value, Vals xs its ∧ IsTup s.heap a its.toArray ∧ xs.length ≤ sizeLine := by
  rcases h with h | ⟨o, its, n, hk, hc, hs, hz, r⟩
  · obtain ⟨z, its, r, p⟩ := h.ok I.hok
    exact ⟨its, r, p, z⟩
  · refine ⟨its.toList, r, ⟨o, I.kIn a o hk, hc, n, by simpa using hs⟩, ?_⟩
    have e := r.length
    simp only [Array.length_toList] at e
    omega
theorem Inv.list_inj (I : Inv X pins σ H s) (h : SqL X.K H a xs) (h' : SqL X.K H a ys) : xs = ys := by
  obtain ⟨its, r, ⟨o, n, e, _, _, d⟩, _⟩ := I.list h
  obtain ⟨its', r', ⟨o', n', e', _, _, d'⟩, _⟩ := I.list h'
  rw [e] at e'; cases e'
  rw [d] at d'
  injection d' with d1 _
  have : its = its' := by simpa using congrArg Array.toList d1
  subst this
  exact r.inj r'
theorem Inv.tuple_inj (I : Inv X pins σ H s) (h : SqT X.K H a xs) (h' : SqT X.K H a ys) : xs = ys := by
  obtain ⟨its, r, ⟨o, e, _, n, d⟩, _⟩ := I.tuple h
  obtain ⟨its', r', ⟨o', e', _, n', d'⟩, _⟩ := I.tuple h'
  rw [e] at e'; cases e'
  rw [d] at d'
  injection d' with d1 _
  have : its = its' := by simpa using congrArg Array.toList d1
  subst this
  exact r.inj r'
end

noncomputable abbrev Cx.wish (X : Cx) (E : Value → Shared → Prop) : Cx := { X with xe := E }
noncomputable abbrev Cx.nox (X : Cx) : Cx := X.wish fun _ _ => False
theorem Cx.Ok.wish {X : Cx} (ok : X.Ok) (E : Value → Shared → Prop) : (X.wish E).Ok :=
  ⟨ok.mod, ok.kind, ok.glob, ok.blt, ok.above, ok.inj, ok.has, ok.cab, ok.hd, ok.frames, ok.stk, ok.exf, ok.bs, ok.bsz, ok.noex, ok.exfs, ok.funs, ok.frf⟩
theorem Cx.Ok.unwish {X : Cx} {E : Value → Shared → Prop} (ok : (X.wish E).Ok) : X.Ok :=
  ⟨ok.mod, ok.kind, ok.glob, ok.blt, ok.above, ok.inj, ok.has, ok.cab, ok.hd, ok.frames, ok.stk, ok.exf, ok.bs, ok.bsz, ok.noex, ok.exfs, ok.funs, ok.frf⟩
section
variable {X : Cx} {pins : List (Addr × Obj)} {σ : St} {H : Hp} {s : Shared} {E : Value → Shared → Prop}
theorem Inv.wish (I : Inv X pins σ H s) (E : Value → Shared → Prop) : Inv (X.wish E) pins σ H s := ⟨I.ok.wish E, I.os, I.bare, I.base, I.loc, I.cell, I.free, I.freeC, I.pin, I.hok, I.len⟩
theorem Inv.unwish (I : Inv (X.wish E) pins σ H s) : Inv X pins σ H s := ⟨I.ok.unwish, I.os, I.bare, I.base, I.loc, I.cell, I.free, I.freeC, I.pin, I.hok, I.len⟩
theorem SP.unwish {D : Ends} {f : Flow} {s' : Shared} (h : SP (X.wish E) pins D f s') : SP X pins D f s' := by
  cases f with
  | next => obtain ⟨σ', H', I, q⟩ := h; exact ⟨σ', H', I.unwish, q⟩
  | brk => obtain ⟨σ', H', I, q⟩ := h; exact ⟨σ', H', I.unwish, q⟩
  | cont => obtain ⟨σ', H', I, q⟩ := h; exact ⟨σ', H', I.unwish, q⟩
  | ret u => obtain ⟨v, σ', H', I, r, q⟩ := h; exact ⟨v, σ', H', I.unwish, r, q⟩
theorem PE.nox {e : Expr} {t : TE} (h : PE X.nox e t) : PE X e t := fun pins s σ H Q I hw =>
  wpAny_mono (h pins s σ H Q (I.wish _) hw) (fun _ _ x__8 => (by obtain ⟨v, H', I', r, q⟩ := x__8; exact ⟨v, H', I'.unwish, r, q⟩)) fun _ _ z => False.elim z
theorem PT.nox {e : Expr} {t : TT} (h : PT X.nox e t) : PT X e t := fun pins s σ H Q I hw =>
  wpAny_mono (h pins s σ H Q (I.wish _) hw) (fun _ _ x__9 => (by obtain ⟨H', I', q⟩ := x__9; exact ⟨H', I'.unwish, q⟩)) fun _ _ z => False.elim z
theorem PSs.nox {st : List Stmt} {t : TS} (h : PSs X.nox st t) : PSs X st t := fun pins s σ H D I hw =>
  wpAny_mono (h pins s σ H D (I.wish _) hw) (fun _ _ q => q.unwish) fun _ _ z => False.elim z
end

section
variable {X : Cx} {st : Stmt} {rest : List Stmt} {t u : TS} {e : Expr} {te : TE} {pos : Pos}
noncomputable def tNext : TS := fun D σ H => D.nx σ H
noncomputable def tSeq (t u : TS) : TS := fun D σ H => t { D with nx := u D } σ H
theorem pss_nil : PSs X [] tNext := fun _ _ σ H _ I h => wpAny_execs_nil ⟨σ, H, I, h⟩
theorem pss_cons (h1 : PS X st t) (h2 : PSs X rest u) : PSs X (st :: rest) (tSeq t u) := by
  intro pins s σ H D I h
  refine wpAny_execs_cons (thn (h1 pins s σ H { D with nx := u D } I h) fun f s1 q => ?_)
  cases f with
  | next =>
    obtain ⟨σ', H', I', q⟩ := q
    exact h2 pins s1 σ' H' D I' q
  | ret v => exact q
  | brk => exact q
  | cont => exact q
theorem pss_one (h1 : PS X st t) : PSs X [st] t := by
  intro pins s σ H D I h
  refine wpAny_execs_cons (thn (h1 pins s σ H D I h) fun f s1 q => ?_)
  cases f with
  | next => exact wpAny_execs_nil q
  | ret v => exact q
  | brk => exact q
  | cont => exact q
theorem Inv.quiet {pins : List (Addr × Obj)} {σ : St} {H : Hp} {s : Shared} (I : Inv X pins σ H s) : interactive X.env = false := by simp [interactive, I.ok.kind]
noncomputable def tDrop (te : TE) : TS := fun D σ H => te σ H fun _ H1 => D.nx σ H1
theorem ps_expr (he : PE X e te) (hs : swapsWith e none pos.line X.env = pure false := by rfl) : PS X (.Expr e pos) (tDrop te) := by
  intro pins s σ H D I h
  exact wpAny_Expr_any (thn (he pins s σ H _ I h) fun v s1 x__10 => (by obtain ⟨x, H1, I1, r1, q1⟩ := x__10; exact ⟨σ, H1, I1, q1⟩)) I.quiet hs
noncomputable def tRet (te : TE) : TS := fun D σ H => te σ H D.rt
theorem ps_ret (he : PE X e te) : PS X (.Return (some e) pos) (tRet te) := by
  intro pins s σ H D I h
  exact wpAny_Return_some (thn (he pins s σ H _ I h) fun v s1 x__11 => (by obtain ⟨x, H1, I1, r1, q1⟩ := x__11; exact ⟨x, σ, H1, I1, r1, q1⟩))
noncomputable def tIfS (c : TT) (t u : TS) : TS := fun D σ H => c σ H fun b H1 => if b = true then t D σ H1 else u D σ H1
theorem ps_if {c : Expr} {a b : List Stmt} {tc : TT} (hc : PT X c tc) (ha : PSs X a t) (hb : PSs X b u) : PS X (.If c a b pos) (tIfS tc t u) := by
  intro pins s σ H D I h
  refine wpAny_If (thn (hc pins s σ H _ I h) fun d s1 x__12 => ?_)
  obtain ⟨H1, I1, q1⟩ := x__12
  cases d with
  | true => exact ha pins s1 σ H1 D I1 q1
  | false => exact hb pins s1 σ H1 D I1 q1
end

noncomputable abbrev TG := V → St → Hp → (St → Hp → Prop) → Prop
noncomputable abbrev TGs := List V → St → Hp → (St → Hp → Prop) → Prop
noncomputable def PG (X : Cx) (target : Expr) (t : TG) : Prop :=
  ∀ (pins : List (Addr × Obj)) (s : Shared) (σ : St) (H : Hp) (v : V) (u : Value) (Q : St → Hp → Prop), Inv X pins σ H s → RelV v u → t v σ H Q →
    wpAny (model X.prog X.w) X.A (assign target X.env u) (fun _ s' => NP X pins Q s') X.xe s
noncomputable def PGs (X : Cx) (ts : List Expr) (t : TGs) : Prop :=
  ∀ (pins : List (Addr × Obj)) (s : Shared) (σ : St) (H : Hp) (vs : List V) (us : List Value) (Q : St → Hp → Prop), Inv X pins σ H s → Vals vs us → t vs σ H Q →
    wpAny (model X.prog X.w) X.A (assignInOrder ((assignEach ts X.env).map (·.2)) us) (fun _ s' => NP X pins Q s') X.xe s
noncomputable abbrev TSet := V → V → V → Hp → (Hp → Prop) → Prop
noncomputable def PSet (X : Cx) (t : TSet) : Prop :=
  ∀ (pins : List (Addr × Obj)) (s : Shared) (σ : St) (H : Hp) (o i v : V) (ov iv u : Value) (Q : Hp → Prop), Inv X pins σ H s → RelV o ov → RelV i iv → RelV v u → t o i v H Q →
    wpAny (model X.prog X.w) X.A (setItem ov iv u) (fun _ s' => ∃ H', Inv X pins σ H' s' ∧ Q H') X.xe s
section
variable {X : Cx} {pos : Pos}
noncomputable def gName (i : Nat) : TG := fun v σ H Q => Q (σ.set i (some v)) H
theorem pg_name {i : Nat} {x : Str} (hN : X.N.Nodup) (hi : X.N[i]? = some x) (hx : Loc X.env.scope x) (hf : X.fn x = true ∨ X.env.scope.names.lookup x = some .local := by first | exact .inl rfl | exact .inr rfl | assumption) : PG X (.Name x pos) (gName i) := by
  intro pins s σ H v u Q I r h
  exact wpAny_assign_Name (store_ok I hN hi hx r (fun s' I' => ⟨_, H, I', h⟩) hf)
noncomputable def gNil : TGs := fun vs σ H Q => vs = [] ∧ Q σ H
noncomputable def gCons (t : TG) (u : TGs) : TGs := fun vs σ H Q => ∃ v r, vs = v :: r ∧ t v σ H fun σ' H' => u r σ' H' Q
theorem pgs_nil : PGs X [] gNil := by
  intro pins s σ H vs us Q I r h
  obtain ⟨e, h⟩ := h
  subst e
  cases r
  exact assignInOrder_nil ⟨σ, H, I, h⟩
theorem pgs_cons {e : Expr} {es : List Expr} {t : TG} {u : TGs} (h1 : PG X e t) (h2 : PGs X es u)
    (hs : (assignEach (e :: es) X.env).map (·.2) = assign e X.env :: (assignEach es X.env).map (·.2) := by rfl) : PGs X (e :: es) (gCons t u) := by
  intro pins s σ H vs us Q I r h
  obtain ⟨v, vr, e1, h⟩ := h
  subst e1
  cases r with
  | cons r rr =>
    rw [hs]
    refine assignInOrder_cons (thn (h1 pins s σ H _ _ _ I r h) fun _ s1 x__13 => ?_)
    obtain ⟨σ1, H1, I1, q1⟩ := x__13
    exact h2 pins s1 σ1 H1 _ _ Q I1 rr q1
noncomputable def gTup (K : PySem.W.Frag) (n : Nat) (t : TGs) : TG := fun v σ H Q => ∃ a xs, v = .ref a ∧ SqT K H a xs ∧ xs.length = n ∧ t xs σ H Q
theorem pg_tup {es : List Expr} {k : Nat} {t : TGs} {n : Nat} (hc : X.calm = true) (h : PGs X es t)
    (hn : (assignEach es X.env).length = n := by rfl) (hst : (assignEach es X.env).findIdx? (·.1) = none := by rfl) : PG X (.Tuple es k pos) (gTup X.K n t) := by
  intro pins s σ H v u Q I r hw
  obtain ⟨a, xs, e1, hq, hl, hw⟩ := hw
  subst e1
  cases r
  obtain ⟨its, rv, ht, hz⟩ := I.tuple hq
  refine assign_Tuple_tuple (I.ok.hd hc) ht (by simp [hn, ← hl, rv.length]) hst fun h' hx => ?_
  have I1 : Inv X pins σ H { s with heap := h' } := I.kept (t' := s.toks) fun b o e => hx b o (Nat.ne_of_lt (Heap.lt_size e)) e
  exact h pins _ σ H xs _ Q I1 (by simpa using rv) hw
noncomputable def gSub (to ti : TE) (t : TSet) : TG := fun v σ H Q => to σ H fun o H1 => ti σ H1 fun i H2 => t o i v H2 fun H3 => Q σ H3
theorem pg_sub {o i : Expr} {to ti : TE} {t : TSet} (ho : PE X o to) (hi : PE X i ti) (hs : PSet X t)
    (ha : ∀ v, assign (.Subscript o i pos) X.env v = (do
      let ov ← holding [v] (eval o X.env)
      let iv ← holding [v, ov] (eval i X.env)
      standAt pos
      holding [v, ov, iv] (setItem ov iv v)
      release [v, ov, iv] []) := by intro _; rfl) : PG X (.Subscript o i pos) (gSub to ti t) := by
  intro pins s σ H v u Q I r h
  rw [ha]
  refine wpAny_bind (wpAny_holding (thn (ho pins s σ H _ I h) fun ov s1 x__14 => ?_))
  obtain ⟨x, H1, I1, r1, q1⟩ := x__14
  refine wpAny_bind (wpAny_holding (thn (hi pins s1 σ H1 _ I1 q1) fun iv s2 x__15 => ?_))
  obtain ⟨y, H2, I2, r2, q2⟩ := x__15
  refine wpAny_bind (wpAny_standAt (wpAny_bind (wpAny_holding (thn (hs pins s2 σ H2 x y v ov iv u _ I2 r1 r2 r q2) fun _ s3 x__16 => ?_))))
  obtain ⟨H3, I3, q3⟩ := x__16
  exact wpAny_release ⟨σ, H3, I3, q3⟩
noncomputable def tAsg (te : TE) (g : TG) : TS := fun D σ H => te σ H fun x H1 => g x σ H1 D.nx
theorem ps_asg {tg e : Expr} {te : TE} {g : TG} (he : PE X e te) (hg : PG X tg g) (hs : swapsWithSole [tg] e pos.line X.env = pure false := by rfl) (hw : swappedStores [tg] e X.env = pure none := by rfl)
    (h1 : (assignEach [tg] X.env).map (·.2) = [assign tg X.env] := by rfl) : PS X (.Assign [tg] e pos) (tAsg te g) := by
  intro pins s σ H D I h
  refine wpAny_Assign_stores (thn (he pins s σ H _ I h) fun v s1 x__17 => ?_) hs hw
  obtain ⟨x, H1, I1, r1, q1⟩ := x__17
  rw [h1]
  exact thn (hg pins s1 σ H1 x v _ I1 r1 q1) fun _ s2 q => q
theorem ps_set {i : Nat} {x : Str} {e : Expr} {te : TE} {pos' : Pos} (hN : X.N.Nodup) (hi : X.N[i]? = some x) (hx : Loc X.env.scope x) (he : PE X e te) (hs : swapsWith e (some (.Name x pos')) pos.line X.env = pure false := by rfl) (hf : X.fn x = true ∨ X.env.scope.names.lookup x = some .local := by first | exact .inl rfl | exact .inr rfl | assumption) :
    PS X (.Assign [.Name x pos'] e pos) (tAsg te (gName i)) := by
  intro pins s σ H D I h
  refine wpAny_Assign_Name (thn (he pins s σ H _ I h) fun v s1 x__18 => ?_) hs
  obtain ⟨y, H1, I1, r1, q1⟩ := x__18
  exact store_ok I1 hN hi hx r1 (fun s2 I2 => ⟨_, H1, I2, q1⟩) hf
noncomputable def tPar (i j : Nat) (ta : TA) : TS := fun D σ H => ta σ H fun vs H1 => ∃ v w, vs = [v, w] ∧ D.nx ((σ.set i (some v)).set j (some w)) H1
theorem ps_par {i j : Nat} {x y : Str} {a b : Expr} {ta : TA} {px py pt : Pos} {kt k2 pt2} (hc : X.calm = true) (hN : X.N.Nodup) (hi : X.N[i]? = some x) (hj : X.N[j]? = some y) (hij : i ≠ j)
    (hx : X.env.scope.names.lookup x = some .local) (hy : X.env.scope.names.lookup y = some .local) (ha : PA X [a, b] ta)
    (hw : swappedStores [.Tuple [.Name x px, .Name y py] kt pt] (.Tuple [a, b] k2 pt2) X.env = pure (some [x, y]))
    (hs : swapsWithSole [.Tuple [.Name x px, .Name y py] kt pt] (.Tuple [a, b] k2 pt2) pos.line X.env = pure false := by rfl) :
    PS X (.Assign [.Tuple [.Name x px, .Name y py] kt pt] (.Tuple [a, b] k2 pt2) pos) (tPar i j ta) := by
  intro pins s σ H D I h
  rw [exec_Assign_arm]
  refine wpAny_bind (wpAny_standAt ?_)
  rw [hs]
  refine wpAny_bind (wpAny_pure ?_)
  rw [if_neg (by decide)]
  refine wpAny_bind (Tuple_ (thn (ha _ pins s σ H _ I h) fun us s1 x__19 => ?_))
  obtain ⟨vs, H1, I1, r1, q1⟩ := x__19
  obtain ⟨v, w, e1, q1⟩ := q1
  subst e1
  obtain ⟨u1, u2, rfl, rv, rw'⟩ : ∃ u1 u2, us = [u1, u2] ∧ RelV v u1 ∧ RelV w u2 := by
    cases r1 with
    | cons p q =>
      cases q with
      | cons p' q' =>
        cases q'
        exact ⟨_, _, rfl, p, p'⟩
  refine wpAny_newObj_type ?_ (by show 2 ≤ sizeLine; decide)
  have I2 : Inv X pins σ H1 { s1 with heap := s1.heap.push { cls := .type "tuple", data := .seq [u1, u2].toArray } } := I1.kept (t' := s1.toks) fun b o e => Heap.get?_push_of_some _ e
  rw [hw]
  refine wpAny_bind (wpAny_pure ?_)
  show wpAny (model X.prog X.w) X.A (do rule "assign.swapped-stores"; let items ← unpackItems (.ref s1.heap.objs.size) 2 none; assignInOrder [fun v => bindName X.env y v, fun v => bindName X.env x v] items.reverse; pure Flow.next) _ _ _
  refine wpAny_bind (wpAny_rule (wpAny_bind (unpackItems_tuple (items := #[u1, u2]) (I.ok.hd hc) (IsTup.new s1.heap _) fun h' hx' => ?_)))
  have I3 := I2.kept (h' := h') (t' := s1.toks) fun b o e => hx' b o (Nat.ne_of_lt (Heap.lt_size e)) e
  show wpAny _ _ (assignInOrder [fun v => bindName X.env y v, fun v => bindName X.env x v] [u2, u1] >>= fun _ => pure Flow.next) _ _ _
  refine wpAny_bind (assignInOrder_cons (wpAny_bindName (store_ok I3 hN hj (.inl hy) rw' (fun s2 I4 => ?_) (.inr hy))))
  refine assignInOrder_cons (wpAny_bindName (store_ok I4 hN hi (.inl hx) rv (fun s3 I5 => assignInOrder_nil (wpAny_pure ?_)) (.inr hx)))
  rw [List.set_comm _ _ (Ne.symm hij)] at I5
  exact ⟨_, H1, I5, q1⟩
end

section
variable {X : Cx} {pos : Pos}
noncomputable def tWhile (c : TT) (tb : TS) : TS := fun D σ H => ∃ W : Nat → St → Hp → Prop, (∃ m, W m σ H) ∧ ∀ m σ H, W m σ H →
  c σ H fun b H1 => if b = true then ∃ N : St → Hp → Prop, (∀ σ' H', N σ' H' → ∃ m', m' < m ∧ W m' σ' H') ∧ tb { D with nx := N, ct := N, bk := D.nx } σ H1 else D.nx σ H1
theorem ps_while {c : Expr} {body : List Stmt} {tc : TT} {tb : TS} (hp : PassesOwn (model X.prog X.w) X.A X.env X.xe) (hc : PT X c tc) (hb : PSs X body tb) : PS X (.While c body [] pos) (tWhile tc tb) := by
  intro pins s σ H D I h
  obtain ⟨W, ⟨m0, w0⟩, turn⟩ := h
  refine wpAny_While (codeAny_whileLoop (fun n s' => NP X pins (W n) s') ?_ m0 ⟨σ, H, I, w0⟩)
  rintro n s1 ⟨σ1, H1, I1, w1⟩
  refine wpAny_passesOwn hp (thn (hc pins s1 σ1 H1 _ I1 (turn n σ1 H1 w1)) fun b s2 x__20 => ?_)
  obtain ⟨H2, I2, q2⟩ := x__20
  cases b with
  | true =>
    obtain ⟨N, hN, q2⟩ := q2
    rw [if_pos rfl]
    refine wpAny_passesOwn hp (thn (hb pins s2 σ1 H2 _ I2 q2) fun f s3 q3 => ?_)
    cases f with
    | next =>
      obtain ⟨σ3, H3, I3, n3⟩ := q3
      obtain ⟨m', hm, w3⟩ := hN σ3 H3 n3
      exact ⟨m', hm, σ3, H3, I3, w3⟩
    | cont =>
      obtain ⟨σ3, H3, I3, n3⟩ := q3
      obtain ⟨m', hm, w3⟩ := hN σ3 H3 n3
      exact ⟨m', hm, σ3, H3, I3, w3⟩
    | brk => exact q3
    | ret v => exact q3
  | false =>
    rw [if_neg Bool.false_ne_true]
    exact wpAny_execs_nil ⟨σ1, H2, I2, q2⟩
end

structure It where
  go : Nat → Hp → Prop
  yld : Nat → Hp → V → Hp → Prop
  stop : Nat → Hp → Prop
noncomputable def FpOk (X : Cx) (pins : List (Addr × Obj)) (H : Hp) (b : Addr) : Prop :=
  H b = none ∧ b ≠ X.env.locals ∧ b ∉ X.fs ∧ (b ∈ X.ex ∨ X.s₀.heap.objs.size ≤ b) ∧ (∀ x c, X.env.cells.lookup x = some c → c ≠ b) ∧ ∀ p ∈ X.pn ++ pins, p.1 ≠ b
theorem Inv.fpOk {X : Cx} {pins : List (Addr × Obj)} {σ : St} {H H' : Hp} {s : Shared} {b : Addr} (I : Inv X pins σ H s) (hb : s.heap.objs.size ≤ b) (hn : H' b = none) : FpOk X pins H' b := by
  refine ⟨hn, Nat.ne_of_gt (Nat.lt_of_lt_of_le I.lt hb), I.nofs hb, .inr (Nat.le_trans I.sz hb), fun x c e z => ?_, fun p hp z => ?_⟩
  · obtain ⟨v, q⟩ := I.cell x c e
    exact absurd (Nat.lt_of_lt_of_le q.lt (by rw [z]; exact hb)) (Nat.lt_irrefl _)
  · exact absurd (Nat.lt_of_lt_of_le (Heap.lt_size (I.pin p hp).1) (by rw [z]; exact hb)) (Nat.lt_irrefl _)
inductive Yl (X : Cx) (pins : List (Addr × Obj)) (σ : St) (J : It) (i : Nat) (H : Hp) (fp : List Addr) (tn : Nat → Heap → Prop) (u : Value) (s2 : Shared) : Prop
  | mk (x : V) (H' : Hp) (h0 : Inv X pins σ H' s2) (h1 : RelV x u) (h2 : J.yld i H x H') (h3 : tn (i + 1) s2.heap) (h4 : ∀ b ∈ fp, H' b = none)
inductive ForI (X : Cx) (pins : List (Addr × Obj)) (fp : List Addr) (tn : Nat → Heap → Prop) (W : Nat → Nat → St → Hp → Prop) (n : Nat) (s' : Shared) : Prop
  | mk (i : Nat) (σ' : St) (H' : Hp) (h0 : Inv X pins σ' H' s') (h1 : tn i s'.heap) (h2 : ∀ b ∈ fp, H' b = none) (h3 : W i n σ' H')
structure Turn (P : Program) (w : World) (K : PySem.W.Frag) (tg : Expr) (J : It) (fp : List Addr) (it : Addr) (tn : Nat → Heap → Prop) : Prop where
  mem : it ∈ fp
  obj : ∀ i h, tn i h → ∀ b ∈ fp, ∃ o, h.get? b = some o ∧ ∀ v, o.data ≠ .cell v
  keep : ∀ i h h', tn i h → (∀ b ∈ fp, ∀ o, h.get? b = some o → h'.get? b = some o) → tn i h'
  item : ∀ (X : Cx), X.prog = P → X.w = w → X.K = K → X.calm = true → ∀ (i : Nat) (pins : List (Addr × Obj)) (s : Shared) (σ : St) (H : Hp) (E : Value → Shared → Prop), Inv X pins σ H s → (∀ b ∈ fp, FpOk X pins H b) → tn i s.heap → J.go i H →
    wpAny (model P w) X.A (pyNext (.ref it)) (fun r s1 => ∃ u, r = some u ∧
      wpAny (model P w) X.A (letOwnedTupleGo tg (.ref it) u) (fun _ s2 => Yl X pins σ J i H fp tn u s2) E s1) E s
  done : ∀ (X : Cx), X.prog = P → X.w = w → X.K = K → X.calm = true → ∀ (i : Nat) (pins : List (Addr × Obj)) (s : Shared) (σ : St) (H : Hp) (E : Value → Shared → Prop), Inv X pins σ H s → (∀ b ∈ fp, FpOk X pins H b) → tn i s.heap → J.stop i H →
    wpAny (model P w) X.A (pyNext (.ref it)) (fun r s1 => r = none ∧ Inv X pins σ H s1) E s
  self : ∀ (A : Around) (i : Nat) (s : Shared) (Q : Value → Shared → Prop) (E : Value → Shared → Prop), tn i s.heap → Q (.ref it) s → wpAny (model P w) A (pyIter (.ref it)) Q E s
noncomputable abbrev TI := St → Hp → (It → Hp → Prop) → Prop
inductive PIE (X : Cx) (pins : List (Addr × Obj)) (σ : St) (tg : Expr) (R : It → Hp → Prop) (itv : Value) (s2 : Shared) : Prop
  | mk (it : Addr) (fp : List Addr) (tn : Nat → Heap → Prop) (J : It) (H' : Hp) (h0 : itv = .ref it) (h1 : Inv X pins σ H' s2) (h2 : Turn X.prog X.w X.K tg J fp it tn) (h3 : tn 0 s2.heap) (h4 : (∀ b ∈ fp, FpOk X pins H' b)) (h5 : R J H')
noncomputable def PI (X : Cx) (tg iter : Expr) (wi : TI) : Prop :=
  ∀ (pins : List (Addr × Obj)) (s : Shared) (σ : St) (H : Hp) (R : It → Hp → Prop), Inv X pins σ H s → wi σ H R →
    wpAny (model X.prog X.w) X.A (eval iter X.env) (fun v s1 => wpAny (model X.prog X.w) X.A (pyIter v) (PIE X pins σ tg R) X.xe s1) X.xe s

theorem go_of {M : Model} {A : Around} {E : Value → Shared → Prop} {s : Shared} {tg : Expr} {it : Addr} {u : Value} {o : Obj} {n : String} {vs : Array Value} {Q : Unit → Shared → Prop} (ho : s.heap.get? it = some o) (hc : o.cls = .type n) (hd : o.data = .fields vs)
    (hn : ["enumerate", "zip", "dict_itemiterator", "dict_reverseitemiterator", "odict_iterator", "itertools.zip_longest", "itertools.pairwise"].contains n = false) (hQ : Q () s) : wpAny M A (letOwnedTupleGo tg (.ref it) u) Q E s := by
  unfold letOwnedTupleGo
  cases tg <;> first
    | exact wpAny_pure hQ
    | (cases u <;> first
        | exact wpAny_pure hQ
        | (refine wpAny_bind (wpAny_load ho ?_)
           rw [hc, hd]
           show wpAny M A (if (["enumerate", "zip", "dict_itemiterator", "dict_reverseitemiterator", "odict_iterator", "itertools.zip_longest", "itertools.pairwise"].contains n && vs[0]? == some (rawInt _)) = true then _ else _) Q E s
           rw [if_neg (by intro h; rw [hn, Bool.false_and] at h; cases h)]
           exact wpAny_pure hQ))

noncomputable def Itl (K : PySem.W.Frag) (a : Addr) : It :=
  ⟨fun i H => ∃ xs x, SqL K H a xs ∧ xs[i]? = some x, fun i H x H' => H' = H ∧ ∀ xs, SqL K H a xs → xs[i]? = some x, fun i H => ∃ xs, SqL K H a xs ∧ xs.length ≤ i⟩
noncomputable def Itt (K : PySem.W.Frag) (a : Addr) : It :=
  ⟨fun i H => ∃ xs x, SqT K H a xs ∧ xs[i]? = some x, fun i H x H' => H' = H ∧ ∀ xs, SqT K H a xs → xs[i]? = some x, fun i H => ∃ xs, SqT K H a xs ∧ xs.length ≤ i⟩
noncomputable def Itr (lo : Int) (n : Nat) : It := ⟨fun i _ => i < n, fun i H x H' => H' = H ∧ x = .int (lo + i), fun i _ => n ≤ i⟩
theorem turn_list {P : Program} {w : World} {K : PySem.W.Frag} {tg : Expr} (a it : Addr) : Turn P w K tg (Itl K a) [it] it (fun i h => h.IsListIter it a i) where
  mem := by simp
  obj := fun i h st b hb => by
    have e : b = it := by simpa using hb
    subst e
    obtain ⟨o, e, c, d⟩ := st
    exact ⟨o, e, fun v z => by rw [d] at z; cases z⟩
  keep := fun i h h' st k => st.at fun o e => k it (by simp) o e
  item := by
    intro X hP hw hK hc i pins s σ H E I hf st hg
    subst hP hw hK
    obtain ⟨xs, x, hq, hx⟩ := hg
    obtain ⟨its, rv, p, hz⟩ := I.list hq
    obtain ⟨u, hu, ru⟩ := rv.get hx
    obtain ⟨f0, f1, f2, f3, f4, f5⟩ := hf it (by simp)
    refine wpAny_pyNext_list_item st p.isList (x := u) (by simpa using hu) fun h' st' sb => ?_
    have I1 : Inv X pins σ H { s with heap := h' } := I.turned (t' := s.toks) (fun b o hb e => (sb.2 b hb).trans e) f0 f1 f3 f4 f5
    obtain ⟨o, e, c, d⟩ := id st'
    exact ⟨u, rfl, go_of (s := { s with heap := h' }) e c d (by decide) ⟨x, H, I1, ru, ⟨rfl, fun ys hy => by rw [I.list_inj hy hq]; exact hx⟩, st', fun b hb => (hf b hb).1⟩⟩
  done := by
    intro X hP hw hK hc i pins s σ H E I hf st hg
    subst hP hw hK
    obtain ⟨xs, hq, hx⟩ := hg
    obtain ⟨its, rv, p, hz⟩ := I.list hq
    obtain ⟨f0, f1, f2, f3, f4, f5⟩ := hf it (by simp)
    have hl := rv.length
    exact wpAny_pyNext_list_end (I.ok.hd hc) st p.isList (by simp; omega) fun h' eb => ⟨rfl, I.turned (t' := s.toks) (fun b o hb e => eb b o hb e) f0 f1 f3 f4 f5⟩
  self := fun _ _ _ _ _ st h => wpAny_pyIter_listiter st h
theorem turn_tuple {P : Program} {w : World} {K : PySem.W.Frag} {tg : Expr} (a it : Addr) : Turn P w K tg (Itt K a) [it] it (fun i h => h.IsTupleIter it a i) where
  mem := by simp
  obj := fun i h st b hb => by
    have e : b = it := by simpa using hb
    subst e
    obtain ⟨o, e, c, d⟩ := st
    exact ⟨o, e, fun v z => by rw [d] at z; cases z⟩
  keep := fun i h h' st k => st.at fun o e => k it (by simp) o e
  item := by
    intro X hP hw hK hc i pins s σ H E I hf st hg
    subst hP hw hK
    obtain ⟨xs, x, hq, hx⟩ := hg
    obtain ⟨its, rv, p, hz⟩ := I.tuple hq
    obtain ⟨u, hu, ru⟩ := rv.get hx
    obtain ⟨f0, f1, f2, f3, f4, f5⟩ := hf it (by simp)
    refine wpAny_pyNext_tuple_item st (show s.heap.IsTuple a its.toArray from p) (x := u) (by simpa using hu) fun h' st' sb => ?_
    have I1 : Inv X pins σ H { s with heap := h' } := I.turned (t' := s.toks) (fun b o hb e => (sb.2 b hb).trans e) f0 f1 f3 f4 f5
    obtain ⟨o, e, c, d⟩ := id st'
    exact ⟨u, rfl, go_of (s := { s with heap := h' }) e c d (by decide) ⟨x, H, I1, ru, ⟨rfl, fun ys hy => by rw [I.tuple_inj hy hq]; exact hx⟩, st', fun b hb => (hf b hb).1⟩⟩
  done := by
    intro X hP hw hK hc i pins s σ H E I hf st hg
    subst hP hw hK
    obtain ⟨xs, hq, hx⟩ := hg
    obtain ⟨its, rv, p, hz⟩ := I.tuple hq
    obtain ⟨f0, f1, f2, f3, f4, f5⟩ := hf it (by simp)
    have hl := rv.length
    exact wpAny_pyNext_tuple_end (I.ok.hd hc) st (show s.heap.IsTuple a its.toArray from p) (by simp; omega) fun h' eb => ⟨rfl, I.turned (t' := s.toks) (fun b o hb e => eb b o hb e) f0 f1 f3 f4 f5⟩
  self := fun _ _ _ _ _ st h => wpAny_pyIter_tupleiter st h
theorem turn_range {P : Program} {w : World} {K : PySem.W.Frag} {tg : Expr} (it : Addr) (lo : Int) (n : Nat) : Turn P w K tg (Itr lo n) [it] it (fun i h => IsRangeIter h it (lo + (i : Nat) * 1) ((n : Int) - (i : Nat)) 1) where
  mem := by simp
  obj := fun i h st b hb => by
    have e : b = it := by simpa using hb
    subst e
    exact ⟨_, st, fun v z => by
      have z' : Data.fields _ = Data.cell v := z
      cases z'⟩
  keep := fun i h h' st k => k it (by simp) _ st
  item := by
    intro X hP hw hK hc i pins s σ H E I hf st hg
    subst hP hw hK
    obtain ⟨f0, f1, f2, f3, f4, f5⟩ := hf it (by simp)
    have W := Walks.range (prog := X.prog) (w := X.w) (I.ok.hd hc) it lo 1 n
    refine W.item i s _ _ hg st fun v h' tk hv st' kk => ?_
    obtain ⟨t, rfl⟩ := hv
    have I1 : Inv X pins σ H { s with heap := h', toks := tk } := I.turned (fun b o hb e => kk b o (by simpa using hb) e) f0 f1 f3 f4 f5
    refine ⟨_, rfl, go_of (s := { s with heap := h', toks := tk }) (n := "range_iterator") st' rfl rfl (by decide) ⟨.int (lo + i), H, I1, ⟨t, ?_⟩, ⟨rfl, rfl⟩, st', fun b hb => (hf b hb).1⟩⟩
    rw [Int.mul_one]
  done := by
    intro X hP hw hK hc i pins s σ H E I hf st hg
    subst hP hw hK
    obtain ⟨f0, f1, f2, f3, f4, f5⟩ := hf it (by simp)
    exact wpAny_pyNext_range_end (I.ok.hd hc) st (by have : n ≤ i := hg; omega) fun h' eb => ⟨rfl, I.turned (t' := s.toks) (fun b o hb e => eb b o hb e) f0 f1 f3 f4 f5⟩
  self := fun _ _ _ _ _ st h => wpAny_pyIter_rangeiter st h
end L2

namespace L2
open PySem PySem.Spec PyProof.Rows
section
variable {X : Cx} {tg : Expr}
theorem range_it {pins : List (Addr × Obj)} {σ : St} {H : Hp} {s : Shared} {R : It → Hp → Prop} {E : Value → Shared → Prop} {lo hi : Int} {t u v : Tok} {tk : Nat} (I : Inv X pins σ H s) (h1 : -(2 ^ 62) ≤ lo) (h2 : lo < 2 ^ 62) (h3 : -(2 ^ 62) ≤ hi) (h4 : hi < 2 ^ 62)
    (q : R (Itr lo (hi - lo).toNat) H) : wpAny (model X.prog X.w) X.A (pyIter (.ref s.heap.objs.size)) (PIE X pins σ tg R) E { s with heap := s.heap.push { cls := .type "range", data := .fields #[.int lo t, .int hi u, .int 1 v] }, toks := tk } := by
  refine wpAny_pyIter_range (IsRange.new ..) (small_one h1 h2 h3 h4) ?_
  have I1 : Inv X pins σ H { s with heap := s.heap.push { cls := .type "range", data := .fields #[.int lo t, .int hi u, .int 1 v] }, toks := tk } := I.kept fun b o e => Heap.get?_push_of_some _ e
  refine ⟨(s.heap.push { cls := .type "range", data := .fields #[.int lo t, .int hi u, .int 1 v] }).objs.size, [(s.heap.push { cls := .type "range", data := .fields #[.int lo t, .int hi u, .int 1 v] }).objs.size], _, _, H, rfl,
    I1.kept (t' := tk) fun b o e => Heap.get?_push_of_some _ e, turn_range _ lo (hi - lo).toNat, ?_, fun b hb => ?_, q⟩
  · have e1 : lo + ((0 : Nat) : Int) * 1 = lo := by simp
    have e2 : (((hi - lo).toNat : Nat) : Int) - ((0 : Nat) : Int) = Builtin.Range.rangeSize lo hi 1 := by rw [rangeSize_one]; split <;> omega
    show IsRangeIter _ _ (lo + ((0 : Nat) : Int) * 1) ((((hi - lo).toNat : Nat) : Int) - ((0 : Nat) : Int)) 1
    rw [e1, e2]
    exact Heap.get?_push_size _ rfl
  · have e : b = (s.heap.push { cls := .type "range", data := .fields #[.int lo t, .int hi u, .int 1 v] }).objs.size := by simpa using hb
    subst e
    exact I1.fpOk (Nat.le_refl _) (I1.hok.fresh (Nat.le_refl _))
noncomputable def iRng1 (ta : TA) : TI := fun σ H R => ta σ H fun vs H1 => ∃ j : Int, vs = [.int j] ∧ -(2 ^ 62) ≤ j ∧ j < 2 ^ 62 ∧ R (Itr 0 j.toNat) H1
noncomputable def iRng2 (ta : TA) : TI := fun σ H R => ta σ H fun vs H1 => ∃ i j : Int, vs = [.int i, .int j] ∧ (-(2 ^ 62) ≤ i ∧ i < 2 ^ 62 ∧ -(2 ^ 62) ≤ j ∧ j < 2 ^ 62) ∧ R (Itr i (j - i).toNat) H1
theorem pi_range1 {a : Expr} {ta : TA} {p pos : Pos} (hg : Gl X "range") (hm : X.mg "range" = none) (ha : PA X [a] ta) (hs : starEach [a] X.env = [(false, eval a X.env)] := by rfl) : PI X tg (.Call (.Name "range" p) [a] [] pos) (iRng1 ta) := by
  intro pins s σ H R I h
  refine Call_ (ld_blt I hg hm boot_range (PyProof.Rows.callWith_type1 (thn (ha pos pins s σ H _ I h) fun us s1 x__21 => ?_) hs rfl))
  obtain ⟨vs, H1, I1, r1, q1⟩ := x__21
  obtain ⟨j, e, q1, q2, q⟩ := q1
  subst e
  cases r1 with
  | cons r rr =>
    cases rr
    obtain ⟨t, rfl⟩ := r
    exact call_range_1 (range_it I1 (by omega) (by omega) q1 q2 (by simpa using q))
theorem pi_range2 {a b : Expr} {ta : TA} {p pos : Pos} (hg : Gl X "range") (hm : X.mg "range" = none) (ha : PA X [a, b] ta) (hs : starEach [a, b] X.env = [(false, eval a X.env), (false, eval b X.env)] := by rfl) (hs2 : starEach [b] X.env = [(false, eval b X.env)] := by rfl) :
    PI X tg (.Call (.Name "range" p) [a, b] [] pos) (iRng2 ta) := by
  intro pins s σ H R I h
  refine Call_ (ld_blt I hg hm boot_range (PyProof.Rows.callWith_type1 (thn (ha pos pins s σ H _ I h) fun us s1 x__22 => ?_) (by rw [hs, hs2]) (by rw [hs2]; rfl)))
  obtain ⟨vs, H1, I1, r1, q1⟩ := x__22
  obtain ⟨i, j, e, ⟨q1, q2, q3, q4⟩, q⟩ := q1
  subst e
  cases r1 with
  | cons r rr =>
    cases rr with
    | cons r' rr =>
      cases rr
      obtain ⟨t, rfl⟩ := r
      obtain ⟨t', rfl⟩ := r'
      exact call_range_2 (range_it I1 q1 q2 q3 q4 q)

noncomputable def tFor (wi : TI) (g : TG) (tb : TS) : TS := fun D σ H => wi σ H fun J H1 => ∃ W : Nat → Nat → St → Hp → Prop, (∃ m, W 0 m σ H1) ∧ ∀ i m σ H, W i m σ H →
  (J.stop i H ∧ D.nx σ H) ∨ (J.go i H ∧ ∃ N : St → Hp → Prop, (∀ σ' H', N σ' H' → ∃ m', m' < m ∧ W (i + 1) m' σ' H') ∧ ∀ x H', J.yld i H x H' → g x σ H' fun σ2 H2 => tb { D with nx := N, ct := N, bk := D.nx } σ2 H2)
noncomputable def pinsAt (fp : List Addr) (h : Heap) : List (Addr × Obj) := fp.filterMap fun b => (h.get? b).map fun o => (b, o)
theorem mem_pinsAt {fp : List Addr} {h : Heap} {b : Addr} {o : Obj} (hb : b ∈ fp) (e : h.get? b = some o) : (b, o) ∈ pinsAt fp h := List.mem_filterMap.mpr ⟨b, hb, by rw [e]; rfl⟩
theorem of_pinsAt {fp : List Addr} {h : Heap} {p : Addr × Obj} (hp : p ∈ pinsAt fp h) : p.1 ∈ fp ∧ h.get? p.1 = some p.2 := by
  obtain ⟨b, hb, e⟩ := List.mem_filterMap.mp hp
  cases q : h.get? b with
  | none => rw [q] at e; cases e
  | some o =>
    rw [q] at e
    have e' : (b, o) = p := Option.some.inj e
    subst e'
    exact ⟨hb, q⟩
theorem Inv.pinned {pins : List (Addr × Obj)} {σ : St} {H : Hp} {s : Shared} {fp : List Addr} (I : Inv X pins σ H s) (hf : ∀ b ∈ fp, FpOk X pins H b) (ho : ∀ b ∈ fp, ∃ o, s.heap.get? b = some o ∧ ∀ v, o.data ≠ .cell v) : Inv X (pins ++ pinsAt fp s.heap) σ H s :=
  I.pins_of fun p hp => (List.mem_append.mp hp).elim (fun z => I.pin p (List.mem_append_right _ z)) fun z => by
    obtain ⟨hb, e⟩ := of_pinsAt z
    obtain ⟨f0, f1, f2, _⟩ := hf p.1 hb
    obtain ⟨o, e', d⟩ := ho p.1 hb
    rw [e] at e'; cases e'
    exact ⟨e, f0, f1, f2, d⟩
theorem Inv.unpinned {pins pl : List (Addr × Obj)} {σ : St} {H : Hp} {s : Shared} (I : Inv X (pins ++ pl) σ H s) : Inv X pins σ H s := I.pins_of fun p hp => I.pin p (List.mem_append_right _ (List.mem_append_left _ hp))
theorem ps_for {iter : Expr} {body : List Stmt} {wi : TI} {g : TG} {tb : TS} {pos : Pos} (hp : PassesOwn (model X.prog X.w) X.A X.env X.xe) (hc : X.calm = true) (hi : PI X tg iter wi) (hg : PG X tg g) (hb : PSs X body tb)
    (hs : ∀ x, foldedSetIterable iter X.env x = pure x := by intro _; rfl) : PS X (.For tg iter body [] pos) (tFor wi g tb) := by
  intro pins s σ H D I h
  refine wpAny_For (thn (hi pins s σ H _ I h) fun v s1 h1 => thn h1 fun itv s2 h2 => ?_) hs
  obtain ⟨it, fp, tn, J, H2, e, I2, T, st2, f2, W, ⟨m0, w0⟩, turn⟩ := h2
  subst e
  -- what stays true of the iterator's objects through the loop
  have stat : ∀ {H' : Hp}, (∀ b ∈ fp, H' b = none) → ∀ b ∈ fp, FpOk X pins H' b := fun hn b hb => ⟨hn b hb, (f2 b hb).2⟩
  refine codeAny_forLoop_any (ForI X pins fp tn W) ?_ m0 ⟨0, σ, H2, I2, st2, fun b hb => (f2 b hb).1, w0⟩
  rintro n s3 ⟨i, σ3, H3, I3, st3, fr3, w3⟩
  rcases turn i n σ3 H3 w3 with ⟨stop, qn⟩ | ⟨go, N, hN, step⟩
  · refine wpAny_passesOwn hp (thn (T.done X rfl rfl rfl hc i pins s3 σ3 H3 X.xe I3 (stat fr3) st3 stop) fun r s4 ⟨hr, I4⟩ => ?_)
    subst hr
    exact wpAny_execs_nil ⟨σ3, H3, I4, qn⟩
  · refine wpAny_passesOwn hp (thn (T.item X rfl rfl rfl hc i pins s3 σ3 H3 X.xe I3 (stat fr3) st3 go) fun r s4 ⟨u, hr, h4⟩ => ?_)
    subst hr
    refine wpAny_passesOwn hp (thn h4 fun _ s5 x__25 => ?_)
    obtain ⟨x, H5, I5, r5, y5, st5, fr5⟩ := x__25
    have I5' := I5.pinned (stat fr5) (T.obj _ _ st5)
    refine wpAny_passesOwn hp (thn (hg _ s5 σ3 H5 x u _ I5' r5 (step x H5 y5)) fun _ s6 x__26 => ?_)
    obtain ⟨σ6, H6, I6, q6⟩ := x__26
    refine wpAny_passesOwn hp (thn (hb _ s6 σ6 H6 _ I6 q6) fun f s7 q7 => ?_)
    have again : ∀ {σ7 : St} {H7 : Hp}, Inv X (pins ++ pinsAt fp s5.heap) σ7 H7 s7 → N σ7 H7 → ∃ m, m < n ∧ ForI X pins fp tn W m s7 := fun {σ7 H7} I7 n7 => by
      obtain ⟨m', hm, w7⟩ := hN σ7 H7 n7
      refine ⟨m', hm, i + 1, σ7, H7, I7.unpinned, T.keep _ _ _ st5 fun b hb o e => (I7.pin (b, o) (List.mem_append_right _ (List.mem_append_right _ (mem_pinsAt hb e)))).1, fun b hb => ?_, w7⟩
      obtain ⟨o, e, d⟩ := T.obj _ _ st5 b hb
      exact (I7.pin (b, o) (List.mem_append_right _ (List.mem_append_right _ (mem_pinsAt hb e)))).2.1
    cases f with
    | next => obtain ⟨σ7, H7, I7, n7⟩ := q7; exact again I7 n7
    | cont => obtain ⟨σ7, H7, I7, n7⟩ := q7; exact again I7 n7
    | brk => obtain ⟨σ7, H7, I7, q7⟩ := q7; exact ⟨σ7, H7, I7.unpinned, q7⟩
    | ret v => obtain ⟨x7, σ7, H7, I7, r7, q7⟩ := q7; exact ⟨x7, σ7, H7, I7.unpinned, r7, q7⟩
end

end L2

namespace L2
open PySem PySem.Spec PyProof.Rows

noncomputable abbrev R2 := V → V → Hp → VK → Prop
noncomputable def OpR (X : Cx) (f : Value → Value → Sem Value) (r : R2) : Prop :=
  ∀ (pins : List (Addr × Obj)) (s : Shared) (σ : St) (H : Hp) (x y : V) (v u : Value) (Q : VK), Inv X pins σ H s → RelV x v → RelV y u → r x y H Q →
    wpAny (model X.prog X.w) X.A (f v u) (EP X pins σ Q) X.xe s
noncomputable def UnR (X : Cx) (f : Value → Sem Value) (r : V → Hp → VK → Prop) : Prop :=
  ∀ (pins : List (Addr × Obj)) (s : Shared) (σ : St) (H : Hp) (x : V) (v : Value) (Q : VK), Inv X pins σ H s → RelV x v → r x H Q →
    wpAny (model X.prog X.w) X.A (f v) (EP X pins σ Q) X.xe s
noncomputable def CallR (X : Cx) (f : Value) (r : List V → Hp → VK → Prop) : Prop :=
  ∀ (pins : List (Addr × Obj)) (s : Shared) (σ : St) (H : Hp) (xs : List V) (us : List Value) (Q : VK), Inv X pins σ H s → Vals xs us → r xs H Q →
    wpAny (model X.prog X.w) X.A (call f us) (EP X pins σ Q) X.xe s
noncomputable def TruR (X : Cx) (r : V → Hp → (Bool → Hp → Prop) → Prop) : Prop :=
  ∀ (pins : List (Addr × Obj)) (s : Shared) (σ : St) (H : Hp) (x : V) (v : Value) (Q : Bool → Hp → Prop), Inv X pins σ H s → RelV x v → r x H Q →
    wpAny (model X.prog X.w) X.A (truthy v) (TP X pins σ Q) X.xe s

noncomputable def tOp (r : R2) (ta tb : TE) : TE := fun σ H Q => ta σ H fun x H1 => tb σ H1 fun y H2 => r x y H2 Q
noncomputable def tUn (r : V → Hp → VK → Prop) (ta : TE) : TE := fun σ H Q => ta σ H fun x H1 => r x H1 Q
noncomputable def rI (C : Int → Int → Prop) (g : Int → Int → V) : R2 := fun x y H Q => ∃ i j, x = .int i ∧ y = .int j ∧ C i j ∧ Q (g i j) H
noncomputable def rI0 (g : Int → Int → V) : R2 := fun x y H Q => ∃ i j, x = .int i ∧ y = .int j ∧ Q (g i j) H
noncomputable def rU (g : Int → V) : V → Hp → VK → Prop := fun x H Q => ∃ i, x = .int i ∧ Q (g i) H

section
variable {X : Cx} {a b c : Expr} {ta tb tc : TE} {pos : Pos}

theorem binT (ha : PE X a ta) (hb : PE X b tb) {pins : List (Addr × Obj)} {s : Shared} {σ : St} {H : Hp} {R : V → V → Hp → Prop} (I : Inv X pins σ H s)
    (h : ta σ H fun x H1 => tb σ H1 fun y H2 => R x y H2) {Q : Value → Shared → Prop} {f : Value → Value → Sem Value}
    (hf : ∀ v u s2 x y H2, Inv X pins σ H2 s2 → RelV x v → RelV y u → R x y H2 → wpAny (model X.prog X.w) X.A (f v u) Q X.xe s2) :
    wpAny (model X.prog X.w) X.A (eval a X.env) (fun v s₁ => wpAny (model X.prog X.w) X.A (eval b X.env) (fun u s₂ => wpAny (model X.prog X.w) X.A (f v u) Q X.xe s₂) X.xe s₁) X.xe s := by
  refine thn (ha pins s σ H _ I h) fun v s1 x__27 => ?_
  obtain ⟨x, H1, I1, r1, q1⟩ := x__27
  refine thn (hb pins s1 σ H1 _ I1 q1) fun u s2 x__28 => ?_
  obtain ⟨y, H2, I2, r2, q2⟩ := x__28
  exact hf v u s2 x y H2 I2 r1 r2 q2

theorem pe_op {op : Operator} {r : R2} (ho : OpR X (binaryOp op) r) (ha : PE X a ta) (hb : PE X b tb) : PE X (.BinOp a op b pos) (tOp r ta tb) := by
  intro pins s σ H Q I h
  exact wpAny_BinOp (binT ha hb I h fun v u s2 x y H2 I2 rx ry q => ho pins s2 σ H2 x y v u Q I2 rx ry q)
theorem pe_un {op : UnaryOp} {r : V → Hp → VK → Prop} (ho : UnR X (unaryOp op) r) (ha : PE X a ta) : PE X (.UnaryOp op a pos) (tUn r ta) := by
  intro pins s σ H Q I h
  exact UnaryOp_ (thn (ha pins s σ H _ I h) fun v s1 x__29 => (by obtain ⟨x, H1, I1, r1, q1⟩ := x__29; exact ho pins s1 σ H1 x v Q I1 r1 q1))
theorem opI {f : Value → Value → Sem Value} {C : Int → Int → Prop} {g : Int → Int → Int}
    (rule : ∀ (i j : Int) (t u : Tok) (s : Shared) (Q : Value → Shared → Prop) (E : Value → Shared → Prop), C i j → Q (.int (g i j) s.toks) { s with toks := s.toks + 1 } → wpAny (model X.prog X.w) X.A (f (.int i t) (.int j u)) Q E s) :
    OpR X f (rI C fun i j => .int (g i j)) := by
  intro pins s σ H x y v u Q I rx ry h
  obtain ⟨i, j, rfl, rfl, hc, q⟩ := h
  obtain ⟨t, rfl⟩ := rx
  obtain ⟨t', rfl⟩ := ry
  exact rule i j t t' s _ _ hc ⟨.int (g i j), H, I.tok _, ⟨_, rfl⟩, q⟩
theorem opI0 {f : Value → Value → Sem Value} {g : Int → Int → Int}
    (rule : ∀ (i j : Int) (t u : Tok) (s : Shared) (Q : Value → Shared → Prop) (E : Value → Shared → Prop), Q (.int (g i j) s.toks) { s with toks := s.toks + 1 } → wpAny (model X.prog X.w) X.A (f (.int i t) (.int j u)) Q E s) :
    OpR X f (rI0 fun i j => .int (g i j)) := by
  intro pins s σ H x y v u Q I rx ry h
  obtain ⟨i, j, rfl, rfl, q⟩ := h
  obtain ⟨t, rfl⟩ := rx
  obtain ⟨t', rfl⟩ := ry
  exact rule i j t t' s _ _ ⟨.int (g i j), H, I.tok _, ⟨_, rfl⟩, q⟩
theorem opB0 {f : Value → Value → Sem Value} {g : Int → Int → Bool}
    (rule : ∀ (i j : Int) (t u : Tok) (s : Shared) (Q : Value → Shared → Prop) (E : Value → Shared → Prop), Q (.bool (g i j)) s → wpAny (model X.prog X.w) X.A (f (.int i t) (.int j u)) Q E s) :
    OpR X f (rI0 fun i j => .bl (g i j)) := by
  intro pins s σ H x y v u Q I rx ry h
  obtain ⟨i, j, rfl, rfl, q⟩ := h
  obtain ⟨t, rfl⟩ := rx
  obtain ⟨t', rfl⟩ := ry
  exact rule i j t t' s _ _ ⟨.bl (g i j), H, I, rfl, q⟩

noncomputable def CPow (i j : Int) : Prop := 0 ≤ j ∧ j ≤ 1000000 ∧ i.natAbs < 2 ^ 64
noncomputable def CMul (i j : Int) : Prop := (-(2 ^ 64) < i ∧ i < 2 ^ 64) ∨ (-(2 ^ 64) < j ∧ j < 2 ^ 64)
theorem CMul.ok {i j : Int} (h : CMul i j) : IntMulOk i j := by
  rcases h with ⟨h1, h2⟩ | ⟨h1, h2⟩
  · exact .of_left (intBits_le_64 h1 h2)
  · exact .of_right (intBits_le_64 h1 h2)
theorem op_add : OpR X (binaryOp .Add) (rI0 fun i j => .int (i + j)) := opI0 fun _ _ _ _ _ _ _ q => add_int q
theorem op_sub : OpR X (binaryOp .Sub) (rI0 fun i j => .int (i - j)) := opI0 fun _ _ _ _ _ _ _ q => sub_int q
theorem op_modN : OpR X (binaryOp .Mod) (rI (fun _ j => j ≠ 0) fun i j => .int (i.fmod j)) := opI fun _ _ _ _ _ _ _ hc q => mod_int' hc q
theorem op_pow : OpR X (binaryOp .Pow) (rI CPow fun i j => .int (i ^ j.toNat)) := opI fun _ _ _ _ _ _ _ hc q => pow_int_small hc.1 hc.2.1 hc.2.2 q
theorem unI {f : Value → Sem Value} {g : Int → Int}
    (rule : ∀ (i : Int) (t : Tok) (s : Shared) (Q : Value → Shared → Prop) (E : Value → Shared → Prop), Q (.int (g i) s.toks) { s with toks := s.toks + 1 } → wpAny (model X.prog X.w) X.A (f (.int i t)) Q E s) :
    UnR X f (rU fun i => .int (g i)) := by
  intro pins s σ H x v Q I rx h
  obtain ⟨i, rfl, q⟩ := h
  obtain ⟨t, rfl⟩ := rx
  exact rule i t s _ _ ⟨.int (g i), H, I.tok _, ⟨_, rfl⟩, q⟩
theorem un_neg : UnR X (unaryOp .USub) (rU fun i => .int (-i)) := unI fun _ _ _ _ _ q => neg_int q
end

section
variable {X : Cx} {a b c : Expr} {ta tb tc : TE} {pos : Pos}
theorem fin_bl {pins : List (Addr × Obj)} {σ : St} {H : Hp} {s : Shared} {Q : VK} {k k' : Bool} (I : Inv X pins σ H s) (q : Q (.bl k) H) (e : k = k') : EP X pins σ Q (.bool k') s := by
  subst e
  exact ⟨.bl k, H, I, rfl, q⟩
theorem op_lt : OpR X (compareOp .Lt) (rI0 fun i j => .bl (decide (i < j))) := opB0 fun _ _ _ _ _ _ _ q => lt_int q
theorem op_gt : OpR X (compareOp .Gt) (rI0 fun i j => .bl (decide (j < i))) := opB0 fun _ _ _ _ _ _ _ q => gt_int q
theorem op_ge : OpR X (compareOp .GtE) (rI0 fun i j => .bl (decide (j ≤ i))) := opB0 fun _ _ _ _ _ _ _ q => ge_int q
theorem op_isN : OpR X (compareOp .Is) (fun x y H Q => y = .non ∧ Q (.bl (decide (x = .non))) H) := by
  intro pins s σ H x y v u Q I rx ry h
  obtain ⟨rfl, q⟩ := h
  cases ry
  refine is_none_gen (fin_bl I q ?_)
  cases x <;> first
    | (cases rx; rfl)
    | (obtain ⟨t, rfl⟩ := rx; rfl)
theorem OpR.or {f : Value → Value → Sem Value} {r r' : R2} (h : OpR X f r) (h' : OpR X f r') : OpR X f (fun x y H Q => r x y H Q ∨ r' x y H Q) := by
  intro pins s σ H x y v u Q I rx ry q
  rcases q with q | q
  · exact h pins s σ H x y v u Q I rx ry q
  · exact h' pins s σ H x y v u Q I rx ry q

theorem nomark (b : Expr) {op : CmpOp} (h : op ≠ .In := by decide) (h2 : op ≠ .NotIn := by decide) : behindInMarks op b = false := by
  have e1 : (op == CmpOp.In) = false := by cases op <;> first | rfl | exact absurd rfl h
  have e2 : (op == CmpOp.NotIn) = false := by cases op <;> first | rfl | exact absurd rfl h2
  cases b <;> simp [behindInMarks, e1, e2]
noncomputable def tTest (t : TE) : TT := fun σ H Q => t σ H fun x H' => ∃ k, x = .bl k ∧ Q k H'
theorem pt_cmpR {op : CmpOp} {r : R2} (ho : OpR X (compareOp op) r) (ha : PE X a ta) (hb : PE X b tb) (hm : behindInMarks op b = false) : PT X (.Compare a [op] [b] pos) (tTest (tOp r ta tb)) := by
  intro pins s σ H Q I h
  refine wpAny_isTrue_Compare1 (thn (ha pins s σ H _ I h) fun v s1 ⟨x, H1, I1, r1, q1⟩ => thn (hb pins s1 σ H1 _ I1 q1) fun u s2 ⟨y, H2, I2, r2, q2⟩ =>
    thn (ho pins s2 σ H2 x y v u _ I2 r1 r2 q2) fun c s3 ⟨z, H3, I3, r3, k, e, q3⟩ => ?_) hm
  subst e
  cases r3
  exact wpAny_truthy_bool ⟨H3, I3, q3⟩
noncomputable def TruV (K : PySem.W.Frag) (x : V) (H : Hp) (k : Bool) : Prop :=
  match x with
  | .non => k = false
  | .bl b => k = b
  | .int i => k = (i != 0)
  | .str y => y.length ≤ sizeLine ∧ k = ((y.length : Int) != 0)
  | .byt y => y.size ≤ sizeLine ∧ k = ((y.size : Int) != 0)
  | .ref p => (∃ xs, SqL K H p xs ∧ k = !xs.isEmpty) ∨ (∃ xs, SqT K H p xs ∧ k = !xs.isEmpty) ∨ ∃ kvs, H p = some (.dK kvs) ∧ k = !kvs.isEmpty
  | _ => False
theorem isEmpty_kv {κ : Type} {kvs : List (κ × V)} {vs : List (κ × Value)} (r : KV kvs vs) : (!vs.isEmpty) = !kvs.isEmpty := by
  cases r <;> rfl
theorem isEmpty_of {xs : List V} {its : List Value} (r : Vals xs its) : (!its.toArray.isEmpty) = !xs.isEmpty := by
  cases r <;> simp
theorem line63 : (sizeLine : Nat) < 2 ^ 63 := by rw [sizeLine_eq]; decide
theorem tru_ok : TruR X (fun x H Q => ∃ k, TruV X.K x H k ∧ Q k H) := by
  intro pins s σ H x v Q I rx h
  obtain ⟨k, e, q⟩ := h
  have hl := line63
  have hs : sizeLine = 16777216 := sizeLine_eq
  cases x with
  | non =>
    cases rx
    have e' : k = false := e
    subst e'
    exact truthy_none ⟨H, I, q⟩
  | bl b =>
    cases rx
    have e' : k = b := e
    subst e'
    exact wpAny_truthy_bool ⟨H, I, q⟩
  | int i =>
    obtain ⟨t, rfl⟩ := rx
    have e' : k = (i != 0) := e
    subst e'
    exact PySem.P.truthy_int ⟨H, I, q⟩
  | str y =>
    obtain ⟨t, rfl⟩ := rx
    obtain ⟨hy, e'⟩ : y.length ≤ sizeLine ∧ k = ((y.length : Int) != 0) := e
    subst e'
    exact PySem.P.truthy_str (by omega) ⟨H, I.tok _, q⟩
  | byt y =>
    obtain ⟨t, rfl⟩ := rx
    obtain ⟨hy, e'⟩ : y.size ≤ sizeLine ∧ k = ((y.size : Int) != 0) := e
    subst e'
    exact PySem.W.truthy_bytes (by omega) ⟨H, I.tok _, q⟩
  | ref p =>
    cases rx
    have e' : (∃ xs, SqL X.K H p xs ∧ k = !xs.isEmpty) ∨ (∃ xs, SqT X.K H p xs ∧ k = !xs.isEmpty) ∨ ∃ kvs, H p = some (.dK kvs) ∧ k = !kvs.isEmpty := e
    rcases e' with ⟨xs, hx, e'⟩ | ⟨xs, hx, e'⟩ | ⟨kvs, hx, e'⟩
    · subst e'
      obtain ⟨its, r, pl, hz⟩ := I.list hx
      have hlen := r.length
      exact wpAny_truthy_list pl.isList (by simp only [List.size_toArray]; omega) ⟨H, I.tok _, by rw [isEmpty_of r]; exact q⟩
    · subst e'
      obtain ⟨its, r, pl, hz⟩ := I.tuple hx
      have hlen := r.length
      exact truthy_tuple pl (by simp only [List.size_toArray]; omega) ⟨H, I.tok _, by rw [isEmpty_of r]; exact q⟩
    · subst e'
      obtain ⟨hz, hS, vs, r, m⟩ : kvs.length ≤ sizeLine ∧ (p == sysModules) = false ∧ ∃ vs, KV kvs vs ∧ s.heap.DictOf (mixKind X.prog X.w) p vs := I.hok p _ hx
      have hlen : kvs.length = vs.length := Paired.length r
      exact wpAny_truthy_dict hS m (by omega) ⟨H, I.tok _, by rw [isEmpty_kv r]; exact q⟩
  | _ => exact (show False from e).elim
theorem pt_truth (ha : PE X a ta) (he : ∀ whole, isTrue a X.env whole = (do let v ← whole; standAt a.pos; holding [v] (truthy v))) :
    PT X a (fun σ H Q => ta σ H fun x H' => ∃ k, TruV X.K x H' k ∧ Q k H') := by
  intro pins s σ H Q I h
  exact isTrue_plain (thn (ha pins s σ H _ I h) fun v s1 x__33 => (by obtain ⟨x, H1, I1, r1, q1⟩ := x__33; exact tru_ok pins s1 σ H1 x v Q I1 r1 q1)) (he _)

theorem vals1 {x : V} {us : List Value} (r : Vals [x] us) : ∃ u, us = [u] ∧ RelV x u := by
  cases r with
  | cons r1 r2 => cases r2; exact ⟨_, rfl, r1⟩
theorem vals2 {x y : V} {us : List Value} (r : Vals [x, y] us) : ∃ u w', us = [u, w'] ∧ RelV x u ∧ RelV y w' := by
  cases r with
  | cons r1 r2 =>
    cases r2 with
    | cons r3 r4 => cases r4; exact ⟨_, _, rfl, r1, r3⟩
theorem call_abs : CallR X (.builtin "abs") (fun xs H Q => ∃ i, xs = [.int i] ∧ Q (.int (if i < 0 then -i else i)) H) := by
  intro pins s σ H xs us Q I r h
  obtain ⟨i, rfl, q⟩ := h
  obtain ⟨u, rfl, t, rfl⟩ := vals1 r
  exact call_abs_int fun u tk => ⟨.int (if i < 0 then -i else i), H, I.tok _, ⟨_, rfl⟩, q⟩
theorem call_min2 (hc : X.calm = true) : CallR X (.builtin "min") (fun xs H Q => ∃ i j, xs = [.int i, .int j] ∧ Q (.int (if j < i then j else i)) H) := by
  intro pins s σ H xs us Q I r h
  obtain ⟨i, j, rfl, q⟩ := h
  obtain ⟨u, w', rfl, ⟨t, rfl⟩, ⟨t', rfl⟩⟩ := vals2 r
  refine min_two_ints (I.ok.hd hc) fun h' tk k => ⟨_, H, I.kept k, ?_, q⟩
  by_cases hj : j < i
  · rw [if_pos hj, if_pos hj]; exact ⟨_, rfl⟩
  · rw [if_neg hj, if_neg hj]; exact ⟨_, rfl⟩
theorem call_int1 : CallR X (.type "int") (fun xs H Q => (∃ i, xs = [.int i] ∧ Q (.int i) H) ∨ ∃ k, xs = [.bl k] ∧ Q (.int (if k then 1 else 0)) H) := by
  intro pins s σ H xs us Q I r h
  rcases h with ⟨i, rfl, q⟩ | ⟨k, rfl, q⟩
  · obtain ⟨u, rfl, t, rfl⟩ := vals1 r
    exact call_int_int ⟨.int i, H, I, ⟨_, rfl⟩, q⟩
  · obtain ⟨u, rfl, r1⟩ := vals1 r
    cases r1
    exact call_int_bool ⟨.int (if k then 1 else 0), H, I.tok _, ⟨_, rfl⟩, q⟩
end
end L2

namespace L2
open PySem PySem.Spec PyProof.Rows

structure ObjM (h : Heap) (x dx C : Addr) (mA : Str → Option Value) : Prop where
  obj : h.get? x = some (PySem.W.instObj C dx)
  ns : h.Ns1 dx mA
  ne : dx ≠ x

section
variable {prog : Program} {w : World} {A : Around} {E : Value → Shared → Prop} {s : Shared} {K : PySem.W.Frag} {x dx C f : Addr} {mA : Str → Option Value} {name : Str} {v : Value}

end

theorem RelO.some_of {v : V} {o : Option Value} (r : RelO (some v) o) : ∃ u, o = some u ∧ RelV v u := by
  cases o with
  | none => exact (show False from r).elim
  | some u => exact ⟨u, rfl, r⟩
theorem RelO.none_of {o : Option Value} (r : RelO none o) : o = none := by
  cases o with
  | none => rfl
  | some u => exact (show False from r).elim
section
variable {P : Program} {w : World} {H H' : Hp} {h h' : Heap} {a C dx : Addr} {fs fs' : List (Str × V)}
end

structure Cls (K : PySem.W.Frag) (C : Addr) : Prop where
  pg : PySem.W.plainGet K C Str.empty = true
  hd : PySem.W.hasDictIn K C = true
  po : PySem.W.plainOver K C = true
  sa : PySem.W.findIn K (.ref C) "__setattr__" = some (some (.builtin "object.__setattr__"))
theorem Cls.get {K : PySem.W.Frag} {C : Addr} (c : Cls K C) (f : Str) : PySem.W.plainGet K C f = true := c.pg
noncomputable def NoAttr (K : PySem.W.Frag) (C : Addr) (f : Str) : Prop := PySem.W.findIn K (.ref C) f = some none
structure Con (K : PySem.W.Frag) (C : Addr) (f : Str) (v : V) (u : Value) : Prop where
  at_ : PySem.W.findIn K (.ref C) f = some (some u)
  rel : RelV v u
  get : PySem.W.specialIn K u "__get__" = some none
  cp : PySem.W.copiedNames.contains f = false
structure Meth (K : PySem.W.Frag) (C : Addr) (m : Str) (f : Addr) : Prop where
  at_ : PySem.W.findIn K (.ref C) m = some (some (.ref f))
  fn : PySem.W.isFn K (.ref f) = true
  kp : PySem.W.keepIn K (.ref f) = true

section
variable {X : Cx} {pins : List (Addr × Obj)} {σ : St} {H : Hp} {s : Shared} {a C dx : Addr} {fs : List (Str × V)} {f : Str} {v : V} {A : Around} {E : Value → Shared → Prop}

theorem Inv.made (I : Inv X pins σ H s) : Inv X pins σ (upd (upd H s.heap.objs.size (.own (s.heap.objs.size + 1))) (s.heap.objs.size + 1) (.ins C s.heap.objs.size []))
    { s with heap := (s.heap.push PySem.W.emptyDict).push (PySem.W.instObj C s.heap.objs.size) } := by
  have e1 : (s.heap.push PySem.W.emptyDict).get? s.heap.objs.size = some PySem.W.emptyDict := Heap.get?_push_size s.heap rfl
  have e2 : ((s.heap.push PySem.W.emptyDict).push (PySem.W.instObj C s.heap.objs.size)).get? (s.heap.objs.size + 1) = some (PySem.W.instObj C s.heap.objs.size) := by
    have := Heap.get?_push_size (s.heap.push PySem.W.emptyDict) (o := PySem.W.instObj C s.heap.objs.size) rfl
    rwa [Heap.size_push] at this
  have e3 : (s.heap.push PySem.W.emptyDict).Ns s.heap.objs.size (fun _ => none) := ⟨PySem.W.emptyDict, #[], _, e1, rfl, (fun e he => absurd he (by simp)), fun _ => rfl⟩
  have I1 := I.laid (a := s.heap.objs.size) (o := .own (s.heap.objs.size + 1)) (h' := s.heap.push PySem.W.emptyDict) (t' := s.toks) (fun b u q => Heap.get?_push_of_some _ q) (Nat.le_refl _) ⟨_, e1⟩
  refine I1.laid (a := s.heap.objs.size + 1) (o := .ins C s.heap.objs.size []) (t' := s.toks) (fun b u q => Heap.get?_push_of_some _ q) (Nat.le_of_eq (Heap.size_push _ _)) ?_
  have ne : s.heap.objs.size ≠ s.heap.objs.size + 1 := Nat.ne_of_lt (Nat.lt_succ_self _)
  refine ⟨by rw [upd_ne ne, upd_same], Nat.zero_le _, ne, e2, fun _ => none, (Heap.Ns1.of_empty e3).at fun o q => Heap.get?_push_of_some _ q, fun _ => True.intro, fun y hy => absurd rfl hy⟩

end

section
variable {X : Cx} {o e value : Expr} {f : Str} {pos pos' tpos : Pos} {ta tv : TE}
end

section
variable {X : Cx} {pins : List (Addr × Obj)} {σ : St} {H : Hp} {s : Shared} {A : Around} {E : Value → Shared → Prop} {Q : Value → Shared → Prop} {c : Value} {b : Bool}
inductive TyOf (K : PySem.W.Frag) (H : Hp) : V → Value → Prop where
  | non : TyOf K H .non (.type "NoneType")
  | bl (x : Bool) : TyOf K H (.bl x) (.type "bool")
  | int (i : Int) : TyOf K H (.int i) (.type "int")
  | str (x : Str) : TyOf K H (.str x) (.type "str")
  | flt (x : UInt64) : TyOf K H (.flt x) (.type "float")
  | lst {a : Addr} {xs : List V} (e : H a = some (.lst xs)) : TyOf K H (.ref a) (.type "list")
  | frz {a : Addr} {o : Obj} {xs : List V} (e : H a = some (.frz o (.lst xs))) : TyOf K H (.ref a) (.type "list")
  | tup {a : Addr} {xs : List V} (e : H a = some (.tup xs)) : TyOf K H (.ref a) (.type "tuple")
  | dK {a : Addr} {kvs : List (Key × V)} (e : H a = some (.dK kvs)) : TyOf K H (.ref a) (.type "dict")
  | dT {a : Addr} {kvs : List (List Key × V)} (e : H a = some (.dT kvs)) : TyOf K H (.ref a) (.type "dict")
  | ins {a C dx : Addr} {fs : List (Str × V)} (e : H a = some (.ins C dx fs)) (cl : Cls K C) (ha : PySem.W.findIn K (.ref C) "__class__" = some (some (.builtin "object.__class__")))
      (hn : PySem.W.specialIn K (.builtin "object.__class__") "__get__" = some (some (.builtin "getset_descriptor.__get__"))) (htk : PySem.W.takesIn K (.builtin "object.__class__") = some true)
      (hm : PySem.W.mroIn K C (.type "object") = some true) : TyOf K H (.ref a) (.ref C)
end
end L2

namespace L2
open PySem PySem.Spec PyProof.Rows

structure Room (k : Nat) (A : Around) : Prop where
  hd : A.handled = none
  dp : A.depth + 3 * k + 5 < recursionLimit
  un : A.units + 16 * k + 200 < cLine
theorem Room.mono {j k : Nat} {A : Around} (r : Room k A) (h : j ≤ k) : Room j A := ⟨r.hd, by have := r.dp; omega, by have := r.un; omega⟩
theorem Room.deeper {k : Nat} {A : Around} (r : Room (k + 1) A) (env : Env) : Room k (A.deeper env) :=
  ⟨r.hd, by have := r.dp; show A.depth + 1 + 3 * k + 5 < _; omega, by have := r.un; show A.units + 3 + 16 * k + 200 < _; omega⟩
theorem Room.in1 {k : Nat} {A : Around} (r : Room (k + 1) A) : Room k A.in1 :=
  ⟨r.hd, by have := r.dp; show A.depth + 3 * k + 5 < _; omega, by have := r.un; show A.units + 1 + 16 * k + 200 < _; omega⟩
theorem Room.depth {k : Nat} {A : Around} (r : Room k A) : A.depth < recursionLimit := by have := r.dp; omega
theorem Room.units {k : Nat} {A : Around} (r : Room k A) : A.units + 64 < cLine := by have := r.un; omega
noncomputable def tNil : TA := fun _ H Q => Q [] H
noncomputable def tCons (ta : TE) (tr : TA) : TA := fun σ H Q => ta σ H fun x H1 => tr σ H1 fun xs H2 => Q (x :: xs) H2
section
variable {X : Cx} {e : Expr} {es : List Expr} {te : TE} {t : TA} {pos : Pos}
theorem pa_nil : PA X [] tNil := fun _ _ _ _ H Q I h => Calls.spliced_nil ⟨[], H, I, .nil, h⟩
theorem pa_cons (ha : PE X e te) (hr : PA X es t) (hs : starEach (e :: es) X.env = (false, eval e X.env) :: starEach es X.env := by rfl) : PA X (e :: es) (tCons te t) := by
  intro pos pins s σ H Q I h
  rw [hs]
  show wpAny _ _ (spliced ((false, eval e X.env) :: backTo pos (starEach es X.env))) _ _ s
  refine Calls.spliced_cons (thn (ha pins s σ H _ I h) fun u s1 x__34 => ?_)
  obtain ⟨x, H1, I1, r1, q1⟩ := x__34
  exact thn (hr pos pins s1 σ H1 _ I1 q1) fun us s2 x__35 => (by obtain ⟨xs, H2, I2, r2, q2⟩ := x__35; exact ⟨x :: xs, H2, I2, .cons r1 r2, q2⟩)

noncomputable def tTup (t : TA) : TE := fun σ H Q => t σ H fun xs H1 => xs.length ≤ sizeLine ∧ ∀ p, H1 p = none → Q (.ref p) (upd H1 p (.tup xs))
noncomputable def tLst (t : TA) : TE := fun σ H Q => t σ H fun xs H1 => xs.length ≤ sizeLine ∧ ∀ p, H1 p = none → Q (.ref p) (upd H1 p (.lst xs))
theorem pe_tup {x1} (h : PA X es t) : PE X (.Tuple es x1 pos) (tTup t) := by
  intro pins s σ H Q I hq
  refine wpAny_Tuple_spliced (thn (h pos pins s σ H _ I hq) fun us s1 ⟨xs, H1, I1, r, z, q⟩ => ⟨by rw [← r.length]; exact z, ?_⟩)
  have hf : H1 s1.heap.objs.size = none := I1.hok.fresh (Nat.le_refl _)
  refine ⟨.ref s1.heap.objs.size, upd H1 s1.heap.objs.size (.tup xs), I1.laid (t' := s1.toks) (fun b u e => Heap.get?_push_of_some _ e) (Nat.le_refl _) ?_, rfl, q _ hf⟩
  exact ⟨z, us, r, ⟨_, Heap.get?_push_size _ rfl, rfl, _, rfl⟩⟩
theorem pe_lst (h : PA X es t) : PE X (.List es pos) (tLst t) := by
  intro pins s σ H Q I hq
  refine wpAny_List_spliced (thn (h pos pins s σ H _ I hq) fun us s1 ⟨xs, H1, I1, r, z, q⟩ => ⟨by rw [← r.length]; exact z, ?_⟩)
  have hf : H1 s1.heap.objs.size = none := I1.hok.fresh (Nat.le_refl _)
  refine ⟨.ref s1.heap.objs.size, upd H1 s1.heap.objs.size (.lst xs), I1.laid (t' := s1.toks) (fun b u e => Heap.get?_push_of_some _ e) (Nat.le_refl _) ?_, rfl, q _ hf⟩
  exact ⟨z, us, 0, r, Heap.get?_push_size _ rfl⟩
end

noncomputable abbrev Sp := List V → Hp → VK → XK → Prop
noncomputable abbrev CXT := List Env → Hp → Shared → XK → Value → Shared → Prop

structure Env0 (P : Program) (w : World) (K : PySem.W.Frag) (mg : Str → Option Value) (base : Heap) (A : Around) (outer : List Env) (s : Shared) (H : Hp) : Prop where
  frames : A.frames = some outer
  mod : Mod K mg base
  bs : ∀ b o, base.get? b = some o → s.heap.get? b = some o ∧ H b = none
  bsz : base.objs.size ≤ s.heap.objs.size
  funs : s.heap.FunFrames base outer
  frf : ∀ b ∈ frs outer, H b = none
  hok : HOk P w H s.heap
  bare : AllBare s.gens
noncomputable def CE (outer : List Env) (P : Program) (w : World) (H : Hp) (s : Shared) (Q : VK) (u : Value) (s' : Shared) : Prop :=
  ∃ v H', s'.os = s.os ∧ AllBare s'.gens ∧ Un (frs outer) [] H H' s.heap s'.heap ∧ HOk P w H' s'.heap ∧ RelV v u ∧ Q v H'
noncomputable def CR (CX : CXT) (outer : List Env) (P : Program) (w : World) (H : Hp) (s : Shared) (Q : VK) (E : XK) (r : Result) (s' : Shared) : Prop :=
  match r with
  | .ok (.ret u) => CE outer P w H s Q u s'
  | .ok _ => False
  | .error e => CX outer H s E e s'
structure FnOk (P : Program) (w : World) (K : PySem.W.Frag) (mg : Str → Option Value) (base : Heap) (CX : CXT) (k : Nat) (f : Addr) (fd : FuncData) (ps : List Str) (sp : Sp) : Prop where
  len : ∀ vs H Q E, sp vs H Q E → vs.length = ps.length
  run : ∀ (A : Around) (outer : List Env) (s : Shared) (H : Hp) (args : Args) (us : List Value) (vs : List V) (Q : VK) (E : XK), Room k A → Env0 P w K mg base A outer s H → BindsTo s fd args (ps.zip us) → Vals vs us → sp vs H Q E →
    codeAny (model P w) A (.call (.ref f) args) (CR CX outer P w H s Q E) s
theorem FnOk.mono {P : Program} {w : World} {K : PySem.W.Frag} {mg : Str → Option Value} {base : Heap} {CX : CXT} {j k : Nat} {f : Addr} {fd : FuncData} {ps : List Str} {sp : Sp} (F : FnOk P w K mg base CX j f fd ps sp) (h : j ≤ k) :
    FnOk P w K mg base CX k f fd ps sp := ⟨F.len, fun A outer s H args us vs Q E hr => F.run A outer s H args us vs Q E (hr.mono h)⟩
theorem FnOk.imp {P : Program} {w : World} {K : PySem.W.Frag} {mg : Str → Option Value} {base : Heap} {CX : CXT} {k : Nat} {f : Addr} {fd : FuncData} {ps : List Str} {sp sp' : Sp} (F : FnOk P w K mg base CX k f fd ps sp)
    (h : ∀ vs H Q E, sp' vs H Q E → sp vs H Q E) : FnOk P w K mg base CX k f fd ps sp' :=
  ⟨fun vs H Q E q => F.len vs H Q E (h _ _ _ _ q), fun A outer s H args us vs Q E hr he hb hv hs => F.run A outer s H args us vs Q E hr he hb hv (h _ _ _ _ hs)⟩

theorem Env0.in1 {P : Program} {w : World} {K : PySem.W.Frag} {mg : Str → Option Value} {base : Heap} {A : Around} {outer : List Env} {s : Shared} {H : Hp} (e : Env0 P w K mg base A outer s H) :
    Env0 P w K mg base A.in1 outer s H := ⟨e.frames, e.mod, e.bs, e.bsz, e.funs, e.frf, e.hok, e.bare⟩

section
variable {X : Cx} {pins : List (Addr × Obj)} {σ : St} {H : Hp} {s s' : Shared}
theorem Inv.env0 (I : Inv X pins σ H s) : Env0 X.prog X.w X.K X.mg X.base X.A X.stack s H :=
  ⟨I.ok.frames, I.ok.mod, I.bs, Nat.le_trans I.ok.bsz I.sz, I.stack, I.stkFree, I.hok, I.bare⟩
theorem Inv.after {Q : VK} {u : Value} (I : Inv X pins σ H s) (h : CE X.stack X.prog X.w H s Q u s') : EP X pins σ Q u s' := by
  obtain ⟨v, H', os, bare, un, hok, r, q⟩ := h
  obtain ⟨hh, g, d, t, os'⟩ := s'
  obtain rfl : os' = s.os := os
  exact ⟨v, H', I.call (h' := hh) (g' := g) (d' := d) (t' := t) (ch := []) un hok bare (fun b z => absurd z (by simp)), r, q⟩
end

noncomputable def tCall (sp : Sp) (dvs : List V) (E : XK) (t : TA) : TE := fun σ H Q => t σ H fun vs H1 => sp (vs ++ dvs) H1 Q E
noncomputable def Binds (K : PySem.W.Frag) (fd : FuncData) (ps : List Str) (ds : List Value) : Prop :=
  ∀ (s : Shared) (us : List Value), K.In s.heap → (us ++ ds).length = ps.length → BindsTo s fd ⟨us, []⟩ (ps.zip (us ++ ds))
theorem Binds.all {K : PySem.W.Frag} {fd : FuncData} {ps : List Str} (h : ∀ us : List Value, us.length = ps.length → bindArgs fd ⟨us, []⟩ = pure (ps.zip us)) : Binds K fd ps [] := fun s us _ hl => by
  rw [List.append_nil] at hl ⊢
  exact .of_eq (h us hl)

noncomputable def Passes (CX : CXT) (X : Cx) (E : XK) : Prop := ∀ (pins : List (Addr × Obj)) (σ : St) (H : Hp) (s : Shared) (e : Value) (s' : Shared), Inv X pins σ H s → CX X.stack H s E e s' → X.xe e s'

section
variable {X : Cx} {CX : CXT} {k : Nat} {f C : Addr} {fd : FuncData} {ps : List Str} {sp : Sp} {dvs : List V} {ds : List Value} {E : XK} {x m : Str} {p pos apos : Pos} {e o : Expr} {es : List Expr} {ta : TE} {t : TA}

theorem run_fn {pins : List (Addr × Obj)} {σ : St} {H : Hp} {s : Shared} {Q : VK} {us : List Value} {vs : List V} (F : FnOk X.prog X.w X.K X.mg X.base CX k f fd ps sp) (hr : Room k X.A) (hb : Binds X.K fd ps ds) (hd : Vals dvs ds) (hx : Passes CX X E)
    (I : Inv X pins σ H s) (r : Vals vs us) (h : sp (vs ++ dvs) H Q E) : wpAny (model X.prog X.w) X.A (call (.ref f) us) (EP X pins σ Q) X.xe s := by
  have r2 : Vals (vs ++ dvs) (us ++ ds) := r.append hd
  have hl : (us ++ ds).length = ps.length := by rw [← r2.length]; exact F.len _ _ _ _ h
  refine wpAny_call (codeAny_mono (F.run X.A X.stack s H ⟨us, []⟩ (us ++ ds) (vs ++ dvs) Q E hr I.env0 (hb s us I.kIn hl) r2 h) fun r s' hq => ?_)
  cases r with
  | error e => exact hx pins σ H s e s' I hq
  | ok fl =>
    cases fl with
    | ret u => exact I.after hq
    | next => exact False.elim hq
    | brk => exact False.elim hq
    | cont => exact False.elim hq

theorem pe_call (F : FnOk X.prog X.w X.K X.mg X.base CX k f fd ps sp) (hr : Room k X.A) (hg : Gl X x) (hm : X.mg x = some (.ref f)) (hk : PySem.W.keepIn X.K (.ref f) = true) (hb : Binds X.K fd ps ds) (hd : Vals dvs ds) (hx : Passes CX X E)
    (ha : PA X (e :: es) t) (hdb : (x == ("__debug__" : Str)) = false := by decide) (he : starEach (e :: es) X.env = (false, eval e X.env) :: starEach es X.env := by rfl) (hpl : (backTo pos (starEach es X.env)).any (·.1) = false := by rfl) :
    PE X (.Call (.Name x p) (e :: es) [] pos) (tCall sp dvs E t) := by
  intro pins s σ H Q I h
  refine wpAny_Call_Name_kw (ld_glob I hg hm ?_ hdb)
  refine PySem.W.callWith_K (h₀ := X.base) I.ok.mod.kin hk (thn (ha pos pins s σ H _ I h) fun us s1 ⟨vs, H1, I1, r, q⟩ => ⟨I1.kIn, ?_⟩) he hpl
  exact run_fn F hr hb hd hx I1 r q
structure Mk (K : PySem.W.Frag) (C f : Addr) : Prop where
  makes : PySem.W.makesIn K C = true
  init : PySem.W.findIn K (.ref C) "__init__" = some (some (.ref f))
  fn : PySem.W.isFn K (.ref f) = true
  kp : PySem.W.keepIn K (.ref C) = true

end

section
variable {X : Cx} {CX : CXT} {k : Nat} {f C : Addr} {fd : FuncData} {ps ks : List Str} {sp : Sp} {E : XK} {x m : Str} {p pos apos kpos : Pos} {e o : Expr} {es : List Expr} {kws : List Keyword} {te ta : TE} {t tk : TA} {nm : Option Str}
structure KBinds (K : PySem.W.Frag) (fd : FuncData) (ps ks : List Str) (g : List Value → List Value → List Value) (gV : List V → List V → List V) : Prop where
  to : ∀ (s : Shared) (us ws : List Value), K.In s.heap → (g us ws).length = ps.length → BindsTo s fd ⟨us, ks.zip ws⟩ (ps.zip (g us ws))
  rel : ∀ {vs : List V} {us : List Value} {zs : List V} {ws : List Value}, Vals vs us → Vals zs ws → Vals (gV vs zs) (g us ws)
variable {g : List Value → List Value → List Value} {gV : List V → List V → List V}
end

structure FnScope (N P : List Str) (sc : Scope) : Prop where
  kind : sc.kind = .function
  co : sc.isCoroutine = false
  gen : sc.isGenerator = false
  nd : N.Nodup
  pre : N.take P.length = P
  par : ∀ x ∈ P, sc.names.lookup x = some .local ∨ sc.names.lookup x = some .cell
  nofree : ∀ y ∈ sc.names, y.2 ≠ .free

theorem bindL_out {kindOf : Str → Option NameKind} {x : Str} : ∀ {binds : List (Str × Value)} {m : Str → Option Value}, (∀ v, (x, v) ∉ binds) → bindL kindOf binds m x = m x
  | [], _, _ => rfl
  | (n, v) :: r, m, h => by
    unfold bindL
    rw [bindL_out fun w hw => h w (List.mem_cons_of_mem _ hw)]
    split
    · have : x ≠ n := by rintro rfl; exact h v List.mem_cons_self
      simp [this]
    · rfl
theorem bindC_out {kindOf : Str → Option NameKind} {x : Str} : ∀ {binds : List (Str × Value)} {m : Str → Option Value}, (∀ v, (x, v) ∉ binds) → bindC kindOf binds m x = m x
  | [], _, _ => rfl
  | (n, v) :: r, m, h => by
    unfold bindC
    rw [bindC_out fun w hw => h w (List.mem_cons_of_mem _ hw)]
    split
    · rfl
    · have : x ≠ n := by rintro rfl; exact h v List.mem_cons_self
      simp [this]
theorem bindL_get {kindOf : Str → Option NameKind} {x : Str} {v : Value} : ∀ {P : List Str} {vs : List Value} {i : Nat} {m : Str → Option Value}, P.Nodup → P[i]? = some x → vs[i]? = some v → kindOf x = some .local →
    bindL kindOf (P.zip vs) m x = some v
  | [], _, _, _, _, h, _, _ => by simp at h
  | _ :: _, [], _, _, _, _, h, _ => by simp at h
  | p :: P, w :: vs, 0, m, nd, h1, h2, hk => by
    simp at h1 h2; subst h1; subst h2
    show bindL kindOf ((p, w) :: P.zip vs) m p = _
    unfold bindL
    rw [bindL_out fun v hv => (List.nodup_cons.mp nd).1 (List.of_mem_zip hv).1, if_pos hk]
    simp
  | p :: P, w :: vs, i + 1, m, nd, h1, h2, hk => by
    show bindL kindOf ((p, w) :: P.zip vs) m x = _
    unfold bindL
    exact bindL_get (i := i) (List.nodup_cons.mp nd).2 (by simpa using h1) (by simpa using h2) hk
theorem bindC_get {kindOf : Str → Option NameKind} {x : Str} {v : Value} : ∀ {P : List Str} {vs : List Value} {i : Nat} {m : Str → Option Value}, P.Nodup → P[i]? = some x → vs[i]? = some v → kindOf x ≠ some .local →
    bindC kindOf (P.zip vs) m x = some v
  | [], _, _, _, _, h, _, _ => by simp at h
  | _ :: _, [], _, _, _, _, h, _ => by simp at h
  | p :: P, w :: vs, 0, m, nd, h1, h2, hk => by
    simp at h1 h2; subst h1; subst h2
    show bindC kindOf ((p, w) :: P.zip vs) m p = _
    unfold bindC
    rw [bindC_out fun v hv => (List.nodup_cons.mp nd).1 (List.of_mem_zip hv).1, if_neg hk]
    simp
  | p :: P, w :: vs, i + 1, m, nd, h1, h2, hk => by
    show bindC kindOf ((p, w) :: P.zip vs) m x = _
    unfold bindC
    exact bindC_get (i := i) (List.nodup_cons.mp nd).2 (by simpa using h1) (by simpa using h2) hk

noncomputable def start (N : List Str) (vs : List V) : St := vs.map some ++ List.replicate (N.length - vs.length) none

noncomputable def cxOf (CX : CXT) (P : Program) (w : World) (K : PySem.W.Frag) (mg : Str → Option Value) (base : Heap) (N : List Str) (qual : Str) (scope : Scope) (f : Addr) (cd : Value) (A : Around) (outer : List Env) (s : Shared) (H : Hp) (E : XK) : Cx where
  prog := P
  w := w
  K := K
  mg := mg
  base := base
  A := A.deeper (envOfC qual scope s.heap.objs.size f cd)
  N := N
  s₀ := s
  H₀ := H
  env := envOfC qual scope s.heap.objs.size f cd
  outer := outer
  stack := envOfC qual scope s.heap.objs.size f cd :: outer
  ex := []
  calm := true
  fn := fun _ => true
  pn := []
  xe := fun e s' => wpAny (model P w) (A.deeper (envOfC qual scope s.heap.objs.size f cd)) (leaving (envOfC qual scope s.heap.objs.size f cd) e) (fun _ s'' => CX outer H s E e s'') (fun e' s'' => CX outer H s E e' s'') s'

theorem cell_has {sc : Scope} {n : Nat} {x : Str} (h : sc.names.lookup x = some .cell) : ∃ c, (cellsFrom n sc.names []).lookup x = some c := by
  have q := PySem.W.cellsFrom_some sc.names n [] (.inl h)
  exact Option.isSome_iff_exists.mp q

theorem inv_start {CX : CXT} {P : Program} {w : World} {K : PySem.W.Frag} {mg : Str → Option Value} {base : Heap} {N ps : List Str} {qual : Str} {scope : Scope} {f : Addr} {cd : Value} {A : Around} {outer : List Env} {s s1 : Shared} {H : Hp} {E : XK} {us : List Value} {vs : List V}
    (S : FnScope N ps scope) (hd : A.handled = none) (e0 : Env0 P w K mg base A outer s H) (hl : vs.length = ps.length) (r : Vals vs us)
    (x : InCallC s s.heap.objs.size (bindL (envOfC qual scope s.heap.objs.size f cd).kindOf (ps.zip us) fun _ => none) (cellsFrom (s.heap.objs.size + 1) scope.names []) (bindC (envOfC qual scope s.heap.objs.size f cd).kindOf (ps.zip us) fun _ => none) s1) :
    Inv (cxOf CX P w K mg base N qual scope f cd A outer s H E) [] (start N vs) H s1 := by
  have hpl : ps.length ≤ N.length := by have := congrArg List.length S.pre; rw [List.length_take] at this; omega
  obtain ⟨h1, tk, rfl, hk⟩ := x.done
  have noA : ∀ b : Addr, b ∉ (cxOf CX P w K mg base N qual scope f cd A outer s H E).ex := fun b z => absurd (show b ∈ ([] : List Addr) from z) (by simp)
  refine ⟨⟨e0.mod, S.kind, rfl, rfl, Nat.le_refl _, fun y z c h1 h2 => ?_, fun y hy => ?_, fun y c _ h => ?_, fun _ => hd, Around.frames_deeper e0.frames, .inr ⟨rfl, rfl⟩, fun b z => absurd z (noA b), e0.bs, e0.bsz, fun b _ _ => noA b, fun b z => absurd z (noA b), e0.funs, e0.frf⟩,
    rfl, e0.bare, Un.kept hk, ⟨_, x.toInCall.ns, fun i y v h1 h2 h3 => ?_⟩, fun y c h => ⟨_, x.cell y c h⟩, e0.hok.fresh (Nat.le_refl _), fun y c h => ?_, fun p hp => absurd (show p ∈ ([] : List (Addr × Obj)) from hp) (by simp), e0.hok.kept hk, ?_⟩
  · exact name_of_addr x.apart (PySem.mem_of_lookup h1) (PySem.mem_of_lookup h2)
  · have hy : scope.names.lookup y = some .cell ∨ scope.names.lookup y = some .free := hy
    rcases hy with hy | hy
    · exact cell_has hy
    · exact absurd rfl (S.nofree _ (PySem.mem_of_lookup hy))
  · exact Nat.le_of_lt (x.above y c (PySem.mem_of_lookup h))
  · have hi : i < vs.length := by
      unfold start at h2
      by_cases hi : i < vs.length
      · exact hi
      · rw [List.getElem?_append_right (by simpa using hi)] at h2
        rw [List.getElem?_replicate] at h2
        split at h2 <;> cases h2
    have ha : vs[i]? = some v := by
      unfold start at h2
      rw [List.getElem?_append_left (by simpa using hi), List.getElem?_map] at h2
      cases e : vs[i]? with
      | none => rw [e] at h2; cases h2
      | some a => rw [e] at h2; cases h2; rfl
    obtain ⟨u, hu, rv⟩ := r.get ha
    have hp : ps[i]? = some y := by
      rw [← S.pre, List.getElem?_take_of_lt (by omega)]; exact h1
    have ndP : ps.Nodup := by rw [← S.pre]; exact S.nd.sublist (List.take_sublist _ _)
    refine ⟨u, rv, ?_⟩
    rcases S.par y (List.mem_of_getElem? hp) with k | k
    · exact .inl ⟨k, bindL_get ndP hp hu k⟩
    · obtain ⟨c, e⟩ := cell_has (n := s.heap.objs.size + 1) k
      refine .inr ⟨.inl k, c, e, ?_⟩
      have q := x.cell y c e
      rw [bindC_get ndP hp hu (by show scope.names.lookup y ≠ _; rw [k]; decide)] at q
      exact q
  · exact e0.hok.fresh (Nat.le_of_lt (x.above y c (PySem.mem_of_lookup h)))
  · unfold start
    show _ = N.length
    rw [List.length_append, List.length_map, List.length_replicate]
    omega

theorem fn_of {CX : CXT} {P : Program} {w : World} {K : PySem.W.Frag} {mg : Str → Option Value} {base : Heap} {k : Nat} {f : Addr} {name qual : Str} {params : Arguments} {body : List Stmt} {scope : Scope} {dV kV doc pm cdv ct oc : Value} {an od : Option Addr}
    {osl : Array (Option Value)} {N ps : List Str} {sp : Sp} (lk : K.lookup f = some ⟨oc, od, .func (PySem.W.fnOf name qual params body scope dV kV doc pm an cdv ct), osl⟩) (hcd : PySem.W.codeIn K cdv qual = true) (S : FnScope N ps scope)
    (len : ∀ vs H Q E, sp vs H Q E → vs.length = ps.length)
    (hbody : ∀ (A : Around) (outer : List Env) (s : Shared) (H : Hp) (vs : List V) (Q : VK) (E : XK), Room k (A.deeper (envOfC qual scope s.heap.objs.size f cdv)) → sp vs H Q E →
      ∃ t, PSs (cxOf CX P w K mg base N qual scope f cdv A outer s H E) body t ∧ t { nx := fun _ H' => Q .non H', rt := Q } (start N vs) H) :
    FnOk P w K mg base CX (k + 1) f (PySem.W.fnOf name qual params body scope dV kV doc pm an cdv ct) ps sp := by
  refine ⟨len, fun A outer s H args us vs Q E hr e0 hb r hsp => ?_⟩
  have hl := len _ _ _ _ hsp
  have KX : K.In s.heap := e0.mod.kin.keeps fun b o e => (e0.bs b o e).1
  have lim : s.heap.NoLimit := e0.mod.nolimit.keeps fun b o e => (e0.bs b o e).1
  have hkind : ∀ y ∈ ps.zip us, scope.names.lookup y.1 = some .local ∨ (scope.names.lookup y.1 = some .cell ∧ ((cellsFrom (s.heap.objs.size + 1) scope.names []).lookup y.1).isSome = true) := fun x__39 hy => by
    obtain ⟨n, v⟩ := x__39
    rcases S.par n (List.of_mem_zip hy).1 with q | q
    · exact .inl q
    · exact .inr ⟨q, PySem.W.cellsFrom_some _ _ _ (.inl q)⟩
  refine codeAny_call_function hr.depth (KX _ _ lk) rfl S.co S.gen rfl (PySem.W.codeRec_of KX hcd) (hb _ _ _ _ ?_)
  refine wpAny_newFunctionEnv_cells S.kind hkind fun env he s1 x => ?_
  subst he
  refine ⟨lim.keeps x.toInCall.keep, codeAny_func ?_⟩
  obtain ⟨t, ht, hq⟩ := hbody A outer s H vs Q E (hr.deeper _) hsp
  have I : Inv (cxOf CX P w K mg base N qual scope f cdv A outer s H E) [] (start N vs) H s1 := inv_start S hr.hd e0 hl r x
  refine wpAny_mono (ht [] s1 (start N vs) H _ I hq) (fun fl s' hs => ?_) fun e s' hs => hs
  have fin : ∀ {σ' : St} {H' : Hp} {v : V} {u : Value}, Inv (cxOf CX P w K mg base N qual scope f cdv A outer s H E) [] σ' H' s' → RelV v u → Q v H' → CE outer P w H s Q u s' :=
    fun {σ' H' v u} J rv q => ⟨v, H', J.os, J.bare, J.base, J.hok, rv, q⟩
  cases fl with
  | ret u =>
    obtain ⟨v, σ', H', J, rv, q⟩ := hs
    exact fin J rv q
  | next =>
    obtain ⟨σ', H', J, q⟩ := hs
    exact fin (v := V.non) (u := Value.none) J rfl q
  | brk =>
    obtain ⟨_, _, _, q⟩ := hs
    exact False.elim q
  | cont =>
    obtain ⟨_, _, _, q⟩ := hs
    exact False.elim q
end L2

namespace L2
open PySem PySem.Spec PyProof.Rows
section
variable {X : Cx} {x : Str} {p pos : Pos} {e : Expr} {es : List Expr} {t : TA} {id T : String} {r : List V → Hp → VK → Prop}

noncomputable def tCB (r : List V → Hp → VK → Prop) (t : TA) : TE := fun σ H Q => t σ H fun vs H1 => r vs H1 Q
theorem pe_callB (hc : CallR X (.builtin id) r) (hg : Gl X x) (hm : X.mg x = none) (hv : bootBuiltins x = some (.builtin id)) (ha : PA X (e :: es) t) (hn : x ≠ "__name__" := by decide) (hdb : (x == ("__debug__" : Str)) = false := by decide)
    (he : starEach (e :: es) X.env = (false, eval e X.env) :: starEach es X.env := by rfl) (hpl : (backTo pos (starEach es X.env)).any (·.1) = false := by rfl) : PE X (.Call (.Name x p) (e :: es) [] pos) (tCB r t) := by
  intro pins s σ H Q I h
  refine wpAny_Call_Name_kw (ld_blt I hg hm hv ?_ hn hdb)
  exact PyProof.Rows.callWith_builtin1 (thn (ha pos pins s σ H _ I h) fun us s1 x__40 => (by obtain ⟨vs, H1, I1, r1, q1⟩ := x__40; exact hc pins s1 σ H1 vs us Q I1 r1 q1)) he hpl
theorem pe_callTy (hc : CallR X (.type T) r) (hg : Gl X x) (hm : X.mg x = none) (hv : bootBuiltins x = some (.type T)) (ha : PA X (e :: es) t) (hn : x ≠ "__name__" := by decide) (hdb : (x == ("__debug__" : Str)) = false := by decide)
    (he : starEach (e :: es) X.env = (false, eval e X.env) :: starEach es X.env := by rfl) (hpl : (backTo pos (starEach es X.env)).any (·.1) = false := by rfl) : PE X (.Call (.Name x p) (e :: es) [] pos) (tCB r t) := by
  intro pins s σ H Q I h
  refine wpAny_Call_Name_kw (ld_blt I hg hm hv ?_ hn hdb)
  exact PyProof.Rows.callWith_type1 (thn (ha pos pins s σ H _ I h) fun us s1 x__41 => (by obtain ⟨vs, H1, I1, r1, q1⟩ := x__41; exact hc pins s1 σ H1 vs us Q I1 r1 q1)) he hpl
end
end L2

namespace HT
open PySem PyProof.Rows

section
open PySem.SeqAt
open PySem.AutoSeq1 (wpAny_loadPart')
open PySem.MeetsSeq PySem.MeetsSeq2 PySem.MeetsSeq3

end

section
variable {prog : Program} {w : World} {A : Around} {E : Value → Shared → Prop} {s : Shared}

noncomputable def sIx (n d : Nat) : Option Int → Nat
  | none => d
  | some v => if v < 0 then (v + (n : Int)).toNat else min v.toNat n
theorem sIx_none (n d : Nat) : sIx n d none = d := rfl
theorem sIx_nat (n d k : Nat) : sIx n d (some (k : Int)) = min k n := by
  show (if (k : Int) < 0 then ((k : Int) + (n : Int)).toNat else min (k : Int).toNat n) = min k n
  rw [if_neg (by omega), Int.toNat_natCast]
end
end HT

namespace L2
open PySem PySem.Spec PyProof.Rows

noncomputable abbrev TO := St → Hp → (Option Int → Hp → Prop) → Prop
noncomputable def PO (X : Cx) (e : Option Expr) (t : TO) : Prop :=
  ∀ (pins : List (Addr × Obj)) (s : Shared) (σ : St) (H : Hp) (Q : Option Int → Hp → Prop), Inv X pins σ H s → t σ H Q →
    wpAny (model X.prog X.w) X.A (evalPart e X.env) (fun u s' => ∃ o H', Inv X pins σ H' s' ∧ IsPart u o ∧ Q o H') X.xe s
noncomputable def tNoPart : TO := fun _ H Q => Q none H
noncomputable def tPart (t : TE) : TO := fun σ H Q => t σ H fun x H1 => ∃ i, x = .int i ∧ Q (some i) H1

section
variable {X : Cx} {e : Expr} {te : TE} {lo hi : Option Expr} {tl th : TO} {pos p2 : Pos}

theorem po_none : PO X none tNoPart := by
  intro pins s σ H Q I h
  rw [evalPart_none]
  exact wpAny_pure ⟨none, H, I, .none, h⟩
theorem po_some (h : PE X e te) : PO X (some e) (tPart te) := by
  intro pins s σ H Q I hw
  rw [evalPart_some]
  refine thn (h pins s σ H _ I hw) fun u s1 x__42 => ?_
  obtain ⟨x, H1, I1, r1, q1⟩ := x__42
  obtain ⟨i, rfl, q⟩ := q1
  obtain ⟨t, rfl⟩ := r1
  exact ⟨some i, H1, I1, .int i t, q⟩

noncomputable def SlR (X : Cx) (r : V → Option Int → Option Int → Hp → VK → Prop) : Prop :=
  ∀ (pins : List (Addr × Obj)) (s : Shared) (σ : St) (H : Hp) (x : V) (v vl vu : Value) (lo hi : Option Int) (sl : Addr) (Q : VK), Inv X pins σ H s → RelV x v → s.heap.IsSliceOf sl vl vu .none → IsPart vl lo → IsPart vu hi → r x lo hi H Q →
    ∃ T id, typeLookup (.type T) "__getitem__" = pure (some (.builtin id)) ∧ s.TypeIs v T ∧ wpAny (model X.prog X.w) X.A (getItem v (.ref sl)) (EP X pins σ Q) X.xe s
theorem SlR.or {r r' : V → Option Int → Option Int → Hp → VK → Prop} (h : SlR X r) (h' : SlR X r') : SlR X (fun x lo hi H Q => r x lo hi H Q ∨ r' x lo hi H Q) := by
  intro pins s σ H x v vl vu lo hi sl Q I rx hs pl pu q
  rcases q with q | q
  · exact h pins s σ H x v vl vu lo hi sl Q I rx hs pl pu q
  · exact h' pins s σ H x v vl vu lo hi sl Q I rx hs pl pu q
noncomputable def tSl (r : V → Option Int → Option Int → Hp → VK → Prop) (te : TE) (tl th : TO) : TE := fun σ H Q => te σ H fun x H1 => tl σ H1 fun l H2 => th σ H2 fun u H3 => r x l u H3 Q
theorem pe_slice {r : V → Option Int → Option Int → Hp → VK → Prop} (hr : SlR X r) (he : PE X e te) (hl : PO X lo tl) (hu : PO X hi th) : PE X (.Subscript e (.Slice lo hi none p2) pos) (tSl r te tl th) := by
  intro pins s σ H Q I h
  refine Subscript_ (thn (he pins s σ H _ I h) fun v s1 x__43 => ?_)
  obtain ⟨x, H1, I1, r1, q1⟩ := x__43
  refine wpAny_Slice (thn (hl pins s1 σ H1 _ I1 q1) fun vl s2 ⟨l, H2, I2, pl, q2⟩ => thn (hu pins s2 σ H2 _ I2 q2) fun vu s3 x__45 => ?_)
  obtain ⟨u, H3, I3, pu, q3⟩ := x__45
  rw [evalPart_none]
  refine wpAny_pure ?_
  have I4 : Inv X pins σ H3 { s3 with heap := s3.heap.push { cls := .type "slice", data := .fields #[vl, vu, .none] } } := I3.kept (t' := s3.toks) fun b ob q => Heap.get?_push_of_some _ q
  obtain ⟨T, id, hT, ht, hg⟩ := hr pins { s3 with heap := s3.heap.push { cls := .type "slice", data := .fields #[vl, vu, .none] } } σ H3 x v vl vu l u s3.heap.objs.size Q I4 r1 (Heap.IsSliceOf.new ..) pl pu q3
  show wpAny (model X.prog X.w) X.A (subscriptTail e (.Slice lo hi none p2) v (.ref s3.heap.objs.size)) (EP X pins σ Q) X.xe { s3 with heap := s3.heap.push { cls := .type "slice", data := .fields #[vl, vu, .none] } }
  exact tail_any (ops := [.ref s3.heap.objs.size, v]) ht hT hg (by with_unfolding_all rfl)

noncomputable def cutV (xs : List V) (lo hi : Option Int) : List V := (xs.drop (HT.sIx xs.length 0 lo)).take (HT.sIx xs.length xs.length hi - HT.sIx xs.length 0 lo)
theorem cutV_length (xs : List V) (lo hi : Option Int) : (cutV xs lo hi).length ≤ xs.length := by
  unfold cutV
  rw [List.length_take, List.length_drop]
  omega
end
end L2

namespace L2
open PySem PySem.Spec PyProof.Rows

noncomputable def ixN (n : Nat) (i : Int) : Option Nat := if 0 ≤ i then (if i < n then some i.toNat else none) else if -(n : Int) ≤ i then some (i + n).toNat else none
noncomputable def atI {α : Type} (xs : List α) (i : Int) : Option α := (ixN xs.length i).bind fun j => xs[j]?
theorem ixN_seq {n : Nat} {i : Int} {j : Nat} (h : ixN n i = some j) : seqIndex? i n = some j ∧ j < n ∧ -(n : Int) ≤ i ∧ i < n := by
  unfold ixN at h
  by_cases h0 : 0 ≤ i
  · rw [if_pos h0] at h
    by_cases h1 : i < n
    · rw [if_pos h1] at h
      have e : i.toNat = j := Option.some.inj h
      exact ⟨by rw [seqIndex_of h0 h1, e], by omega, by omega, h1⟩
    · rw [if_neg h1] at h; cases h
  · rw [if_neg h0] at h
    by_cases h1 : -(n : Int) ≤ i
    · rw [if_pos h1] at h
      have e : (i + n).toNat = j := Option.some.inj h
      exact ⟨by rw [seqIndex_neg (by omega) h1, e], by omega, h1, by omega⟩
    · rw [if_neg h1] at h; cases h
theorem atI_get {α : Type} {xs : List α} {i : Int} {v : α} (h : atI xs i = some v) : ∃ j, seqIndex? i xs.length = some j ∧ xs[j]? = some v ∧ j < xs.length ∧ -(xs.length : Int) ≤ i ∧ i < xs.length := by
  unfold atI at h
  cases e : ixN xs.length i with
  | none => rw [e] at h; cases h
  | some j =>
    rw [e] at h
    obtain ⟨h1, h2, h3, h4⟩ := ixN_seq e
    exact ⟨j, h1, h, h2, h3, h4⟩
theorem atI_nat {α : Type} {xs : List α} {j : Nat} {v : α} (h : xs[j]? = some v) : atI xs (j : Int) = some v := by
  have hj : j < xs.length := (List.getElem?_eq_some_iff.mp h).1
  have e : ixN xs.length (j : Int) = some j := by
    unfold ixN
    rw [if_pos (by omega), if_pos (by omega)]; simp
  unfold atI; rw [e]; exact h
theorem atI_last {α : Type} (xs : List α) (v : α) : atI (xs ++ [v]) (-1) = some v := by
  have hl : (xs ++ [v]).length = xs.length + 1 := by simp
  have e : ixN (xs ++ [v]).length (-1) = some xs.length := by
    unfold ixN
    rw [hl, if_neg (by decide), if_pos (by omega)]
    congr 1
    omega
  unfold atI
  rw [e]
  show (xs ++ [v])[xs.length]? = some v
  simp

noncomputable def PlainIx (b : Expr) : Prop := ∀ o i, subscripted b false o i = operate [o, i] (getItem o i)
noncomputable def IxR (X : Cx) (r : R2) : Prop :=
  ∀ (value slice : Expr) (pins : List (Addr × Obj)) (s : Shared) (σ : St) (H : Hp) (x y : V) (v u : Value) (Q : VK), Inv X pins σ H s → RelV x v → RelV y u → r x y H Q →
    subscripted slice false v u = operate [v, u] (getItem v u) → wpAny (model X.prog X.w) X.A (subscriptTail value slice v u) (EP X pins σ Q) X.xe s
noncomputable def MtR (X : Cx) (id : String) (r : V → List V → Hp → VK → Prop) : Prop :=
  ∀ (pins : List (Addr × Obj)) (s : Shared) (σ : St) (H : Hp) (x : V) (xs : List V) (v : Value) (us : List Value) (Q : VK), Inv X pins σ H s → RelV x v → Vals xs us → r x xs H Q →
    wpAny (model X.prog X.w) X.A (call (.builtin id) (v :: us)) (EP X pins σ Q) X.xe s
section
variable {X : Cx} {a b : Expr} {ta tb : TE} {pos : Pos}
theorem IxR.or {r r' : R2} (h : IxR X r) (h' : IxR X r') : IxR X (fun x y H Q => r x y H Q ∨ r' x y H Q) := by
  intro value slice pins s σ H x y v u Q I rx ry q hs
  rcases q with q | q
  · exact h value slice pins s σ H x y v u Q I rx ry q hs
  · exact h' value slice pins s σ H x y v u Q I rx ry q hs
theorem MtR.or {id : String} {r r' : V → List V → Hp → VK → Prop} (h : MtR X id r) (h' : MtR X id r') : MtR X id (fun x xs H Q => r x xs H Q ∨ r' x xs H Q) := by
  intro pins s σ H x xs v us Q I rx rs q
  rcases q with q | q
  · exact h pins s σ H x xs v us Q I rx rs q
  · exact h' pins s σ H x xs v us Q I rx rs q
theorem pe_ix {r : R2} (hr : IxR X r) (ha : PE X a ta) (hb : PE X b tb) (hs : PlainIx b) : PE X (.Subscript a b pos) (tOp r ta tb) := by
  intro pins s σ H Q I h
  exact Subscript_ (binT ha hb I h fun v u s2 x y H2 I2 rx ry q => hr a b pins s2 σ H2 x y v u Q I2 rx ry q (hs _ _))

noncomputable def rIxL (K : PySem.W.Frag) : R2 := fun x y H Q => ∃ p xs i v, x = .ref p ∧ y = .int i ∧ SqL K H p xs ∧ atI xs i = some v ∧ Q v H
noncomputable def rIxT (K : PySem.W.Frag) : R2 := fun x y H Q => ∃ p xs i v, x = .ref p ∧ y = .int i ∧ SqT K H p xs ∧ atI xs i = some v ∧ Q v H
noncomputable def rIxS : R2 := fun x y H Q => ∃ z i c, x = .str z ∧ y = .int i ∧ z.length ≤ sizeLine ∧ atI z.cps.toList i = some c ∧ Q (.str ⟨#[c]⟩) H
theorem ix_list : IxR X (rIxL X.K) := by
  intro value slice pins s σ H x y v u Q I rx ry h hs
  obtain ⟨p, xs, i, z, rfl, rfl, hq, he, q⟩ := h
  cases rx
  obtain ⟨t, rfl⟩ := ry
  obtain ⟨its, r, pl, hz⟩ := I.list hq
  obtain ⟨j, h1, h2, h3, h4, h5⟩ := atI_get he
  obtain ⟨w, ew, rw'⟩ := r.get h2
  have hl := r.length
  have hn := line63
  have fin : EP X pins σ Q w s := ⟨z, H, I, rw', q⟩
  by_cases h0 : 0 ≤ i
  · have hj : i.toNat = j := by
      rw [seqIndex_of h0 h5] at h1
      exact Option.some.inj h1
    exact item_listR pl.isList h0 (by omega) (by rw [hj]; simpa using ew) fin hs
  · have hj : (i + (its.toArray.size : Int)).toNat = j := by
      rw [seqIndex_neg (by omega) h4] at h1
      rw [List.size_toArray, ← hl]
      exact Option.some.inj h1
    exact subscriptTail_builtinR (x := w) pl.isList.typeIs slot_list_getitem.lookup
      (wpAny_getItem_list_neg (Q := fun r s' => r = w ∧ EP X pins σ Q r s') pl.isList (by omega) (by rw [List.size_toArray] <;> omega) (by omega) (by rw [hj]; simpa using ew) ⟨rfl, fin⟩) hs
theorem ix_tup : IxR X (rIxT X.K) := by
  intro value slice pins s σ H x y v u Q I rx ry h hs
  obtain ⟨p, xs, i, z, rfl, rfl, hq, he, q⟩ := h
  cases rx
  obtain ⟨t, rfl⟩ := ry
  obtain ⟨its, r, pl, hz⟩ := I.tuple hq
  obtain ⟨j, h1, h2, h3, h4, h5⟩ := atI_get he
  obtain ⟨w, ew, rw'⟩ := r.get h2
  have hl := r.length
  have hn := line63
  have fin : EP X pins σ Q w s := ⟨z, H, I, rw', q⟩
  exact subscriptTail_builtinR (x := w) pl.typeIs slot_tuple_getitem.lookup
    (getItem_tuple (j := j) (Q := fun r s' => r = w ∧ EP X pins σ Q r s') pl (by omega) (by omega) (by rw [List.size_toArray, ← hl]; exact h1) (by simpa using ew) ⟨rfl, fin⟩) hs
theorem ix_str : IxR X rIxS := by
  intro value slice pins s σ H x y v u Q I rx ry h hs
  obtain ⟨z, i, c, rfl, rfl, hz, he, q⟩ := h
  obtain ⟨t, rfl⟩ := rx
  obtain ⟨t', rfl⟩ := ry
  obtain ⟨j, h1, h2, h3, h4, h5⟩ := atI_get he
  have hl : z.cps.toList.length = z.length := by simp [Str.length]
  rw [hl] at h1 h4 h5
  have hn := line63
  exact tail_any (typeIs_str s z t) slot_str_getitem.lookup (getItem_str (c := c) (by
    have e1 : decide (i < -(2 ^ 63 : Int)) = false := decide_eq_false (by omega)
    have e2 : decide (i ≥ 2 ^ 63) = false := decide_eq_false (by omega)
    rw [e1, e2, Bool.or_false]) (by rw [h1]; simpa using h2) ⟨.str ⟨#[c]⟩, H, I.tok _, ⟨_, rfl⟩, q⟩) hs
noncomputable def rIx (K : PySem.W.Frag) : R2 := fun x y H Q => rIxL K x y H Q ∨ rIxT K x y H Q ∨ rIxS x y H Q
theorem ix_seq : IxR X (rIx X.K) := ix_list.or (ix_tup.or ix_str)

theorem mapSeq_set (its : List Value) (n j : Nat) (u : Value) : Obj.mapSeq (·.setIfInBounds j u) { cls := .type "list", data := .seq its.toArray n } = { cls := .type "list", data := .seq (its.set j u).toArray n } := by
  simp [Obj.mapSeq]
theorem Inv.lst {pins : List (Addr × Obj)} {σ : St} {H : Hp} {s : Shared} {p : Addr} {xs : List V} (I : Inv X pins σ H s) (h : H p = some (.lst xs)) :
    ∃ (its : List Value) (n : Nat), Vals xs its ∧ s.heap.get? p = some { cls := .type "list", data := .seq its.toArray n } ∧ xs.length ≤ sizeLine := by
  obtain ⟨z, its, n, r, e⟩ := I.hok p _ h
  exact ⟨its, n, r, e, z⟩
theorem Inv.lstUpd {pins : List (Addr × Obj)} {σ : St} {H : Hp} {s : Shared} {p : Addr} {xs ys : List V} {its its' : List Value} {n n' : Nat} {f : Obj → Obj} (I : Inv X pins σ H s) (h : H p = some (.lst xs))
    (ho : s.heap.get? p = some { cls := .type "list", data := .seq its.toArray n }) (hf : f { cls := .type "list", data := .seq its.toArray n } = { cls := .type "list", data := .seq its'.toArray n' }) (r : Vals ys its') (hz : ys.length ≤ sizeLine) (t : Nat) :
    Inv X pins σ (upd H p (.lst ys)) { s with heap := s.heap.update p f, toks := t } := by
  have e : (s.heap.update p f).get? p = some { cls := .type "list", data := .seq its'.toArray n' } := by
    rw [Heap.get?_update_self f ho (by rw [hf] <;> rfl), hf]
  refine I.write (x := p) (e := p) (by rw [h]; trivial) (.inl rfl) (fun b u hb q => (Heap.get?_update_other _ _ (Ne.symm hb)).trans q) ⟨_, e⟩ ?_
  exact ⟨hz, its', n', r, e⟩
noncomputable def rSetL : V → V → V → Hp → (Hp → Prop) → Prop := fun o i v H Q => ∃ p xs k j, o = .ref p ∧ i = .int k ∧ H p = some (.lst xs) ∧ ixN xs.length k = some j ∧ Q (upd H p (.lst (xs.set j v)))
theorem set_list : PSet X rSetL := by
  intro pins s σ H o i v ov iv u Q I ro ri rv h
  obtain ⟨p, xs, k, j, rfl, rfl, hp, hj, q⟩ := h
  cases ro
  obtain ⟨t, rfl⟩ := ri
  obtain ⟨its, n, r, ho, hz⟩ := I.lst hp
  obtain ⟨h1, h2, h3, h4⟩ := ixN_seq hj
  have hl := r.length
  have hn := line63
  have I' : Inv X pins σ (upd H p (.lst (xs.set j v))) { s with heap := s.heap.update p (Obj.mapSeq (·.setIfInBounds j u)) } :=
    I.lstUpd hp ho (mapSeq_set its n j u) (r.set rv j) (by rw [List.length_set]; exact hz) s.toks
  by_cases h0 : 0 ≤ k
  · have hk : k.toNat = j := by
      rw [seqIndex_of h0 h4] at h1
      exact Option.some.inj h1
    exact PySem.W.ki_setAt ho h0 (by omega) (by rw [List.size_toArray, ← hl]; exact h4) (by rw [hk]; exact ⟨_, I', q⟩)
  · have hk : (k + (its.toArray.size : Int)).toNat = j := by
      rw [seqIndex_neg (by omega) h3] at h1
      rw [List.size_toArray, ← hl]
      exact Option.some.inj h1
    exact PySem.W.ki_setBack ho (by omega) (by rw [List.size_toArray, ← hl]; exact h3) (by omega) (by rw [hk]; exact ⟨_, I', q⟩)

theorem slice_bounds (lo hi : Option Int) (n : Nat) : (sliceBounds lo hi none n).1 = ((HT.sIx n 0 lo : Nat) : Int) ∧ (sliceBounds lo hi none n).2.1 = ((HT.sIx n n hi : Nat) : Int) ∧ (sliceBounds lo hi none n).2.2 = 1 := by
  refine ⟨?_, ?_, rfl⟩
  · cases lo with
    | none => simp [sliceBounds, HT.sIx]
    | some i =>
      simp only [sliceBounds, HT.sIx, Option.getD_none, show (1 : Int) > 0 by decide, if_true]
      by_cases h : i < 0
      · simp only [h, if_true] <;> omega
      · simp only [h, if_false] <;> omega
  · cases hi with
    | none => simp [sliceBounds, HT.sIx]
    | some i =>
      simp only [sliceBounds, HT.sIx, Option.getD_none, show (1 : Int) > 0 by decide, if_true]
      by_cases h : i < 0
      · simp only [h, if_true] <;> omega
      · simp only [h, if_false] <;> omega
theorem slicePick_cut (its : List Value) (lo hi : Option Int) : slicePick its.toArray lo hi none = ((its.drop (HT.sIx its.length 0 lo)).take (HT.sIx its.length its.length hi - HT.sIx its.length 0 lo)).toArray := by
  obtain ⟨h1, h2, h3⟩ := slice_bounds lo hi its.toArray.size
  unfold slicePick
  rw [h1, h2, h3]
  simp only [sliceRange_one, pick_run, List.size_toArray] <;> rfl
noncomputable def rSlL (K : PySem.W.Frag) : V → Option Int → Option Int → Hp → VK → Prop := fun x lo hi H Q => ∃ a xs, x = .ref a ∧ SqL K H a xs ∧ ∀ p, H p = none → Q (.ref p) (upd H p (.lst (cutV xs lo hi)))
theorem sl_list : SlR X (rSlL X.K) := by
  intro pins s σ H x v vl vu lo hi sl Q I rx hs pl pu h
  obtain ⟨a, xs, rfl, hx, q⟩ := h
  cases rx
  obtain ⟨its, r, ht, hz⟩ := I.list hx
  have hlen := r.length
  refine ⟨"list", _, slot_list_getitem.lookup, ht.isList.typeIs, ?_⟩
  refine wpAny_getItem_list_slice ht.isList hs pl pu .none (by simp) ?_ (by rw [List.size_toArray] <;> omega)
  rw [slicePick_cut, ← hlen]
  refine ⟨.ref s.heap.objs.size, _, I.laid (t' := s.toks) (o := .lst (cutV xs lo hi)) (fun b ob q => Heap.get?_push_of_some _ q) (Nat.le_refl _) ?_, rfl, q _ (I.hok.fresh (Nat.le_refl _))⟩
  exact ⟨Nat.le_trans (cutV_length xs lo hi) hz, _, 0, (r.drop (HT.sIx xs.length 0 lo)).take (HT.sIx xs.length xs.length hi - HT.sIx xs.length 0 lo), Heap.get?_push_size _ rfl⟩

theorem call_len_seq : CallR X (.builtin "len") (fun xs H Q => ∃ p ys, xs = [.ref p] ∧ (SqL X.K H p ys ∨ SqT X.K H p ys) ∧ Q (.int ys.length) H) := by
  intro pins s σ H xs us Q I r h
  obtain ⟨p, ys, rfl, hq, q⟩ := h
  obtain ⟨u, rfl, rx⟩ := vals1 r
  cases rx
  have hn := line63
  rcases hq with hq | hq
  · obtain ⟨its, r', pl, hz⟩ := I.list hq
    have hlen := r'.length
    exact Calls.call_len_list pl.isList (by simp only [List.size_toArray] <;> omega) ⟨.int ys.length, H, I.tok _, ⟨s.toks + 1, by rw [List.size_toArray, hlen]⟩, q⟩
  · obtain ⟨its, r', pl, hz⟩ := I.tuple hq
    have hlen := r'.length
    exact len_tuple pl (by simp only [List.size_toArray] <;> omega) ⟨.int ys.length, H, I.tok _, ⟨s.toks + 1, by rw [List.size_toArray, hlen]⟩, q⟩
theorem CallR.or {f : Value} {r r' : List V → Hp → VK → Prop} (h : CallR X f r) (h' : CallR X f r') : CallR X f (fun xs H Q => r xs H Q ∨ r' xs H Q) := by
  intro pins s σ H xs us Q I rs q
  rcases q with q | q
  · exact h pins s σ H xs us Q I rs q
  · exact h' pins s σ H xs us Q I rs q
theorem call_list_of : CallR X (.type "list") (fun xs H Q => ∃ p ys, xs = [.ref p] ∧ (SqL X.K H p ys ∨ SqT X.K H p ys) ∧ ∀ l, H l = none → Q (.ref l) (upd H l (.lst ys))) := by
  intro pins s σ H xs us Q I r h
  obtain ⟨p, ys, rfl, hq, q⟩ := h
  obtain ⟨u, rfl, rx⟩ := vals1 r
  cases rx
  have fin : ∀ (its : List Value), Vals ys its → ys.length ≤ sizeLine → ∀ (h' : Heap) (c' : Nat), (∀ b o', s.heap.get? b = some o' → h'.get? b = some o') →
      h'.get? s.heap.objs.size = some { cls := .type "list", dict := none, data := .seq its.toArray c', slots := #[] } → EP X pins σ Q (.ref s.heap.objs.size) { s with heap := h' } := fun its r' hz h' c' kp e =>
    ⟨.ref s.heap.objs.size, _, I.laid (t' := s.toks) kp (Nat.le_refl _) (show ObjOk X.prog X.w _ h' _ (.lst ys) from ⟨hz, its, c', r', e⟩), rfl, q _ (I.hok.fresh (Nat.le_refl _))⟩
  rcases hq with hq | hq
  · obtain ⟨its, r', pl, hz⟩ := I.list hq
    have hlen := r'.length
    obtain ⟨o, ho, hc, n, hd⟩ := pl.isList
    exact call_list_seq p (.inl rfl) ho hc hd (fun h' c' kp e => fin its r' hz h' c' kp e) (by simp only [List.size_toArray] <;> omega)
  · obtain ⟨its, r', pl, hz⟩ := I.tuple hq
    have hlen := r'.length
    obtain ⟨o, ho, hc, n, hd⟩ := pl
    exact call_list_seq p (.inr rfl) ho hc hd (fun h' c' kp e => fin its r' hz h' c' kp e) (by simp only [List.size_toArray] <;> omega)
theorem call_tuple_of : CallR X (.type "tuple") (fun xs H Q => ∃ p ys, xs = [.ref p] ∧ ((SqL X.K H p ys ∧ ∀ l, H l = none → Q (.ref l) (upd H l (.tup ys))) ∨ (SqT X.K H p ys ∧ Q (.ref p) H))) := by
  intro pins s σ H xs us Q I r h
  obtain ⟨p, ys, rfl, h⟩ := h
  obtain ⟨u, rfl, rx⟩ := vals1 r
  cases rx
  rcases h with ⟨hq, q⟩ | ⟨hq, q⟩
  · obtain ⟨its, r', pl, hz⟩ := I.list hq
    have hlen := r'.length
    refine call_tuple_list pl.isList (fun h' kp => ?_) (by simp only [List.size_toArray] <;> omega)
    have I1 : Inv X pins σ H { s with heap := h' } := I.kept (t' := s.toks) kp
    have I2 : Inv X pins σ (upd H h'.objs.size (.tup ys)) { s with heap := h'.push { cls := .type "tuple", data := .seq its.toArray } } :=
      I1.laid (t' := s.toks) (fun b o e => Heap.get?_push_of_some _ e) (Nat.le_refl _) (show ObjOk X.prog X.w _ _ _ (.tup ys) from ⟨hz, its, r', IsTup.new _ _⟩)
    exact ⟨.ref h'.objs.size, _, I2, rfl, q _ (I1.hok.fresh (Nat.le_refl _))⟩
  · obtain ⟨its, r', pl, hz⟩ := I.tuple hq
    exact call_tuple_same pl ⟨.ref p, H, I, rfl, q⟩

noncomputable def tyV (K : PySem.W.Frag) (T : String) (x : V) (H : Hp) : Prop := match x with
  | .str _ => T = "str"
  | .int _ => T = "int"
  | .ref p => (T = "list" ∧ ∃ xs, SqL K H p xs) ∨ (T = "tuple" ∧ ∃ o, K.lookup p = some o ∧ o.cls = .type "tuple" ∧ o.dict = none) ∨
      (T = "dict" ∧ ((∃ kvs, H p = some (.dK kvs)) ∨ ∃ kvs, H p = some (.dT kvs))) ∨ (T = "set" ∧ ∃ S n, H p = some (.set S n))
  | _ => False
theorem tyV_is {pins : List (Addr × Obj)} {σ : St} {H : Hp} {s : Shared} {T : String} {x : V} {v : Value} (I : Inv X pins σ H s) (r : RelV x v) (ty : tyV X.K T x H) :
    s.TypeIs v T ∧ ∀ a, v = .ref a → ∃ ob, s.heap.get? a = some ob ∧ ob.dict = none := by
  cases x with
  | str z =>
    obtain ⟨t, rfl⟩ := r
    cases (show T = "str" from ty)
    exact ⟨typeIs_str s z t, fun _ e => nomatch e⟩
  | int i =>
    obtain ⟨t, rfl⟩ := r
    cases (show T = "int" from ty)
    exact ⟨typeIs_int s i t, fun _ e => nomatch e⟩
  | ref p =>
    cases r
    rcases ty with ⟨rfl, xs, hq⟩ | ⟨rfl, o, hk, hc, hd⟩ | ⟨rfl, hk⟩ | ⟨rfl, S, n, hk⟩
    · obtain ⟨its, _, pl, _⟩ := I.list hq
      refine ⟨pl.isList.typeIs, fun a e => ?_⟩
      cases e
      obtain ⟨o, n, e, c, hd, _⟩ := pl
      exact ⟨o, e, hd⟩
    · refine ⟨⟨o, I.kIn p o hk, hc⟩, fun a e => ?_⟩
      cases e
      exact ⟨o, I.kIn _ o hk, hd⟩
    · have z : ∃ o, s.heap.get? p = some o ∧ o.ExactDict := by
        rcases hk with ⟨kvs, hk⟩ | ⟨kvs, hk⟩
        · obtain ⟨_, _, _, _, o, _, _, e, ex, _⟩ := I.hok p _ hk
          exact ⟨o, e, ex⟩
        · obtain ⟨_, _, _, _, o, _, _, e, ex, _⟩ := I.hok p _ hk
          exact ⟨o, e, ex⟩
      obtain ⟨o, e, ex⟩ := z
      refine ⟨⟨o, e, ex.1⟩, fun a e2 => ?_⟩
      cases e2
      exact ⟨o, e, ex.2.1⟩
    · obtain ⟨o, _, _, _, e, ex, _⟩ := I.hok p _ hk
      refine ⟨⟨o, e, ex.1⟩, fun a e2 => ?_⟩
      cases e2
      exact ⟨o, e, ex.2.1⟩
  | _ => exact False.elim ty
noncomputable def tBM0 (K : PySem.W.Frag) (T : String) (r : V → List V → Hp → VK → Prop) (to : TE) : TE := fun σ H Q => to σ H fun x H1 => tyV K T x H1 ∧ r x [] H1 Q
noncomputable def tBM (K : PySem.W.Frag) (T : String) (r : V → List V → Hp → VK → Prop) (to : TE) (t : TA) : TE := fun σ H Q => to σ H fun x H1 => tyV K T x H1 ∧ t σ H1 fun xs H2 => r x xs H2 Q
variable {o e : Expr} {es : List Expr} {to : TE} {t : TA} {name : Str} {apos cpos : Pos} {T id : String} {r : V → List V → Hp → VK → Prop}
theorem pe_bm0 (pa : PlainAttrs T) (slot : Slot T name id) (hty : typeOf (.builtin id) = pure (.type "method_descriptor")) (hm : MtR X id r) (ho : PE X o to)
    (hbase : attributeBase o name X.env (eval o X.env) = eval o X.env := by rfl) (hline : (apos.endLine == cpos.line) = true := by rfl) : PE X (.Call (.Attribute o name apos) [] [] cpos) (tBM0 X.K T r to) := by
  intro pins s σ H Q I h
  refine wpAny_Call_method0_late hbase hline (thn (ho pins s σ H _ I h) fun v s1 x__46 => ?_)
  obtain ⟨x, H1, I1, r1, ty, q1⟩ := x__46
  obtain ⟨h1, h2⟩ := tyV_is I1 r1 ty
  exact ⟨T, id, pa, slot, hty, h1, h2, Calls.callWith_builtin rfl (PySem.evalArgs_none (hm pins s1 σ H1 x [] v [] Q I1 r1 .nil q1))⟩
theorem pe_bm (pa : PlainAttrs T) (slot : Slot T name id) (hty : typeOf (.builtin id) = pure (.type "method_descriptor")) (hm : MtR X id r) (ho : PE X o to) (ha : PA X (e :: es) t)
    (hbase : attributeBase o name X.env (eval o X.env) = eval o X.env := by rfl)
    (hfew : ((backTo cpos (starEach (e :: es) X.env)).all (fun x => !x.1) && (backToKw cpos (keywordEach [] X.env)).all (fun x => x.1.isSome)
      && decide ((e :: es).length + ([] : List Keyword).length + (if ([] : List Keyword).isEmpty then 0 else 1) < 30)) = true := by rfl)
    (hline : (apos.endLine == cpos.line) = true := by rfl) (hs : starEach (e :: es) X.env = (false, eval e X.env) :: starEach es X.env := by rfl) (hplain : (backTo cpos (starEach es X.env)).any (·.1) = false := by rfl) :
    PE X (.Call (.Attribute o name apos) (e :: es) [] cpos) (tBM X.K T r to t) := by
  intro pins s σ H Q I h
  refine wpAny_Call_method_late hbase hfew hline rfl (thn (ho pins s σ H _ I h) fun v s1 x__47 => ?_)
  obtain ⟨x, H1, I1, r1, ty, q1⟩ := x__47
  obtain ⟨h1, h2⟩ := tyV_is I1 r1 ty
  refine ⟨T, id, pa, slot, hty, h1, h2, ?_⟩
  have hA := ha cpos pins s1 σ H1 _ I1 q1
  rw [hs] at hA ⊢
  refine Calls.callWith_builtin (by show (false || (backTo cpos (starEach es X.env)).any (·.1)) = false; rw [hplain] <;> rfl) (Calls.evalArgs_plain ?_)
  exact thn hA fun us s2 x__48 => (by obtain ⟨vs, H2, I2, r2, q2⟩ := x__48; exact hm pins s2 σ H2 x vs v us Q I2 r1 r2 q2)
/- xs.append(e), list.index on a module's tuple .. are MtR facts of 06m -/
end
end L2

namespace L2
open PySem PySem.Spec PyProof.Rows

noncomputable def MtM (X : Cx) (id : String) (r : V → List V → Hp → VK → Prop) : Prop :=
  ∀ (pins : List (Addr × Obj)) (s : Shared) (σ : St) (H : Hp) (x : V) (xs : List V) (v : Value) (us : List Value) (Q : VK), Inv X pins σ H s → RelV x v → Vals xs us → r x xs H Q →
    wpAny (model X.prog X.w) X.A (call (.builtin id) (v :: us)) (EP X pins σ Q) X.xe s

theorem Vals.one {x : V} {us : List Value} (h : Vals [x] us) : ∃ u, us = [u] ∧ RelV x u := by
  cases h with
  | cons r h =>
    cases h
    exact ⟨_, rfl, r⟩
theorem Vals.two {x y : V} {us : List Value} (h : Vals [x, y] us) : ∃ u v, us = [u, v] ∧ RelV x u ∧ RelV y v := by
  cases h with
  | cons r h =>
    cases h with
    | cons q h =>
      cases h
      exact ⟨_, _, rfl, r, q⟩
theorem Vals.zero : ∀ {us : List Value}, Vals [] us → us = []
  | _, .nil => rfl
theorem Vals.dropLast {xs : List V} {us : List Value} (h : Vals xs us) : Vals xs.dropLast us.dropLast := by
  induction h with
  | nil => exact .nil
  | cons r t ih =>
    cases t with
    | nil => exact .nil
    | cons q t' => exact .cons r ih
theorem Vals.eraseIdx : ∀ {xs : List V} {us : List Value} (i : Nat), Vals xs us → Vals (xs.eraseIdx i) (us.eraseIdx i)
  | _, _, _, .nil => .nil
  | _, _, 0, .cons _ t => t
  | _, _, i + 1, .cons r t => .cons r (Vals.eraseIdx i t)
theorem Vals.reverse {xs : List V} {us : List Value} (h : Vals xs us) : Vals xs.reverse us.reverse := by
  induction h with
  | nil => exact .nil
  | cons r t ih => rw [List.reverse_cons, List.reverse_cons]; exact Vals.append ih (.cons r .nil)
theorem Vals.rep {xs : List V} {us : List Value} (h : Vals xs us) : ∀ k : Nat, Vals (List.replicate k xs).flatten (List.replicate k us).flatten
  | 0 => .nil
  | k + 1 => by
    rw [List.replicate_succ, List.replicate_succ, List.flatten_cons, List.flatten_cons]
    exact Vals.append h (Vals.rep h k)
theorem erase_last {α : Type} (l : List α) : l.eraseIdx (l.length - 1) = l.dropLast := by
  induction l with
  | nil => rfl
  | cons a r ih =>
    cases r with
    | nil => rfl
    | cons b r =>
      have e : (a :: b :: r).length - 1 = ((b :: r).length - 1) + 1 := by
        have h1 : (a :: b :: r).length = r.length + 2 := rfl
        have h2 : (b :: r).length = r.length + 1 := rfl
        omega
      rw [e, List.eraseIdx_cons_succ, ih]
      all_goals rfl
theorem foldl_rep (its : List Value) : ∀ (k : Nat) (acc : List Value),
    List.foldl (fun x1 x2 => x1 ++ x2) acc.toArray (List.replicate k its.toArray) = (acc ++ (List.replicate k its).flatten).toArray
  | 0, acc => by simp
  | k + 1, acc => by
    have e : acc.toArray ++ its.toArray = (acc ++ its).toArray := by simp
    have e2 : (acc ++ its) ++ (List.replicate k its).flatten = acc ++ (List.replicate (k + 1) its).flatten := by
      rw [List.replicate_succ, List.flatten_cons, List.append_assoc]
    rw [← e2, ← foldl_rep its k (acc ++ its), ← e, List.replicate_succ, List.foldl_cons]

section
variable {X : Cx} {pins : List (Addr × Obj)} {σ : St} {H : Hp} {s : Shared} {l b : Addr} {xs ys zs : List V}

theorem Inv.lset {its its' : List Value} {n : Nat} {f : Array Value → Array Value} {t' : Nat} (I : Inv X pins σ H s) (hH : H l = some (.lst xs))
    (e : s.heap.get? l = some { cls := .type "list", data := .seq its.toArray n }) (hf : f its.toArray = its'.toArray) (hv : Vals ys its') (hz : ys.length ≤ sizeLine) :
    Inv X pins σ (upd H l (.lst ys)) { s with heap := s.heap.update l (Obj.mapSeq f), toks := t' } := by
  have q := PySem.IsL.update e f
  rw [hf] at q
  refine I.write (x := l) (e := l) (by rw [hH]; exact trivial) (.inl rfl) (fun b' u hb hu => (Heap.get?_update_other s.heap (Obj.mapSeq f) (Ne.symm hb)).trans hu) ⟨_, q⟩ ?_
  exact ⟨hz, its', _, hv, q⟩
theorem Inv.lnew {its : List Value} {t' : Nat} (I : Inv X pins σ H s) (hv : Vals ys its) (hz : ys.length ≤ sizeLine) :
    Inv X pins σ (upd H s.heap.objs.size (.lst ys)) { s with heap := s.heap.push { cls := .type "list", data := .seq its.toArray }, toks := t' } :=
  I.laid (fun _ _ q => Heap.get?_push_of_some _ q) (Nat.le_refl _) ⟨hz, its, 0, hv, Heap.get?_push_size _ rfl⟩
theorem Inv.fresh (I : Inv X pins σ H s) : H s.heap.objs.size = none := I.hok.fresh (Nat.le_refl _)
theorem Inv.lstM (I : Inv X pins σ H s) (hH : H l = some (.lst xs)) : xs.length ≤ sizeLine ∧ ∃ (its : List Value) (n : Nat), Vals xs its ∧ xs.length = its.length ∧ s.heap.get? l = some { cls := .type "list", data := .seq its.toArray n } := by
  obtain ⟨z, its, n, r, e⟩ := I.hok l _ hH
  exact ⟨z, its, n, r, r.length, e⟩

theorem notLongL {n : Nat} (h : n ≤ sizeLine) : Builtin.List.listTooLong n = false := by
  unfold Builtin.List.listTooLong
  exact decide_eq_false (by omega)
end

section
variable {X : Cx}

noncomputable def rAppend : V → List V → Hp → VK → Prop := fun x vs H Q => ∃ l xs y, x = .ref l ∧ vs = [y] ∧ H l = some (.lst xs) ∧ xs.length < sizeLine ∧ Q .non (upd H l (.lst (xs ++ [y])))
theorem mt_append : MtM X "list.append" rAppend := by
  intro pins s σ H x vs v us Q I rx rv h
  obtain ⟨l, xs, y, rfl, rfl, hH, hz, q⟩ := h
  cases rx
  obtain ⟨u, rfl, ru⟩ := rv.one
  obtain ⟨z, its, n, r, hl, e⟩ := I.lstM hH
  refine call_meets F.slot_list_append ⟨_, e, rfl⟩ F.entry_list_append (F.args_list_append_2 _ _) (PySem.list_append l its.toArray n u (by rw [List.size_toArray]; omega)) ⟨e, ?_⟩
  refine ⟨.non, _, I.lset (its' := its ++ [u]) hH e (by simp) (r.append (.cons ru .nil)) ?_, rfl, q⟩
  rw [List.length_append, List.length_singleton]
  omega

noncomputable def rPop : V → List V → Hp → VK → Prop := fun x vs H Q => ∃ l xs y, x = .ref l ∧ vs = [] ∧ H l = some (.lst xs) ∧ xs[xs.length - 1]? = some y ∧ Q y (upd H l (.lst xs.dropLast))
theorem mt_pop : MtM X "list.pop" rPop := by
  intro pins s σ H x vs v us Q I rx rv h
  obtain ⟨l, xs, y, rfl, rfl, hH, hy, q⟩ := h
  cases rx
  have hus := rv.zero
  subst hus
  obtain ⟨z, its, n, r, hl, e⟩ := I.lstM hH
  obtain ⟨u, hu, ru⟩ := r.get hy
  have hy' : its.toArray[its.toArray.size - 1]? = some u := by
    show its.toArray[its.length - 1]? = some u
    rw [← Array.getElem?_toList, ← hl]
    exact hu
  refine call_meets F.slot_list_pop ⟨_, e, rfl⟩ F.entry_list_pop (F.args_list_pop_1 _) (MeetsSeq.list_pop_last l its.toArray n u hy' (by rw [List.size_toArray]; omega)) ⟨e, ?_⟩
  refine ⟨y, _, I.lset (its' := its.dropLast) hH e ?_ r.dropLast ?_, ru, q⟩
  · show its.toArray.eraseIdxIfInBounds (its.toArray.size - 1) = its.dropLast.toArray
    rw [List.size_toArray, List.eraseIdxIfInBounds_toArray, erase_last]
  · rw [List.length_dropLast]
    omega

noncomputable def rReverse : V → List V → Hp → VK → Prop := fun x vs H Q => ∃ l xs, x = .ref l ∧ vs = [] ∧ H l = some (.lst xs) ∧ Q .non (upd H l (.lst xs.reverse))
theorem mt_reverse : MtM X "list.reverse" rReverse := by
  intro pins s σ H x vs v us Q I rx rv h
  obtain ⟨l, xs, rfl, rfl, hH, q⟩ := h
  cases rx
  have hus := rv.zero
  subst hus
  obtain ⟨z, its, n, r, hl, e⟩ := I.lstM hH
  refine call_meets F.slot_list_reverse ⟨_, e, rfl⟩ F.entry_list_reverse (F.args_list_reverse_1 _) (AutoSeq1.list_reverse_list_0 l its.toArray n (by rw [List.size_toArray]; omega)) ⟨e, ?_⟩
  refine ⟨.non, _, I.lset (its' := its.reverse) hH e (by simp) r.reverse ?_, rfl, q⟩
  rw [List.length_reverse]
  omega

noncomputable def rCat : R2 := fun x y H Q => ∃ l b xs zs, x = .ref l ∧ y = .ref b ∧ H l = some (.lst xs) ∧ H b = some (.lst zs) ∧ xs.length + zs.length ≤ sizeLine ∧ ∀ p, H p = none → Q (.ref p) (upd H p (.lst (xs ++ zs)))
theorem op_cat : OpR X (binaryOp .Add) rCat := by
  intro pins s σ H x y v u Q I rx ry h
  obtain ⟨l, b, xs, zs, rfl, rfl, hH, hB, hz, q⟩ := h
  cases rx
  cases ry
  obtain ⟨z, its, n, r, hl, e⟩ := I.lstM hH
  obtain ⟨z2, its2, n2, r2, hl2, e2⟩ := I.lstM hB
  refine PySem.P.add_list e e2 ?_ (by rw [List.size_toArray, List.size_toArray]; omega)
  have ea : its.toArray ++ its2.toArray = (its ++ its2).toArray := by simp
  rw [ea]
  exact ⟨.ref _, _, I.lnew (t' := s.toks) (r.append r2) (by rw [List.length_append]; omega), rfl, q _ I.fresh⟩
noncomputable def rRep : R2 := fun x y H Q => ∃ l k xs, x = .ref l ∧ y = .int k ∧ H l = some (.lst xs) ∧ -(2 ^ 63) ≤ k ∧ k < 2 ^ 63 ∧ xs.length * k.toNat ≤ sizeLine ∧
  ∀ p, H p = none → Q (.ref p) (upd H p (.lst (List.replicate k.toNat xs).flatten))
theorem len_rep {α : Type} (xs : List α) (k : Nat) : (List.replicate k xs).flatten.length = k * xs.length := by
  induction k with
  | zero => simp
  | succ k ih => rw [List.replicate_succ, List.flatten_cons, List.length_append, ih, Nat.succ_mul, Nat.add_comm]
theorem op_rep : OpR X (binaryOp .Mult) rRep := by
  intro pins s σ H x y v u Q I rx ry h
  obtain ⟨l, k, xs, rfl, rfl, hH, h1, h2, hz, q⟩ := h
  cases rx
  obtain ⟨t, rfl⟩ := ry
  obtain ⟨z, its, n, r, hl, e⟩ := I.lstM hH
  have hlen : its.toArray.size * k.toNat ≤ sizeLine := by rw [List.size_toArray, ← hl]; exact hz
  have hcap : ¬ its.toArray.size * k.toNat > (2 ^ 63 - 1) / 8 := by
    have : (sizeLine : Nat) ≤ (2 ^ 63 - 1) / 8 := by decide
    omega
  have hfit : ¬ (!Builtin.List.listFitsIndex k) = true := by
    rw [fitsIndex_both h1 h2]
    exact Bool.false_ne_true
  have hlong : ¬ Builtin.List.listTooLong (its.toArray.size * k.toNat) = true := by
    rw [notLongL hlen]
    exact Bool.false_ne_true
  have hnew : List.foldl (fun x1 x2 => x1 ++ x2) #[] (List.replicate (if its.toArray.isEmpty = true then 0 else k.toNat) its.toArray) = (List.replicate k.toNat its).flatten.toArray := by
    have f0 : ∀ m : Nat, List.foldl (fun x1 x2 => x1 ++ x2) #[] (List.replicate m its.toArray) = (List.replicate m its).flatten.toArray := fun m => by
      have := foldl_rep its m []
      rw [List.nil_append] at this
      exact this
    rw [f0]
    cases its with
    | nil => simp
    | cons a r' => rw [if_neg (by simp)]
  refine wpAny_binaryOp_repeat_ref (T := "list") (U := "int") (by decide) ⟨_, e, rfl⟩ (fun s' => typeIs_int s' k t) noFill_list_mul F.fills_int_mul F.slot_int_rmul repeat_list F.slot_int_index.lookup
    (call_meets F.slot_int_rmul (typeIs_int s k t) F.entry_int_rmul (F.args_int_rmul_2 _ _) (int___rmul___int_list k t l its.toArray n)
      ⟨e, rfl, ⟨_, e, rfl⟩, call_meets F.slot_list_mul ⟨_, e, rfl⟩ F.entry_list_mul (F.args_list_mul_2 _ _) (AutoListH.list___mul___list_int_3 l its.toArray n k t hfit hcap hlong) ⟨e, ?_⟩⟩)
  rw [hnew]
  exact ⟨.ref _, _, I.lnew (t' := s.toks) (r.rep k.toNat) (by rw [len_rep, Nat.mul_comm]; exact hz), rfl, q _ I.fresh⟩

end

section
variable {prog : Program} {w : World} {A : Around} {E : Value → Shared → Prop} {s : Shared}
end

section
variable {X : Cx}
end
end L2


namespace L2
open PySem PySem.Spec PyProof.Rows

section
variable {κ : Type} [DecidableEq κ]
noncomputable def valV (kvs : List (κ × V)) (k : κ) : Option V := (kvs.find? fun kv => decide (kv.1 = k)).map (·.2)
noncomputable def putK (kvs : List (κ × V)) (k : κ) (v : V) : List (κ × V) :=
  if (kvs.any fun kv => decide (kv.1 = k)) = true then kvs.map (fun kv => if kv.1 = k then (kv.1, v) else kv) else kvs ++ [(k, v)]
noncomputable def dropK (kvs : List (κ × V)) (k : κ) : List (κ × V) := kvs.filter fun kv => decide (kv.1 ≠ k)

theorem valV_pos {p : κ × V} {r : List (κ × V)} {k : κ} (e : p.1 = k) : valV (p :: r) k = some p.2 := by simp [valV, List.find?_cons, e]
theorem valV_neg {p : κ × V} {r : List (κ × V)} {k : κ} (e : ¬ p.1 = k) : valV (p :: r) k = valV r k := by simp [valV, List.find?_cons, e]
theorem valV_any (k : κ) : ∀ kvs : List (κ × V), (kvs.any fun kv => decide (kv.1 = k)) = (valV kvs k).isSome
  | [] => rfl
  | p :: r => by
    rw [List.any_cons]
    by_cases e : p.1 = k
    · simp only [valV_pos e, decide_eq_true e, Bool.true_or, Option.isSome_some]
    · rw [valV_neg e, decide_eq_false e, Bool.false_or]; exact valV_any k r
theorem length_putK (kvs : List (κ × V)) (k : κ) (v : V) : (putK kvs k v).length ≤ kvs.length + 1 := by
  unfold putK
  split
  · rw [List.length_map]; omega
  · rw [List.length_append, List.length_cons, List.length_nil]; omega
theorem RelO.isSome_eq {o : Option V} {u : Option Value} (r : RelO o u) : o.isSome = u.isSome := by
  cases o with
  | none => cases u with
    | none => rfl
    | some _ => exact (show False from r).elim
  | some _ => cases u with
    | none => exact (show False from r).elim
    | some _ => rfl
theorem RelO.getD {o : Option V} {u : Option Value} {d : V} {d' : Value} (r : RelO o u) (rd : RelV d d') : RelV (o.getD d) (u.getD d') := by
  cases o with
  | none => cases u with
    | none => exact rd
    | some _ => exact (show False from r).elim
  | some _ => cases u with
    | none => exact (show False from r).elim
    | some _ => exact r

theorem KV.val {kvs : List (κ × V)} {vs : List (κ × Value)} (r : KV kvs vs) (k : κ) : RelO (valV kvs k) (valueAt vs k) := by
  unfold KV at r
  induction r with
  | nil => exact True.intro
  | @cons p q ps qs h t ih =>
    obtain ⟨h1, h2⟩ := h
    by_cases e : p.1 = k
    · have e' : q.1 = k := h1.symm.trans e
      have b : valueAt (q :: qs) k = some q.2 := by simp [valueAt, List.find?_cons, e']
      rw [valV_pos e, b]; exact h2
    · have e' : ¬ q.1 = k := fun z => e (h1.trans z)
      have b : valueAt (q :: qs) k = valueAt qs k := by simp [valueAt, List.find?_cons, e']
      rw [valV_neg e, b]; exact ih
theorem KV.any {kvs : List (κ × V)} {vs : List (κ × Value)} (r : KV kvs vs) (k : κ) : (kvs.any fun kv => decide (kv.1 = k)) = vs.any fun kv => decide (kv.1 = k) := by
  unfold KV at r
  induction r with
  | nil => rfl
  | cons h t ih => rw [List.any_cons, List.any_cons, ih, h.1]
theorem KV.repl {kvs : List (κ × V)} {vs : List (κ × Value)} (r : KV kvs vs) (k : κ) {y : V} {u : Value} (ry : RelV y u) :
    KV (kvs.map fun kv => if kv.1 = k then (kv.1, y) else kv) (vs.map fun kv => if kv.1 = k then (kv.1, u) else kv) := by
  unfold KV at r ⊢
  induction r with
  | nil => exact .nil
  | @cons p q ps qs h t ih =>
    rw [List.map_cons, List.map_cons]
    refine .cons ?_ ih
    obtain ⟨h1, h2⟩ := h
    by_cases e : p.1 = k
    · rw [if_pos e, if_pos (h1.symm.trans e)]; exact ⟨h1, ry⟩
    · rw [if_neg e, if_neg (fun z => e (h1.trans z))]; exact ⟨h1, h2⟩
theorem KV.put {kvs : List (κ × V)} {vs : List (κ × Value)} (r : KV kvs vs) (k : κ) {y : V} {u : Value} (ry : RelV y u) : KV (putK kvs k y) (stored vs k u) := by
  unfold putK stored
  rw [r.any k]
  by_cases e : (vs.any fun kv => decide (kv.1 = k)) = true
  · rw [if_pos e, if_pos e]; exact r.repl k ry
  · rw [if_neg e, if_neg e]; exact Paired.snoc r ⟨rfl, ry⟩
theorem KV.drop {kvs : List (κ × V)} {vs : List (κ × Value)} (r : KV kvs vs) (k : κ) : KV (dropK kvs k) (without vs k) := by
  unfold KV at r ⊢
  unfold dropK without
  induction r with
  | nil => exact .nil
  | @cons p q ps qs h t ih =>
    obtain ⟨h1, h2⟩ := h
    rw [List.filter_cons, List.filter_cons]
    by_cases e : p.1 = k
    · have a : ¬ decide (p.1 ≠ k) = true := by simp [e]
      have b : ¬ decide (q.1 ≠ k) = true := by simp [h1.symm.trans e]
      rw [if_neg a, if_neg b]; exact ih
    · have e' : ¬ q.1 = k := fun z => e (h1.trans z)
      have a : decide (p.1 ≠ k) = true := by simp [e]
      have b : decide (q.1 ≠ k) = true := by simp [e']
      rw [if_pos a, if_pos b]; exact .cons ⟨h1, h2⟩ ih
theorem KV.keys {kvs : List (κ × V)} {vs : List (κ × Value)} (r : KV kvs vs) : kvs.map (·.1) = vs.map (·.1) := by
  unfold KV at r
  induction r with
  | nil => rfl
  | cons h t ih => rw [List.map_cons, List.map_cons, ih, h.1]
theorem KV.length {kvs : List (κ × V)} {vs : List (κ × Value)} (r : KV kvs vs) : kvs.length = vs.length := Paired.length r
end


theorem kV_is {P : Program} {w : World} {k : Key} {u : Value} (r : RelV (kV k) u) : (mixKind P w).is k u = true := by
  cases k with
  | inl i => obtain ⟨t, e⟩ := (show ∃ t, u = Value.int i t from r); subst e; exact mixKind_int P w i t
  | inr x => obtain ⟨t, e⟩ := (show ∃ t, u = Value.str x t from r); subst e; exact mixKind_str P w x t
theorem items_are {P : Program} {w : World} : ∀ {ks : List Key} {us : List Value}, Vals (ks.map kV) us → ItemsAre (mixKind P w) ks us
  | [], _, r => by rw [List.map_nil] at r; cases r; exact .nil
  | k :: ks, _, r => by
    rw [List.map_cons] at r
    cases r with
    | cons h t => exact .cons (kV_is h) (items_are t)

noncomputable abbrev KT (H : Hp) : List (List Key × V) → List (List Key × Addr × Value) → Prop := Paired fun p q => p.1 = q.1 ∧ H q.2.1 = some (.tup (p.1.map kV)) ∧ RelV p.2 q.2.2
theorem KT.val {H : Hp} {kvs : List (List Key × V)} {xs : List (List Key × Addr × Value)} (r : KT H kvs xs) (k : List Key) : RelO (valV kvs k) ((atKey xs k).map (·.2)) := by
  induction r with
  | nil => exact True.intro
  | @cons p q ps qs h t ih =>
    obtain ⟨h1, _, h2⟩ := h
    by_cases e : p.1 = k
    · have e' : q.1 = k := h1.symm.trans e
      have b : atKey (q :: qs) k = some q.2 := by simp [atKey, List.find?_cons, e']
      rw [valV_pos e, b]; exact h2
    · have e' : ¬ q.1 = k := fun z => e (h1.trans z)
      have b : atKey (q :: qs) k = atKey qs k := by simp [atKey, List.find?_cons, e']
      rw [valV_neg e, b]; exact ih
theorem KT.repl {H : Hp} {kvs : List (List Key × V)} {xs : List (List Key × Addr × Value)} (r : KT H kvs xs) (k : List Key) {y : V} {u : Value} (ry : RelV y u) :
    KT H (kvs.map fun kv => if kv.1 = k then (kv.1, y) else kv) (xs.map (putAt k u)) := by
  induction r with
  | nil => exact .nil
  | @cons p q ps qs h t ih =>
    rw [List.map_cons, List.map_cons]
    refine .cons ?_ ih
    obtain ⟨h1, h2, h3⟩ := h
    unfold putAt
    by_cases e : p.1 = k
    · rw [if_pos e, if_pos (h1.symm.trans e)]; exact ⟨h1, h2, ry⟩
    · rw [if_neg e, if_neg (fun z => e (h1.trans z))]; exact ⟨h1, h2, h3⟩
theorem KT.put {H : Hp} {kvs : List (List Key × V)} {xs : List (List Key × Addr × Value)} (r : KT H kvs xs) (k : List Key) {b : Addr} {y : V} {u : Value} (hb : H b = some (.tup (k.map kV))) (ry : RelV y u) :
    KT H (putK kvs k y) (storedH xs k b u) := by
  have e : (kvs.any fun kv => decide (kv.1 = k)) = (atKey xs k).isSome := by
    rw [valV_any, (r.val k).isSome_eq, Option.isSome_map]
  unfold putK storedH
  rw [e]
  by_cases q : (atKey xs k).isSome = true
  · rw [if_pos q, if_pos q]; exact r.repl k ry
  · rw [if_neg q, if_neg q]; exact Paired.snoc r ⟨rfl, hb, ry⟩
theorem KT.keeps {H H' : Hp} {kvs : List (List Key × V)} {xs : List (List Key × Addr × Value)} (r : KT H kvs xs) (ht : ∀ b ys, H b = some (.tup ys) → H' b = some (.tup ys)) : KT H' kvs xs :=
  Paired.mapP r fun _ _ z => ⟨z.1, ht _ _ z.2.1, z.2.2⟩

section
variable {P : Program} {w : World} {H : Hp} {h : Heap} {a : Addr}
theorem rd_of {u : HO} (ok : HOk P w H h) (e : Rd H a u) : ObjOk P w H h a u := e.ok ok
theorem dk_rd {kvs : List (Key × V)} (ok : HOk P w H h) (e : Rd H a (.dK kvs)) : kvs.length ≤ sizeLine ∧ (a == sysModules) = false ∧ ∃ vs, KV kvs vs ∧ h.DictOf (mixKind P w) a vs :=
  show ObjOk P w H h a (.dK kvs) from rd_of ok e
theorem dk_of {kvs : List (Key × V)} (ok : HOk P w H h) (e : H a = some (.dK kvs)) : kvs.length ≤ sizeLine ∧ (a == sysModules) = false ∧ ∃ vs, KV kvs vs ∧ h.DictOf (mixKind P w) a vs := dk_rd ok (.inl e)
theorem key_of {ks : List Key} (ok : HOk P w H h) (e : H a = some (.tup (ks.map kV))) : (tupleKind (mixKind P w)).is h ks a := by
  obtain ⟨_, its, r, o, h1, h2, n, h3⟩ := (show ObjOk P w H h a (.tup (ks.map kV)) from ok a _ e)
  exact ⟨o, its.toArray, n, h1, h2, h3, by simpa using items_are r⟩
theorem dt_rd {kvs : List (List Key × V)} (ok : HOk P w H h) (e : Rd H a (.dT kvs)) : kvs.length ≤ sizeLine ∧ (a == sysModules) = false ∧
    ∃ xs, KT H kvs xs ∧ h.DictOfH (tupleKind (mixKind P w)) a xs := by
  obtain ⟨z, y, xs, r, o, es, ep, h1, h2, h3, h4, h5⟩ := (show ObjOk P w H h a (.dT kvs) from rd_of ok e)
  refine ⟨z, y, xs, r, o, es, ep, h1, h2, h3, h4, fun x hx => ?_, h5⟩
  have all : ∀ {l : List (List Key × V)} {m : List (List Key × Addr × Value)}, KT H l m → ∀ x ∈ m, (tupleKind (mixKind P w)).is h x.1 x.2.1 := by
    intro l m q
    induction q with
    | nil => intro x hx; exact nomatch hx
    | @cons p q ps qs hq t ih =>
      intro x hx
      rcases List.mem_cons.mp hx with e | hx
      · subst e
        exact key_of ok (by rw [← hq.1]; exact hq.2.1)
      · exact ih x hx
  exact all r x hx
theorem dt_of {kvs : List (List Key × V)} (ok : HOk P w H h) (e : H a = some (.dT kvs)) : kvs.length ≤ sizeLine ∧ (a == sysModules) = false ∧
    ∃ xs, KT H kvs xs ∧ h.DictOfH (tupleKind (mixKind P w)) a xs := dt_rd ok (.inl e)
end

noncomputable def DGet (H : Hp) (a : Addr) (y : V) (r : Option V) : Prop :=
  (∃ kvs k, Rd H a (.dK kvs) ∧ y = kV k ∧ r = valV kvs k) ∨ ∃ kvs k b, Rd H a (.dT kvs) ∧ y = .ref b ∧ H b = some (.tup (k.map kV)) ∧ r = valV kvs k
noncomputable def DPut (H : Hp) (a : Addr) (y v : V) (H' : Hp) : Prop :=
  (∃ kvs k, H a = some (.dK kvs) ∧ y = kV k ∧ kvs.length < sizeLine ∧ H' = upd H a (.dK (putK kvs k v))) ∨
  ∃ kvs k b, H a = some (.dT kvs) ∧ y = .ref b ∧ H b = some (.tup (k.map kV)) ∧ kvs.length < sizeLine ∧ H' = upd H a (.dT (putK kvs k v))
theorem DGet.k {H : Hp} {a : Addr} {kvs : List (Key × V)} {k : Key} (e : H a = some (.dK kvs)) : DGet H a (kV k) (valV kvs k) := .inl ⟨kvs, k, .inl e, rfl, rfl⟩
theorem DGet.t {H : Hp} {a b : Addr} {kvs : List (List Key × V)} {k : List Key} (e : H a = some (.dT kvs)) (eb : H b = some (.tup (k.map kV))) : DGet H a (.ref b) (valV kvs k) := .inr ⟨kvs, k, b, .inl e, rfl, eb, rfl⟩
theorem DPut.k {H : Hp} {a : Addr} {kvs : List (Key × V)} {k : Key} {v : V} (e : H a = some (.dK kvs)) (hl : kvs.length < sizeLine) : DPut H a (kV k) v (upd H a (.dK (putK kvs k v))) := .inl ⟨kvs, k, e, rfl, hl, rfl⟩
theorem DPut.t {H : Hp} {a b : Addr} {kvs : List (List Key × V)} {k : List Key} {v : V} (e : H a = some (.dT kvs)) (eb : H b = some (.tup (k.map kV))) (hl : kvs.length < sizeLine) :
    DPut H a (.ref b) v (upd H a (.dT (putK kvs k v))) := .inr ⟨kvs, k, b, e, rfl, eb, hl, rfl⟩


section
variable {X : Cx} {pins : List (Addr × Obj)} {σ : St} {H : Hp} {s : Shared} {a : Addr} {y v : V} {u r : Value} {o : Option V} {A : Around} {E : Value → Shared → Prop}

theorem Inv.big (I : Inv X pins σ H s) : sysModules < s.heap.objs.size := by
  have h : mainGlobals < s.heap.objs.size := (I.mod.glob.keeps I.bk).lt
  exact Nat.lt_trans (by decide) h

theorem d_getItem {Q : Value → Shared → Prop} (hu : A.units + 1 < cLine) (I : Inv X pins σ H s) (g : DGet H a y (some v)) (ry : RelV y u) (h : ∀ w' s', Inv X pins σ H s' → RelV v w' → Q w' s') :
    wpAny (model X.prog X.w) A (getItem (.ref a) u) Q E s := by
  rcases g with ⟨kvs, k, e, ey, l⟩ | ⟨kvs, k, b, e, ey, eb, l⟩
  · subst ey
    obtain ⟨z, hd, vs, rel, dd⟩ := dk_rd I.hok e
    obtain ⟨w', hw, rw'⟩ := RelO.some_of (v := v) (o := valueAt vs k) (by rw [l]; exact rel.val k)
    exact wpAny_getItem_of (kV_is ry) dd.mapOf hw (h w' _ (I.tok _) rw')
  · subst ey
    cases (show u = Value.ref b from ry)
    obtain ⟨z, hd, xs, rel, dd⟩ := dt_rd I.hok e
    obtain ⟨w', hw, rw'⟩ := RelO.some_of (v := v) (o := (atKey xs k).map (·.2)) (by rw [l]; exact rel.val k)
    obtain ⟨p, hp, hp2⟩ := Option.map_eq_some_iff.mp hw
    refine wpAny_getItem_heap (tupleKind_room_in1 hu) (key_of I.hok eb) dd hp ?_
    rw [hp2]
    exact h w' _ (I.tok _) rw'
theorem d_write {h' : Heap} {t' : Nat} {ob : HO} (I : Inv X pins σ H s) (mu : Mut (H a)) (hs : Heap.SameBut a s.heap h') (he : ∃ q, h'.get? a = some q) (new : ObjOk X.prog X.w (upd H a ob) h' a ob) :
    Inv X pins σ (upd H a ob) { s with heap := h', toks := t' } :=
  I.write (x := a) (e := a) mu (.inl rfl) (fun b q hb z => (hs.2 b hb).trans z) he new
theorem dk_new {P : Program} {w : World} {H' : Hp} {h' : Heap} {kvs : List (Key × V)} {vs : List (Key × Value)} (z : kvs.length ≤ sizeLine) (hd : (a == sysModules) = false) (rel : KV kvs vs) (dd : h'.DictOf (mixKind P w) a vs) :
    ObjOk P w H' h' a (.dK kvs) := ⟨z, hd, vs, rel, dd⟩
theorem d_setItem {H' : Hp} {Q : Unit → Shared → Prop} (hu : A.units + 1 < cLine) (I : Inv X pins σ H s) (g : DPut H a y v H') (ry : RelV y u) (rv : RelV v r) (h : ∀ s', Inv X pins σ H' s' → Q () s') :
    wpAny (model X.prog X.w) A (setItem (.ref a) u r) Q E s := by
  rcases g with ⟨kvs, k, e, ey, l, eH⟩ | ⟨kvs, k, b, e, ey, eb, l, eH⟩
  · subst ey eH
    obtain ⟨z, hd, vs, rel, dd⟩ := dk_of I.hok e
    have hz : vs.length ≤ sizeLine := by rw [← rel.length]; exact z
    have hl : (putK kvs k v).length ≤ sizeLine := by have := length_putK kvs k v; omega
    refine wpAny_setItem_pairs (hsz := hz) (kV_is ry) dd fun h' dd' hs => h _ ?_
    have he : ∃ q, h'.get? a = some q := let ⟨q, _, _, hq, _⟩ := dd'; ⟨q, hq⟩
    exact d_write I (by rw [e]; exact True.intro) hs he (dk_new hl hd (rel.put k rv) dd')
  · subst ey eH
    cases (show u = Value.ref b from ry)
    obtain ⟨z, hd, xs, rel, dd⟩ := dt_of I.hok e
    have hz : xs.length ≤ sizeLine := by rw [← Paired.length rel]; exact z
    have hl : (putK kvs k v).length ≤ sizeLine := by have := length_putK kvs k v; omega
    refine wpAny_setItem_heap (hsz := hz) (tupleKind_room_in1 hu) (key_of I.hok eb) dd fun h' dd' hs => h _ ?_
    obtain ⟨q, es, ep, hq, h2, h3, h4, _, h5⟩ := dd'
    refine d_write I (by rw [e]; exact True.intro) hs ⟨q, hq⟩ ⟨hl, hd, _, (rel.put k eb rv).keeps fun c ys ec => ?_, q, es, ep, hq, h2, h3, h4, h5⟩
    rw [upd_ne (ne_of ec e (fun z => nomatch z))]
    exact ec
end

section
variable {X : Cx} {pins : List (Addr × Obj)} {σ : St} {H : Hp} {s : Shared} {a : Addr} {kvs : List (Key × V)} {k : Key} {u : Value} {A : Around} {E : Value → Shared → Prop}
end


noncomputable def NoSl (i : Expr) : Prop := ∀ ov iv, subscripted i false ov iv = operate [ov, iv] (getItem ov iv)
theorem subD_of {prog : Program} {w : World} {A : Around} {E : Value → Shared → Prop} {s : Shared} {env : Env} {value slice : Expr} {pos : Pos} {T id : String} {Q : Value → Shared → Prop}
    (hl : typeLookup (.type T) "__getitem__" = pure (some (.builtin id))) (hs : NoSl slice)
    (h : wpAny (model prog w) A (eval value env) (fun o s₁ => wpAny (model prog w) A (eval slice env) (fun i s₂ => s₂.TypeIs o T ∧ wpAny (model prog w) A (getItem o i) Q E s₂) E s₁) E s) :
    wpAny (model prog w) A (eval (.Subscript value slice pos) env) Q E s := by
  refine Subscript_ (wpAny_mono h (fun o s₁ h₁ => wpAny_mono h₁ (fun i s₂ h₂ => ?_) fun _ _ x => x) fun _ _ x => x)
  obtain ⟨hT, h₂⟩ := h₂
  unfold subscriptTail
  refine wpAny_bind ?_
  rw [getitemInPython_of_ne hT.not_modules]
  refine wpAny_bind (wpAny_specialOf hT hl ?_)
  have fin : wpAny (model prog w) A (subscripted slice false o i) (fun r s₃ => wpAny (model prog w) A (letTemporaryGo value o r >>= fun _ => pure r) Q E s₃) E s₂ := by
    rw [hs o i]
    exact wpAny_operating (wpAny_mono h₂ (fun r s₃ h₃ => wpAny_bind (wpAny_letTemporaryGo (wpAny_pure h₃))) fun _ _ x => x)
  first
    | exact wpAny_pure (wpAny_bind fin)
    | exact wpAny_bind (wpAny_pure (wpAny_bind fin))
    | exact wpAny_bind fin

theorem dict_typeIs {X : Cx} {pins : List (Addr × Obj)} {σ : St} {H : Hp} {s : Shared} {a : Addr} {y : V} {o : Option V} (I : Inv X pins σ H s) (g : DGet H a y o) : s.TypeIs (.ref a) "dict" := by
  rcases g with ⟨kvs, k, e, _, _⟩ | ⟨kvs, k, b, e, _, _, _⟩
  · obtain ⟨_, _, vs, _, dd⟩ := dk_rd I.hok e
    exact dd.typeIs
  · obtain ⟨_, _, xs, _, dd⟩ := dt_rd I.hok e
    exact dd.typeIs
noncomputable def tDGet (td ty : TE) : TE := fun σ H Q => td σ H fun x H1 => ty σ H1 fun y H2 => ∃ a v, x = .ref a ∧ DGet H2 a y (some v) ∧ Q v H2
noncomputable def sDPut (td ty tv : TE) : TS := fun D σ H => tv σ H fun v H1 => td σ H1 fun x H2 => ty σ H2 fun y H3 => ∃ a H4, x = .ref a ∧ DPut H3 a y v H4 ∧ D.nx σ H4
section
variable {X : Cx} {o i e value : Expr} {pos pos' tpos : Pos} {td ty tv : TE}
theorem pe_dget (hu : X.A.units + 1 < cLine) (ho : PE X o td) (hi : PE X i ty) (hs : NoSl i) : PE X (.Subscript o i pos) (tDGet td ty) := by
  intro pins s σ H Q I h
  refine subD_of PySem.F.slot_dict_getitem.lookup hs (thn (ho pins s σ H _ I h) fun u s1 ⟨x, H1, I1, rx, q1⟩ => thn (hi pins s1 σ H1 _ I1 q1) fun iv s2 x__50 => ?_)
  obtain ⟨y, H2, I2, ry, a, v, ex, g, q2⟩ := x__50
  subst ex
  obtain rfl : u = Value.ref a := rx
  exact ⟨dict_typeIs I2 g, d_getItem hu I2 g ry fun w' s3 I3 rw' => ⟨v, H2, I3, rw', q2⟩⟩
theorem ps_dput (hu : X.A.units + 1 < cLine) (ho : PE X o td) (hi : PE X i ty) (hv : PE X value tv) (hs : swapsWith value (some (.Subscript o i pos')) pos.line X.env = pure false) :
    PS X (.Assign [.Subscript o i pos'] value pos) (sDPut td ty tv) := by
  intro pins s σ H D I h
  refine wpAny_Assign_Subscript (thn (hv pins s σ H _ I h) fun r s1 ⟨v, H1, I1, rv, q1⟩ => thn (ho pins s1 σ H1 _ I1 q1) fun u s2 ⟨x, H2, I2, rx, q2⟩ => thn (hi pins s2 σ H2 _ I2 q2) fun iv s3 x__53 => ?_) hs
  obtain ⟨y, H3, I3, ry, a, H4, ex, g, q3⟩ := x__53
  subst ex
  obtain rfl : u = Value.ref a := rx
  exact d_setItem hu I3 g ry rv fun s4 I4 => ⟨σ, H4, I4, q3⟩
end


theorem dk_empty {P : Program} {w : World} {H : Hp} (h : Heap) (hb : sysModules < h.objs.size) : ObjOk P w H (h.push { cls := .type "dict", data := .dict #[] }) h.objs.size (.dK []) :=
  ⟨Nat.zero_le _, beq_eq_false_iff_ne.mpr (Ne.symm (Nat.ne_of_lt hb)), [], .nil, Heap.DictOf.new h⟩
section
variable {X : Cx} {pos : Pos}
end

noncomputable def tPairs : List (TE × TE) → St → Hp → (List (V × V) → Hp → Prop) → Prop
  | [], _, H, Q => Q [] H
  | (tk, tv) :: r, σ, H, Q => tk σ H fun x H1 => tv σ H1 fun y H2 => tPairs r σ H2 fun ps H3 => Q ((x, y) :: ps) H3
noncomputable abbrev VV : List (V × V) → List (Value × Value) → Prop := Paired fun p q => RelV p.1 q.1 ∧ RelV p.2 q.2
noncomputable def PPs (X : Cx) (pos : Pos) (keys : List (Option Expr)) (values : List Expr) (trs : List (TE × TE)) : Prop :=
  ∀ (pins : List (Addr × Obj)) (s : Shared) (σ : St) (H : Hp) (Q : List (V × V) → Hp → Prop), Inv X pins σ H s → tPairs trs σ H Q →
    wpAny (model X.prog X.w) X.A (evalPairs (pairTrees keys values X.env pos)) (fun vs s' => ∃ ps H', Inv X pins σ H' s' ∧ VV ps vs ∧ Q ps H') X.xe s
theorem pps_nil {X : Cx} {pos : Pos} : PPs X pos [] [] [] := fun pins s σ H Q I h => pairTrees_nil_walk ⟨[], H, I, .nil, h⟩
theorem pps_cons {X : Cx} {pos : Pos} {k v : Expr} {ks : List (Option Expr)} {vs : List Expr} {tk tv : TE} {trs : List (TE × TE)} (hk : PE X k tk) (hv : PE X v tv) (hr : PPs X pos ks vs trs) :
    PPs X pos (some k :: ks) (v :: vs) ((tk, tv) :: trs) := fun pins s σ H Q I h =>
  pairTrees_cons_walk (thn (hk pins s σ H _ I h) fun u s1 ⟨x, H1, I1, rx, q1⟩ => thn (hv pins s1 σ H1 _ I1 q1) fun w2 s2 ⟨y, H2, I2, ry, q2⟩ =>
    thn (hr pins s2 σ H2 _ I2 q2) fun ws s3 x__56 => (by obtain ⟨ps, H3, I3, rel, q3⟩ := x__56; exact ⟨(x, y) :: ps, H3, I3, .cons ⟨rx, ry⟩ rel, q3⟩))

noncomputable def mergeK (kvs more : List (Key × V)) : List (Key × V) := more.foldl (fun acc kv => putK acc kv.1 kv.2) kvs
theorem KV.merge : ∀ {more : List (Key × V)} {rs : List (Key × Value)} {kvs : List (Key × V)} {vs : List (Key × Value)}, KV more rs → KV kvs vs → KV (mergeK kvs more) (merged vs rs) := by
  intro more rs kvs vs r
  unfold KV at r
  induction r generalizing kvs vs with
  | nil => intro q; exact q
  | @cons p q ps qs h t ih =>
    intro r0
    have e : KV (putK kvs p.1 p.2) (stored vs q.1 q.2) := by
      have := r0.put p.1 h.2
      rw [← h.1]; exact this
    exact ih e
theorem length_mergeK : ∀ (more kvs : List (Key × V)), (mergeK kvs more).length ≤ kvs.length + more.length
  | [], kvs => by show kvs.length ≤ kvs.length + 0; omega
  | p :: r, kvs => by
    have h1 := length_mergeK r (putK kvs p.1 p.2)
    have h2 := length_putK kvs p.1 p.2
    show (mergeK (putK kvs p.1 p.2) r).length ≤ _
    rw [List.length_cons]; omega
theorem carries_of {P : Program} {w : World} : ∀ {kvs : List (Key × V)} {ws : List (Value × Value)}, VV (kvs.map fun kv => (kV kv.1, kv.2)) ws → ∃ rs, Carries (mixKind P w) ws rs ∧ KV kvs rs
  | [], _, r => by rw [List.map_nil] at r; cases r; exact ⟨[], True.intro, .nil⟩
  | p :: kvs, _, r => by
    rw [List.map_cons] at r
    cases r with
    | @cons a b as bs h t =>
      obtain ⟨rs, c, q⟩ := carries_of (P := P) (w := w) t
      obtain ⟨b1, b2⟩ := b
      exact ⟨(p.1, b2) :: rs, ⟨kV_is h.1, rfl, c⟩, .cons ⟨rfl, h.2⟩ q⟩
noncomputable def tDisp (trs : List (TE × TE)) : TE := fun σ H Q => ∀ p, H p = none → tPairs trs σ (upd H p (.dK [])) fun ps H2 => H2 p = some (.dK []) ∧ ∃ kvs : List (Key × V), ps = kvs.map (fun kv => (kV kv.1, kv.2)) ∧ kvs.length ≤ 15 ∧ Q (.ref p) (upd H2 p (.dK (mergeK [] kvs)))
theorem pe_disp {X : Cx} {pos : Pos} {keys : List (Option Expr)} {values : List Expr} {trs : List (TE × TE)} (h : PPs X pos keys values trs) (hall : keys.all (·.isSome) = true) (hl : keys.length = values.length) (h0 : keys ≠ [])
    (h15 : keys.length ≤ 15) : PE X (.Dict keys values pos) (tDisp trs) := by
  intro pins s σ H Q I q
  have hn := I.hok.fresh (Nat.le_refl s.heap.objs.size)
  have I1 := I.laid (a := s.heap.objs.size) (o := .dK []) (h' := s.heap.push { cls := .type "dict", data := .dict #[] }) (t' := s.toks) (fun _ _ q => Heap.get?_push_of_some _ q) (Nat.le_refl _) (dk_empty s.heap I.big)
  refine wpAny_Dict_walk (knd := mixKind X.prog X.w) hall hl h0 h15 (thn (h pins _ σ _ _ I1 (q _ hn)) fun ws s2 x__57 => ?_)
  obtain ⟨ps, H2, I2, rel, e, kvs, ep, lk, q2⟩ := x__57
  subst ep
  obtain ⟨rs, c, rk⟩ := carries_of (P := X.prog) (w := X.w) rel
  obtain ⟨z, hd, vs0, r0, dd⟩ := dk_of I2.hok e
  cases r0
  refine ⟨rs, c, dd, fun h' dd' hs => ⟨.ref s.heap.objs.size, _, ?_, rfl, q2⟩⟩
  have hz : (mergeK [] kvs).length ≤ sizeLine := by
    have h1 := length_mergeK kvs []
    rw [List.length_nil] at h1
    rw [sizeLine_eq]; omega
  have he : ∃ q, h'.get? s.heap.objs.size = some q := let ⟨q, _, _, hq, _⟩ := dd'; ⟨q, hq⟩
  exact d_write I2 (by rw [e]; exact True.intro) hs he (dk_new hz hd (rk.merge .nil) dd')


structure M1 (X : Cx) (o : Expr) (m : Str) (apos : Pos) (e : Expr) (cpos : Pos) : Prop where
  base : attributeBase o m X.env (eval o X.env) = eval o X.env
  few : ((backTo cpos (starEach [e] X.env)).all (fun x => !x.1) && (backToKw cpos (keywordEach [] X.env)).all (fun x => x.1.isSome)
    && decide (([e] : List Expr).length + ([] : List Keyword).length + (if ([] : List Keyword).isEmpty then 0 else 1) < 30)) = true
  line : (apos.endLine == cpos.line) = true
  trees : backTo cpos (starEach [e] X.env) = [(false, eval e X.env)]
structure M2 (X : Cx) (o : Expr) (m : Str) (apos : Pos) (e f : Expr) (cpos : Pos) : Prop where
  base : attributeBase o m X.env (eval o X.env) = eval o X.env
  few : ((backTo cpos (starEach [e, f] X.env)).all (fun x => !x.1) && (backToKw cpos (keywordEach [] X.env)).all (fun x => x.1.isSome)
    && decide (([e, f] : List Expr).length + ([] : List Keyword).length + (if ([] : List Keyword).isEmpty then 0 else 1) < 30)) = true
  line : (apos.endLine == cpos.line) = true
  trees : backTo cpos (starEach [e, f] X.env) = [(false, eval e X.env), (false, eval f X.env)]

section
variable {X : Cx} {pins : List (Addr × Obj)} {σ : St} {H : Hp} {s : Shared} {a : Addr} {y d : V} {u r : Value} {o : Option V} {A : Around} {E : Value → Shared → Prop}
end

section
variable {X : Cx} {o e f : Expr} {apos cpos : Pos} {td ty tx : TE}
end

section
variable {X : Cx} {pins : List (Addr × Obj)} {σ : St} {H : Hp} {s : Shared} {a : Addr} {kvs : List (Key × V)} {A : Around} {E : Value → Shared → Prop}
end


section
variable {X : Cx} {pins : List (Addr × Obj)} {σ : St} {H : Hp} {s : Shared} {a : Addr} {y : V} {u : Value} {A : Around} {E : Value → Shared → Prop}
end
end L2

namespace Att
open PySem PySem.W PySem.Calls PyProof.Rows

theorem ints_of_wellAll {P : Params} {h : Heap} : ∀ (ns : List Int) (vs : List Value), WellAll P h vs (ns.map WData.int) → IntsAre vs ns := by
  intro ns
  induction ns with
  | nil =>
    intro vs w
    rw [List.map_nil] at w
    cases w
    exact .nil
  | cons n ns ih =>
    intro vs w
    rw [List.map_cons] at w
    cases w with
    | cons a b =>
      cases a
      exact .cons _ _ (ih _ b)

theorem script_of {l : OpenLaw} {n : Nat} (hn : l.most = some n) {P : Params} {h : Heap} {args : List WData} {vals : List Value}
    (hpre : l.row.toRowW.claim.pre args = true) (hwl : WellAll P h vals args) :
    ∃ a vs ns, vals = [Value.ref a] ∧ args = [WData.list (ns.map WData.int)] ∧ h.get? a = some { cls := .type "list", data := .seq vs.toArray } ∧ IntsAre vs ns ∧ ns.length ≤ n := by
  have hsh : WShape.hasAll [] args [.list .int] = true := (pre_splitW hpre).1
  have hc : l.pre.holds [] { args := args } = true := (pre_splitW hpre).2
  obtain ⟨d, r, rfl, h1, h2⟩ := hasAllW_cons hsh
  obtain rfl := hasAllW_nil h2
  obtain ⟨xs, rfl, h3⟩ := hasW_list h1
  obtain ⟨ns, rfl⟩ := items_int h3
  have hlen : ns.length ≤ n := by
    unfold OpenLaw.pre at hc
    have h4 : (WTm.not (.lt (.lit (.int (n : Int))) (.len (.arg 0)))).holds [] { args := [.list (ns.map .int)] } = true := by
      have h4 := (holds_andW hc).1
      rw [hn] at h4
      exact h4
    have h5 := condW_of h4 (w_not (w_lt w_lit (w_len_list (w_arg rfl))))
    rw [List.length_map] at h5
    refine Nat.le_of_not_lt fun q => ?_
    have q' : (n : Int) < ((ns.length : Nat) : Int) := by omega
    first
      | (rw [decide_eq_true q'] at h5; exact absurd h5 (by decide))
      | (simp at h5; omega)
  cases hwl with
  | cons w1 w2 =>
    cases w2
    cases w1 with
    | list ho hall => exact ⟨_, _, ns, rfl, rfl, ho, ints_of_wellAll ns _ hall, hlen⟩

theorem post_true (l : OpenLaw) (args : List WData) : l.row.toRowW.claim.post args (.bool true) args = true :=
  postW_of (r := l.row.toRowW) (X := (true == true))
    (show WShape.has [] (.bool true) .bool = true by first | rfl | decide | simp [WShape.has, WShape.arms, WShape.armsAll])
    (show (WTm.eq .res (.lit (.bool true))).value [] { args := args, res := some (.bool true), after := args } = some (.bool (true == true)) from w_eq_bool (w_res rfl) w_lit) rfl

theorem attach_call {l : OpenLaw} {n : Nat} {q : Program} {loose : List Str} {XP : (Str → Option Value) → Heap → Prop} {YP : World → Heap → Prop} {d : DefRec}
    (hn : l.most = some n) (hdf : d.params.defaults = [])
    (call : ∀ (w : World) (s₀ s₁ : Shared) (mg mb : Str → Option Value) (fa : Addr) (o : Obj) (pm cd doc : Value) (a : Addr) (vs : List Value) (ns : List Int),
      Ground q loose [] XP w s₀ mg mb s₁.heap → YP w s₁.heap →
      s₁.heap.get? fa = some o → o.data = .func (docDef d.name d.params d.body d.scope pm cd doc) → s₁.heap.CodeRec cd d.name → mg d.name = some (.ref fa) →
      s₁.heap.get? a = some { cls := .type "list", data := .seq vs.toArray } → IntsAre vs ns → ns.length ≤ n → s₁.gens = #[] →
      codeAny (model l.prog w) callerA (.call (.ref fa) ⟨[.ref a], []⟩) (fun r s' => r = .ok (.ret (.bool true)) ∧ OldK s₁.heap s'.heap ∧ s'.os = s₁.os ∧ AllBare s'.gens) s₁) :
    WalkO q loose XP YP l.row.toRowW d [] (fun f vs => PySem.call f vs) := by
  intro w s₀ s₁ mg mb G Y fa o pm cd doc dV kV ho hd hcd hD hmg hg args vals as hpre hlay hrd hwl hlo
  obtain rfl : dV = .none := Dflts.none hD hdf
  obtain rfl : kV = .none := Dflts.noKw hD
  obtain ⟨a, vs, ns, rfl, rfl, hobj, hints, hlen⟩ := script_of hn hpre hwl
  refine enter_call (codeAny_mono (call w s₀ s₁ mg mb fa o pm cd doc a vs ns G Y ho (fd_plain hd) hcd hmg hobj hints hlen hg) fun r s' hq => ?_)
  obtain ⟨rfl, h2, h3, h4⟩ := hq
  exact ⟨.inl ⟨.bool true, .bool true, [], rfl, fun _ => rfl, .bool true, post_true l _, fun _ => ⟨List.Pairwise.nil, fun _ hm => (nomatch hm)⟩⟩, h2, h3, h4⟩

section
variable {prog : Program} {w : World} {A : Around} {E : Value → Shared → Prop} {s : Shared} {K : Frag}

noncomputable def ledger (h : Heap) (L d : Addr) : List (Addr × Obj) := (List.range h.objs.size).filterMap fun a => if a = L ∨ a = d then none else (h.get? a).map fun o => (a, o)
end
end Att

namespace L2
open PySem PySem.Spec PyProof.Rows

theorem vals_ints {vs : List Value} {ns : List Int} (h : IntsAre vs ns) : Vals (ns.map V.int) vs := by
  induction h with
  | nil => exact .nil
  | cons n t h ih => exact .cons ⟨t, rfl⟩ ih

noncomputable def Only (H : Hp) : Prop := ∀ b, H b = none ∨ ∃ o xs, H b = some (.frz o (.lst xs))

theorem law_call {P : Program} {w : World} {K : PySem.W.Frag} {mg mb : Str → Option Value} {CX : CXT} {k : Nat} {fa a : Addr} {fd : FuncData} {x : Str} {sp : Sp} {s₁ : Shared} {vs : List Value} {ns : List Int}
    (KX : K.In s₁.heap) (hns : s₁.heap.Ns mainGlobals mg) (hb : s₁.heap.Ns builtinsNs mb) (hbb : ∀ x : Str, x ≠ "__name__" → mb x = bootBuiltins x) (hlim : s₁.heap.NoLimit) (hg : s₁.gens = #[])
    (ha : s₁.heap.get? a = some { cls := .type "list", data := .seq vs.toArray }) (hi : IntsAre vs ns) (hl : ns.length ≤ sizeLine) (hr : Room k callerA)
    (F : ∀ base : Heap, K.In base → base.Ns mainGlobals mg → FnOk P w K mg base CX k fa fd [x] sp) (hbind : ∀ (s : Shared) (u : Value), BindsTo s fd ⟨[u], []⟩ [(x, u)])
    (hsp : ∀ H : Hp, Only H → SqL K H a (ns.map V.int) → sp [.ref a] H (fun v _ => v = .bl true) fun _ _ _ => False)
    (hCX : ∀ H e s', CX [] H s₁ (fun _ _ _ => False) e s' → False) :
    codeAny (model P w) callerA (.call (.ref fa) ⟨[.ref a], []⟩) (fun r s' => r = .ok (.ret (.bool true)) ∧ OldK s₁.heap s'.heap ∧ s'.os = s₁.os ∧ AllBare s'.gens) s₁ := by
  have rv := vals_ints hi
  have lenV := hi.length
  -- from an abstract heap in which nothing but the script may be tracked
  have core : ∀ H : Hp, Only H → SqL K H a (ns.map V.int) → HOk P w H s₁.heap → (∀ b, H b ≠ none → b = a) → (H a ≠ none → K.lookup a = none) →
      codeAny (model P w) callerA (.call (.ref fa) ⟨[.ref a], []⟩) (fun r s' => r = .ok (.ret (.bool true)) ∧ OldK s₁.heap s'.heap ∧ s'.os = s₁.os ∧ AllBare s'.gens) s₁ := by
    intro H hO hS hok hA hK
    have base_of : ∀ {b : Addr} {o : Obj}, s₁.heap.get? b = some o → H b = none → (hidT s₁.heap H).get? b = some o := fun e n => hidT_get e n
    have noA : ∀ {b : Addr} {o : Obj} {es : Array DictEntry} {ep : Nat}, s₁.heap.get? b = some o → o.data = .dict es ep → H b = none := fun {b o es ep} e d => by
      cases q : H b with
      | none => rfl
      | some u =>
        have e' : b = a := hA b (by rw [q]; simp)
        subst e'
        rw [ha] at e; cases e
        have d' : Data.seq vs.toArray _ = Data.dict es ep := d
        cases d'
    have nsK : ∀ {b : Addr} {m : Str → Option Value}, s₁.heap.Ns b m → (hidT s₁.heap H).Ns b m := fun {b m} x__58 => (by obtain ⟨o, es, ep, e, d, r⟩ := x__58; exact ⟨o, es, ep, base_of e (noA e d), d, r⟩)
    have hKb : K.In (hidT s₁.heap H) := fun b o e => base_of (KX b o e) (by
      cases q : H b with
      | none => rfl
      | some u =>
        have e' : b = a := hA b (by rw [q]; simp)
        subst e'
        rw [hK (by rw [q]; simp)] at e; cases e)
    have hM : Mod K mg (hidT s₁.heap H) := ⟨hKb, nsK hns, ⟨mb, nsK hb, hbb⟩, let ⟨mc, h1, h2⟩ := hlim; ⟨mc, nsK h1, h2⟩⟩
    have e0 : Env0 P w K mg (hidT s₁.heap H) callerA [] s₁ H := ⟨rfl, hM, fun b o e => of_hidT e, Nat.le_of_eq (hidT_size _ _), trivial, fun b hb => absurd (show b ∈ ([] : List Addr) from hb) (by simp), hok, .of_eq hg⟩
    refine codeAny_mono ((F _ hKb (nsK hns)).run callerA [] s₁ H ⟨[.ref a], []⟩ [.ref a] [.ref a] _ _ hr e0 (hbind s₁ (.ref a)) (.cons rfl .nil) (hsp H hO hS)) fun r s' h => ?_
    cases r with
    | error e => exact (hCX H e s' h).elim
    | ok fl =>
      cases fl with
      | next => exact False.elim h
      | brk => exact False.elim h
      | cont => exact False.elim h
      | ret u =>
        obtain ⟨v, H', os, bare, un, hok', r', q⟩ := h
        have q' : v = .bl true := q
        subst q'
        obtain rfl : u = Value.bool true := r'
        refine ⟨rfl, OldK.of_keep fun b o e => ?_, os, bare⟩
        cases q : H b with
        | none => exact un.keep b o e q (by intro z; exact absurd (show b ∈ ([] : List Addr) from z) (by simp)) (by simp)
        | some u =>
          rcases hO b with z | ⟨ob, xs, z⟩
          · rw [q] at z; cases z
          · have z2 := un.frzs b ob _ z
            obtain ⟨e1, _⟩ := hok b _ z
            obtain ⟨e2, _⟩ := hok' b _ z2
            rw [e] at e1; cases e1
            exact e2
  cases hk : K.lookup a with
  | some o =>
    -- the script is one of the module's own objects
    have e := KX a o hk
    rw [ha] at e
    cases e
    refine core (fun _ => none) (fun _ => .inl rfl) (.inr ⟨_, vs.toArray, _, hk, rfl, rfl, rfl, by rw [List.size_toArray, lenV]; exact hl, by simpa using rv⟩) (fun b u z => by have z' : (none : Option HO) = some u := z; cases z') (fun b z => absurd rfl z) fun z => absurd rfl z
  | none =>
    refine core (fun b => if b = a then some (.frz { cls := .type "list", data := .seq vs.toArray } (.lst (ns.map V.int))) else none) (fun b => ?_) (.inl (.inr ⟨{ cls := .type "list", data := .seq vs.toArray }, if_pos rfl⟩)) (fun b u z => ?_) (fun b z => ?_) fun _ => hk
    · by_cases hb : b = a
      · exact .inr ⟨_, _, if_pos hb⟩
      · exact .inl (if_neg hb)
    · by_cases hb : b = a
      · have z' := (if_pos hb).symm.trans z
        cases z'
        subst hb
        exact ⟨ha, by rw [List.length_map]; exact hl, vs, _, rv, ha⟩
      · have z' := (if_neg hb).symm.trans z
        cases z'
    · by_cases hb : b = a
      · exact hb
      · exact absurd (if_neg hb) z
end L2

namespace L2
open PySem PySem.Spec PyProof.Rows

noncomputable abbrev KOf {K : PySem.W.Frag} {h : Heap} (_ : K.In h) : PySem.W.Frag := K

theorem walk_of {l : PySem.W.OpenLaw} {n k : Nat} {q : Program} {loose : List Str} {XP : (Str → Option Value) → Heap → Prop} {YP : World → Heap → Prop} {d : DefRec} {K : Params → PySem.W.Frag} {CX : World → CXT} {sp : World → Sp} {x : Str}
    (hn : l.most = some n) (hn2 : n ≤ sizeLine) (hdf : d.params.defaults = []) (hr : Room k callerA)
    (hY : ∀ (w : World) (h : Heap), YP w h → (K w.params).In h)
    (F : ∀ (w : World) (mg : Str → Option Value) (fa : Addr) (h : Heap), (K w.params).In h → h.Ns mainGlobals mg → mg d.name = some (.ref fa) →
      ∃ fd : FuncData, (∀ (s : Shared) (u : Value), BindsTo s fd ⟨[u], []⟩ [(x, u)]) ∧
        ∀ base : Heap, (K w.params).In base → base.Ns mainGlobals mg → FnOk l.prog w (K w.params) mg base (CX w) k fa fd [x] (sp w))
    (hsp : ∀ (w : World) (H : Hp) (a : Addr) (ns : List Int), ns.length ≤ n → Only H → SqL (K w.params) H a (ns.map V.int) → sp w [.ref a] H (fun v _ => v = .bl true) fun _ _ _ => False)
    (hCX : ∀ (w : World) (H : Hp) (s : Shared) (e : Value) (s' : Shared), CX w [] H s (fun _ _ _ => False) e s' → False) :
    PySem.W.WalkO q loose XP YP l.row.toRowW d [] (fun f vs => PySem.call f vs) := by
  refine Att.attach_call hn hdf fun w s₀ s₁ mg mb fa o pm cd doc a vs ns G Y ho hd hcd hmg hobj hints hlen hg => ?_
  have KX := hY w _ Y
  obtain ⟨fd, hb, hF⟩ := F w mg fa _ KX G.T.g hmg
  exact law_call KX G.T.g G.T.b G.T.builtins G.T.nolimit hg hobj hints (Nat.le_trans hlen hn2) hr hF hb (fun H hO hS => hsp w H a ns hlen hO hS) fun H e s' => hCX w H s₁ e s'
theorem walk_ofK {l : PySem.W.OpenLaw} {n k : Nat} {q : Program} {loose : List Str} {XP : (Str → Option Value) → Heap → Prop} {YP : World → Heap → Prop} {d : DefRec} {K : Params → PySem.W.Frag} {CX : CXT} {sp : PySem.W.Frag → Sp} {x : Str}
    (hn : l.most = some n) (hn2 : n ≤ sizeLine) (hdf : d.params.defaults = []) (hr : Room k callerA)
    (hY : ∀ (w : World) (h : Heap), YP w h → (K w.params).In h)
    (F : ∀ (w : World) (mg : Str → Option Value) (fa : Addr) (h : Heap), (K w.params).In h → h.Ns mainGlobals mg → mg d.name = some (.ref fa) →
      ∃ fd : FuncData, (∀ (s : Shared) (u : Value), BindsTo s fd ⟨[u], []⟩ [(x, u)]) ∧
        ∀ base : Heap, (K w.params).In base → base.Ns mainGlobals mg → FnOk l.prog w (K w.params) mg base CX k fa fd [x] (sp (K w.params)))
    (hsp : ∀ (K : PySem.W.Frag) (H : Hp) (a : Addr) (ns : List Int), ns.length ≤ n → Only H → SqL K H a (ns.map V.int) → sp K [.ref a] H (fun v _ => v = .bl true) fun _ _ _ => False)
    (hCX : ∀ (H : Hp) (s : Shared) (e : Value) (s' : Shared), CX [] H s (fun _ _ _ => False) e s' → False) :
    PySem.W.WalkO q loose XP YP l.row.toRowW d [] (fun f vs => PySem.call f vs) :=
  walk_of (K := K) (CX := fun _ => CX) (sp := fun w => sp (K w.params)) hn hn2 hdf hr hY F (fun w H a ns h1 h2 h3 => hsp (K w.params) H a ns h1 h2 h3) fun _ H s e s' => hCX H s e s'
end L2

/- THE LAST THEOREM (shape; LID, My.* are yours):
   My.Adr: a structure of the addresses that your layer names (classes, functions); My.Txt K t: a structure (Prop) of the equations over K;
   My.txt_mk : {K} {implicit addresses ..} (e1 : nsIn K mainGlobals "law" = some (some (.ref f))) (e2 : K.lookup f = some ⟨oc, od, .func (fnOf "law" "law" params body scope dV kV doc pm an cdv ct), sl⟩) (e3 : codeIn K cdv "law" = true) .. : ∃ t, My.Txt K t

set_option maxRecDepth 100000 in
set_option maxHeartbeats 0 in
theorem PySem.Challenge.cw_LID_holds : PySem.Challenge.rw_LID.Holds := by
  w_on; o_law; k_head; (case hw => w_witness2)
  k_fill
  refine L2.walk_of (l := PySem.Challenge.rw_LID) (n := 63) (k := 40) (x := "script") (CX := fun w => ..) (sp := fun _ => My.sp_law) rfl (by decide) rfl ⟨rfl, by decide, by decide⟩ (fun w h Y => PySem.W.kIn_of Y) ?F ?S ?C
  case F =>
    intro w mg fa h KX G hmg
    have T : ∃ t, My.Txt (L2.KOf KX) t := by
      dsimp only [L2.KOf]                          -- K must stand as «<heap const> w.params» for k_is
      refine' My.txt_mk ?e1 ?e2 ?e3 ..
      (case e1 => PySem.W.k_is)                    -- in the order: a name -> its address -> its object -> its parts
      (case e2 => PySem.W.k_is)
      ..
    obtain ⟨t, T⟩ := T
    have e0 := hmg.symm.trans (PySem.W.mg_of KX G T.law)
    cases e0                                       -- fa is the law's own address
    exact ⟨_, fun s u => .of_eq rfl, fun base kb nb => My.law_fn T kb nb⟩     -- if «.of_eq rfl» comes too early: refine' ⟨_, ?b, fun base kb nb => My.law_fn T kb nb⟩; exact fun s u => .of_eq rfl
  case S => exact fun w H a ns hl hO hS => ..
  case C => exact ..
(the tactic k_is has no namespace: write k_is) -/

namespace L2
open PySem PySem.Spec PyProof.Rows

noncomputable def defArgs (s : Stmt) : Arguments := match s with
  | .FunctionDef _ a _ _ _ _ _ _ _ _ => a
  | _ => { posonlyargs := [], args := [], vararg := none, kwonlyargs := [], kw_defaults := [], kwarg := none, defaults := [] }
noncomputable def defBody (s : Stmt) : List Stmt := match s with
  | .FunctionDef _ _ b _ _ _ _ _ _ _ => b
  | _ => []
noncomputable def defScope (s : Stmt) : Scope := match s with
  | .FunctionDef _ _ _ _ _ _ sc _ _ _ => sc
  | _ => { kind := .function, names := [], isGenerator := false, isCoroutine := false }

noncomputable abbrev CX0 : CXT := fun _ _ _ _ _ _ => False
noncomputable abbrev E0 : XK := fun _ _ _ => False
theorem pass0 {X : Cx} : Passes CX0 X E0 := fun _ _ _ _ _ _ _ h => h.elim

structure Fun (K : PySem.W.Frag) (x qual : Str) (st : Stmt) (f : Addr) (fd : FuncData) : Prop where
  ex : ∃ (oc : Value) (od : Option Addr) (kV doc pm : Value) (an : Option Addr) (cdv ct : Value) (osl : Array (Option Value)),
    fd = PySem.W.fnOf x qual (defArgs st) (defBody st) (defScope st) .none kV doc pm an cdv ct ∧ K.lookup f = some ⟨oc, od, .func fd, osl⟩ ∧ PySem.W.codeIn K cdv qual = true
  kp : PySem.W.keepIn K (.ref f) = true
section
variable {P : Program} {w : World} {K : PySem.W.Frag} {mg : Str → Option Value} {base : Heap}
theorem Fun.ok {x qual : Str} {st : Stmt} {f : Addr} {fd : FuncData} {N ps : List Str} {k : Nat} {sp : Sp} (F : Fun K x qual st f fd) (S : FnScope N ps (defScope st)) (len : ∀ vs H Q E, sp vs H Q E → vs.length = ps.length)
    (hbody : ∀ (cdv : Value) (A : Around) (outer : List Env) (s : Shared) (H : Hp) (vs : List V) (Q : VK) (E : XK), Room k (A.deeper (envOfC qual (defScope st) s.heap.objs.size f cdv)) → sp vs H Q E →
      ∃ t, PSs (cxOf CX0 P w K mg base N qual (defScope st) f cdv A outer s H E).nox (defBody st) t ∧ t { nx := fun _ H' => Q .non H', rt := Q } (start N vs) H) : FnOk P w K mg base CX0 (k + 1) f fd ps sp := by
  obtain ⟨oc, od, kV, doc, pm, an, cdv, ct, osl, rfl, lk, hcd⟩ := F.ex
  refine fn_of lk hcd S len fun A outer s H vs Q E hr hsp => ?_
  obtain ⟨t, h, q⟩ := hbody cdv A outer s H vs Q E hr hsp
  exact ⟨t, h.nox, q⟩
theorem Fun.binds {x qual : Str} {st : Stmt} {f : Addr} {fd : FuncData} {ps : List Str} (F : Fun K x qual st f fd)
    (h : ∀ (kV doc pm : Value) (an : Option Addr) (cdv ct : Value) (us : List Value), us.length = ps.length → bindArgs (PySem.W.fnOf x qual (defArgs st) (defBody st) (defScope st) .none kV doc pm an cdv ct) ⟨us, []⟩ = pure (ps.zip us)) : Binds K fd ps [] := by
  obtain ⟨oc, od, kV, doc, pm, an, cdv, ct, osl, rfl, lk, hcd⟩ := F.ex
  exact .all (h kV doc pm an cdv ct)
theorem fun_mk {x qual : Str} {st : Stmt} {f : Addr} {oc : Value} {od an : Option Addr} {osl : Array (Option Value)} {kV doc pm cdv ct : Value} (l : K.lookup f = some ⟨oc, od, .func (PySem.W.fnOf x qual (defArgs st) (defBody st) (defScope st) .none kV doc pm an cdv ct), osl⟩)
    (c : PySem.W.codeIn K cdv qual = true) (k : PySem.W.keepIn K (.ref f) = true) : Fun K x qual st f (PySem.W.fnOf x qual (defArgs st) (defBody st) (defScope st) .none kV doc pm an cdv ct) := ⟨⟨oc, od, kV, doc, pm, an, cdv, ct, osl, rfl, l, c⟩, k⟩
end
theorem hu_of {A : Around} {k : Nat} (hr : Room k A) : A.units + 1 < cLine := Nat.lt_of_le_of_lt (Nat.add_le_add_left (by decide : 1 ≤ 64) _) hr.units
theorem small1000 {n : Nat} (h : n ≤ 1000) : n < sizeLine := Nat.lt_of_le_of_lt h (by decide)

section
variable {X : Cx}
theorem pv (i : Nat) {x : Str} {pos : Pos} (hN : X.N[i]? = some x := by rfl) (hv : Vis X.env.scope x := by first | exact Or.inl rfl | exact Or.inr (Or.inl rfl) | exact Or.inr (Or.inr rfl)) (hd : (x == ("__debug__" : Str)) = false := by decide)
    (hcd : (x == ("__classdict__" : Str)) = false := by decide) : PE X (.Name x pos) (tVar i) := pe_var hN hv hd hcd
end

theorem iteF {A B : Prop} (h : B) : if false = true then A else B := by
  rw [if_neg Bool.false_ne_true]
  exact h
theorem iteT {A B : Prop} (h : A) : if true = true then A else B := by
  rw [if_pos rfl]
  exact h
theorem ite2 {c A B : Prop} [Decidable c] (h1 : c → A) (h2 : ¬ c → B) : if c then A else B := by
  by_cases h : c
  · rw [if_pos h]
    exact h1 h
  · rw [if_neg h]
    exact h2 h
noncomputable def Same (H H' : Hp) : Prop := ∀ b o, H b = some o → H' b = some o
theorem Same.refl (H : Hp) : Same H H := fun _ _ h => h
theorem Same.trans {H H1 H2 : Hp} (a : Same H H1) (b : Same H1 H2) : Same H H2 := fun c o h => b c o (a c o h)
theorem Same.free {H H' : Hp} (e : Same H H') {l : Addr} (h : H' l = Option.none) : H l = Option.none := by
  cases q : H l with
  | none => rfl
  | some o =>
    rw [e l o q] at h
    cases h
theorem Same.seq {K : PySem.W.Frag} {H H' : Hp} {a : Addr} {xs : List V} (e : Same H H') (h : SqL K H a xs) : SqL K H' a xs := by
  rcases h with (h | ⟨o, h⟩) | h
  · exact .inl (.inl (e _ _ h))
  · exact .inl (.inr ⟨o, e _ _ h⟩)
  · exact .inr h

end L2
namespace L2
open PySem PySem.Spec PyProof.Rows
section
variable {X : Cx}
end
section
variable {κ : Type} [DecidableEq κ]
end
end L2

namespace L2
open PySem PySem.Spec PyProof.Rows

noncomputable def compCx (X : Cx) (scope : Scope) (cl : List (Str × Addr)) (N : List Str) (C : Addr) (s : Shared) (H : Hp) (ex : List Addr) : Cx where
  prog := X.prog
  w := X.w
  K := X.K
  mg := X.mg
  base := X.base
  A := X.A
  N := N
  s₀ := s
  H₀ := H
  env := compEnvC scope cl C X.env
  outer := X.stack
  stack := X.stack
  ex := ex
  fn := fun _ => false
  calm := X.calm
  pn := []
  xe := fun _ _ => False

noncomputable def compSt (k : Nat) (fr : List Nat) (σ : St) : St := List.replicate k none ++ fr.map fun j => (σ[j]?).getD none

structure CompOk (X : Cx) (scope : Scope) (cl : List (Str × Addr)) (N : List Str) (k : Nat) (fr : List Nat) : Prop where
  kind : scope.kind = .function
  nocell : ∀ y ∈ scope.names, y.2 ≠ .cell
  names : ∀ y ∈ scope.names, y.2 = .local → scope.names.lookup y.1 = some .local
  clos : closureFor scope X.env = pure cl
  sub : ∀ x c, cl.lookup x = some c → X.env.cells.lookup x = some c
  has : ∀ x, ((relabel scope X.env).names.lookup x = some .cell ∨ (relabel scope X.env).names.lookup x = some .free) → ∃ c, cl.lookup x = some c
  len : N.length = k + fr.length
  free : ∀ (t j : Nat) (x : Str), fr[t]? = some j → N[k + t]? = some x → X.N[j]? = some x ∧ Vis X.env.scope x ∧ (∃ c, cl.lookup x = some c) ∧ ((relabel scope X.env).names.lookup x = some .cell ∨ (relabel scope X.env).names.lookup x = some .free) ∧ ¬ X.env.scope.names.lookup x = some .local

noncomputable def PIfs (Y : Cx) (ifs : List Expr) (t : TT) : Prop :=
  ∀ (pins : List (Addr × Obj)) (s : Shared) (σ : St) (H : Hp) (Q : Bool → Hp → Prop), Inv Y pins σ H s → t σ H Q →
    wpAny (model Y.prog Y.w) Y.A (forIn ifs true fun c r => if r = true then do let ok ← isTrue c Y.env (eval c Y.env); pure (ForInStep.yield ok) else pure (ForInStep.yield r)) (TP Y pins σ Q) Y.xe s
noncomputable def tTrue : TT := fun _ H Q => Q true H
theorem pifs_nil {Y : Cx} : PIfs Y [] tTrue := fun _ _ _ H _ I h => wpAny_tests_nil ⟨H, I, h⟩
noncomputable def Fwd (σ σ' : St) : Prop := σ'.length = σ.length ∧ ∀ (i : Nat) (v : V), σ[i]? = some (some v) → σ'[i]? = some (some v)
theorem Fwd.refl (σ : St) : Fwd σ σ := ⟨rfl, fun _ _ e => e⟩
theorem Fwd.set {σ σ' : St} {i : Nat} {u : Option V} (h : Fwd σ σ') (hn : ∀ v, σ[i]? ≠ some (some v)) : Fwd σ (σ'.set i u) :=
  ⟨by rw [List.length_set]; exact h.1, fun j v e => by
    have hj : i ≠ j := fun z => by subst z; exact hn v e
    rw [List.getElem?_set_ne hj]; exact h.2 j v e⟩
noncomputable def CompW (J : It) (g : TG) (tt : TT) (te : TE) (σc : St) (H1 : Hp) (F : List V → Hp → Prop) : Prop :=
  ∃ W : Nat → Nat → List V → Hp → Prop, (∃ m, W 0 m [] H1) ∧ ∀ i m ys H, W i m ys H →
    (J.stop i H ∧ F ys H) ∨
    (J.go i H ∧ ys.length < sizeLine ∧ ∀ x H', J.yld i H x H' → g x σc H' fun σ2 H2 => Fwd σc σ2 ∧ tt σ2 H2 fun b H3 =>
      if b = true then te σ2 H3 fun y H4 => ∃ m', m' < m ∧ W (i + 1) m' (ys ++ [y]) H4 else ∃ m', m' < m ∧ W (i + 1) m' ys H3)
noncomputable def tComp (k : Nat) (fr : List Nat) (wi : TI) (g : TG) (tt : TT) (te : TE) : TE := fun σ H Q => wi σ H fun J H1 => CompW J g tt te (compSt k fr σ) H1 fun ys H2 => ys.length ≤ sizeLine ∧ ∀ p, H2 p = none → Q (.ref p) (upd H2 p (.lst ys))
section
variable {X : Cx} {pins : List (Addr × Obj)} {σ : St} {H : Hp} {s : Shared}

theorem Inv.track {D : Addr} {o : HO} {t' : Nat} (I : Inv X pins σ H s) (hn : H D = none) (hL : D ≠ X.env.locals) (h1 : X.s₀.heap.objs.size ≤ D) (h2 : ∀ x c, X.env.cells.lookup x = some c → c ≠ D) (h3 : ∀ p ∈ X.pn ++ pins, p.1 ≠ D)
    (new : ObjOk X.prog X.w (upd H D o) s.heap D o) : Inv X pins σ (upd H D o) { s with toks := t' } := by
  have ne : ∀ b u, H b = some u → b ≠ D := fun b u e => ne_of_none e hn
  refine I.step (h' := s.heap) (g' := s.gens) (d' := s.drawn) (ch := [D]) (fun b hb => ?_) (fun b o _ _ _ e _ => e) (fun b o _ _ _ e _ => ⟨o.slots, e⟩) (fun b o hc _ n => ?_) (fun b o _ e => ⟨o, e⟩)
    (fun b xs e => by rw [upd_ne (ne b _ e)]; exact e) (fun b o u e => by rw [upd_ne (ne b _ e)]; exact e) (fun b ps e => ⟨#[], by rw [upd_ne (ne b _ e), e]; simp⟩) (fun m hm => hm) (fun b u e => ?_) I.bare
  · have e : b = D := by simpa using hb
    subst e
    exact ⟨.inr h1, hL, h2, h3⟩
  · rw [upd_ne (by simpa using hc)]; exact n
  · by_cases hb : b = D
    · subst hb; rw [upd_same] at e; cases e; exact new
    · rw [upd_ne hb] at e
      exact (I.hok b u e).stay (fun c v _ q => q) (fun c q => by rw [upd_ne (ne c _ q)]; exact q) fun c xs q => by rw [upd_ne (ne c _ q)]; exact q

theorem compSt_len (k : Nat) (fr : List Nat) (σ : St) : (compSt k fr σ).length = k + fr.length := by simp [compSt]
theorem compSt_own {k i : Nat} {fr : List Nat} {σ : St} (h : i < k) : (compSt k fr σ)[i]? = some none := by
  unfold compSt
  rw [List.getElem?_append_left (by simpa using h), List.getElem?_replicate, if_pos h]
theorem compSt_free {k i : Nat} {fr : List Nat} {σ : St} {v : V} (h : (compSt k fr σ)[i]? = some (some v)) : ∃ t j, i = k + t ∧ fr[t]? = some j ∧ σ[j]? = some (some v) := by
  by_cases hi : i < k
  · rw [compSt_own hi] at h; cases h
  · refine ⟨i - k, ?_⟩
    unfold compSt at h
    rw [List.getElem?_append_right (by simpa using Nat.not_lt.mp hi), List.length_replicate, List.getElem?_map] at h
    cases e : fr[i - k]? with
    | none => rw [e] at h; cases h
    | some j =>
      rw [e] at h
      refine ⟨j, by omega, rfl, ?_⟩
      cases e2 : σ[j]? with
      | none => rw [show (some j).map (fun j => (σ[j]?).getD none) = some ((σ[j]?).getD none) from rfl, e2] at h; cases h
      | some u =>
        rw [show (some j).map (fun j => (σ[j]?).getD none) = some ((σ[j]?).getD none) from rfl, e2] at h
        exact h

noncomputable def CompRR (X : Cx) (pins : List (Addr × Obj)) (σ : St) (F : List V → Hp → Prop) (RR : Value → Addr → Result → Shared → Prop) : Prop := ∀ D C ys (its : List Value) n H' m s', Inv X pins σ H' s' → H' D = none → X.s₀.heap.objs.size ≤ D → D ≠ X.env.locals → (∀ x c, X.env.cells.lookup x = some c → c ≠ D) → (∀ p ∈ X.pn ++ pins, p.1 ≠ D) →
      s'.heap.get? D = some { cls := .type "list", data := .seq its.toArray n } → Vals ys its → s'.heap.Ns C m → H' C = none → X.s₀.heap.objs.size ≤ C → C ≠ X.env.locals → (∀ x c, X.env.cells.lookup x = some c → c ≠ C) → (∀ p ∈ X.pn ++ pins, p.1 ≠ C) → C ≠ D →
      F ys H' → RR (.ref D) C (.ok .next) s'
inductive CompI (Y : Cx) (τ : St) (tn : Nat → Heap → Prop) (fp : List Addr) (D : Addr) (W : Nat → Nat → List V → Hp → Prop) (n : Nat) (s' : Shared) : Prop
  | mk (i : Nat) (ys : List V) (its : List Value) (nn : Nat) (H' : Hp) (h0 : Inv Y [] τ H' s') (h1 : tn i s'.heap) (h2 : ∀ b ∈ fp, H' b = none) (h3 : H' D = none) (h4 : s'.heap.get? D = some { cls := .type "list", data := .seq its.toArray nn }) (h5 : Vals ys its) (h6 : W i n ys H')
theorem comp_core1 {tg iter elt : Expr} {ifs : List Expr} {scope : Scope} {cl : List (Str × Addr)} {N : List Str} {k : Nat} {fr : List Nat} {pos : Pos} {g : TG} {tt : TT} {te : TE}
    {F : List V → Hp → Prop} {RR : Value → Addr → Result → Shared → Prop} {it D C : Addr} {fp : List Addr} {tn : Nat → Heap → Prop} {J : It} {H1 : Hp} {h3 h₁ : Heap}
    (ok : CompOk X scope cl N k fr) (hc : X.calm = true)
    (hg : ∀ C s H ex, PG (compCx X scope cl N C s H ex) tg g) (ht : ∀ C s H ex, PIfs (compCx X scope cl N C s H ex) ifs tt) (he : ∀ C s H ex, PE (compCx X scope cl N C s H ex) elt te)
    (hRR : CompRR X pins σ F RR) (I : Inv X pins σ H1 s) (T : Turn X.prog X.w X.K tg J fp it tn) (st0 : tn 0 s.heap) (hf : ∀ b ∈ fp, FpOk X pins H1 b) (hw : CompW J g tt te (compSt k fr σ) H1 F)
    (hD : s.heap.objs.size = D) (hp3 : s.heap.push { cls := .type "list", dict := none, data := .seq ([] : List Value).toArray } = h3) (hC : h3.objs.size = C)
    (hns₁ : h₁.Ns C fun x => List.lookup x ([] : List (Str × Value)).reverse) (hsb₁ : Heap.SameBut C (h3.push { cls := .type (if (some X.env).isSome = true then "dict" else "frame"), data := .dict #[] }) h₁) :
    codeAny (model X.prog X.w) X.A (.compStart (.ListComp elt [⟨tg, iter, ifs, 0⟩] scope pos) 0 (.ref it) (.ref D) { newEnv scope C X.env.globals cl X.env.qual none .none (some X.env) builtinsNs with scope := relabel scope X.env }) (RR (.ref D) C) { s with heap := h₁, toks := s.toks + ([] : List (Str × Value)).length } := by
  obtain ⟨W, ⟨m0, w0⟩, turn⟩ := hw
  have DF : H1 D = none := I.hok.fresh (by rw [hD]; exact Nat.le_refl _)
  have hDfp := I.fpOk (b := D) (by rw [hD]; exact Nat.le_refl _) DF
  have up3 : ∀ b u, s.heap.get? b = some u → h3.get? b = some u := fun b u e => by rw [← hp3]; exact Heap.get?_push_of_some _ e
  have I3 : Inv X pins σ H1 { s with heap := h3 } := I.kept (t' := s.toks) up3
  have hD3 : h3.get? D = some { cls := .type "list", dict := none, data := .seq ([] : List Value).toArray } := by rw [← hD, ← hp3]; exact Heap.get?_push_size _ rfl
  have sz3 : C = D + 1 := by rw [← hC, ← hp3, Heap.size_push, hD]
  have CF : H1 C = none := I3.hok.fresh (by show h3.objs.size ≤ C; rw [hC]; exact Nat.le_refl _)
  have hCfp : FpOk X pins H1 C := I3.fpOk (b := C) (by show h3.objs.size ≤ C; rw [hC]; exact Nat.le_refl _) CF
  have CD : C ≠ D := by rw [sz3]; exact Nat.ne_of_gt (Nat.lt_succ_self _)
  have up1 : ∀ b u, h3.get? b = some u → h₁.get? b = some u := fun b u e => hsb₁.extBut b u (Nat.ne_of_lt (by have := Heap.lt_size e; rw [hC] at this; exact this)) (Heap.get?_push_of_some _ e)
  have hfb : ∀ b ∈ fp, b < D := fun b hb => by
    obtain ⟨o, e, _⟩ := T.obj 0 _ st0 b hb
    have := Heap.lt_size e
    rw [hD] at this; exact this
  let s3 : Shared := { s with heap := h3 }
  let Y : Cx := compCx X scope cl N C s3 H1 (D :: fp)
  have yok : Y.Ok := {
    mod := I.ok.mod
    kind := ok.kind
    glob := I.ok.glob
    blt := I.ok.blt
    above := by show h3.objs.size ≤ C; rw [hC]; exact Nat.le_refl _
    inj := fun x y c e1 e2 => I.ok.inj x y c (ok.sub x c e1) (ok.sub y c e2)
    has := ok.has
    cab := fun x c e _ => nomatch e
    hd := fun _ => I.ok.hd hc
    frames := I.ok.frames
    stk := .inl rfl
    exf := fun b hb => by
      rcases List.mem_cons.mp hb with rfl | hb
      · exact ⟨Ne.symm CD, fun x c e => hDfp.2.2.2.2.1 x c (ok.sub x c e)⟩
      · exact ⟨fun z => by have q := hfb b hb; have z' : b = C := z; rw [z', sz3] at q; exact absurd q (Nat.not_lt.mpr (Nat.le_succ _)), fun x c e => (hf b hb).2.2.2.2.1 x c (ok.sub x c e)⟩
    bs := fun b o e => ⟨(I3.bs b o e).1, (I3.bs b o e).2⟩
    bsz := Nat.le_trans I.ok.bsz I3.sz
    noex := fun b o e hb => by
      rcases List.mem_cons.mp hb with rfl | hb
      · have e1 := (I.bs b o e).1
        have := Heap.lt_size e1
        rw [hD] at this
        exact Nat.lt_irrefl _ this
      · rcases (hf b hb).2.2.2.1 with z | z
        · exact I.ok.noex b o e z
        · exact absurd (Nat.lt_of_lt_of_le (Heap.lt_size e) (Nat.le_trans I.ok.bsz z)) (Nat.lt_irrefl _)
    exfs := fun b hb hb2 => by
      rcases List.mem_cons.mp hb with rfl | hb
      · rcases List.mem_cons.mp (I.stkSub b hb2) with z | z
        · exact hDfp.2.1 z
        · exact hDfp.2.2.1 z
      · rcases List.mem_cons.mp (I.stkSub b hb2) with z | z
        · exact (hf b hb).2.1 z
        · exact (hf b hb).2.2.1 z
    funs := I3.stack
    frf := I.stkFree }
  have neC : ∀ b u, h3.get? b = some u → b ≠ C := fun b u e => Nat.ne_of_lt (by have := Heap.lt_size e; rw [hC] at this; exact this)
  have IY : Inv Y [] (compSt k fr σ) H1 { s3 with heap := h₁, toks := s.toks + ([] : List (Str × Value)).length } := {
    ok := yok
    os := rfl
    bare := I.bare
    base := Un.kept up1
    loc := by
      obtain ⟨m, hn, hl⟩ := I3.loc
      refine ⟨_, hns₁, fun i x v e1 e2 e3 => ?_⟩
      obtain ⟨t, j, rfl, e4, e5⟩ := compSt_free e2
      obtain ⟨e6, e7, ⟨c, e8⟩, e9, e10⟩ := ok.free t j x e4 e1
      obtain ⟨u, ru, lk⟩ := hl j x v e6 e5 e7
      refine ⟨u, ru, ?_⟩
      rcases lk with ⟨z, _⟩ | ⟨_, c', e11, o, eo, ed⟩
      · exact absurd z e10
      · rw [ok.sub x c e8] at e11; cases e11
        exact .inr ⟨e9, c, e8, o, up1 _ _ eo, ed⟩
    cell := fun x c e => by
      obtain ⟨v, o, eo, ed⟩ := I3.cell x c (ok.sub x c e)
      exact ⟨v, o, up1 _ _ eo, ed⟩
    free := CF
    freeC := fun x c e => I3.freeC x c (ok.sub x c e)
    pin := fun p hp => nomatch hp
    hok := I3.hok.kept up1
    len := by rw [compSt_len]; exact ok.len.symm }
  -- the loop
  have DY : D ≠ Y.env.locals := Ne.symm CD
  have DYf : D ∉ Y.fs := yok.exfs D List.mem_cons_self
  have Dfp : D ∉ fp := fun z => Nat.lt_irrefl _ (hfb D z)
  have pinD : ∀ {σ' : St} {H' : Hp} {s' : Shared} {its : List Value} {n : Nat}, Inv Y [] σ' H' s' → H' D = none → s'.heap.get? D = some { cls := .type "list", data := .seq its.toArray n } →
      Inv Y [(D, { cls := .type "list", data := .seq its.toArray n })] σ' H' s' := fun {σ' H' s' its n} J0 hn e => J0.pins_of fun p hp => by
    rcases List.mem_cons.mp hp with rfl | hp
    · exact ⟨e, hn, DY, DYf, fun v z => nomatch z⟩
    · exact nomatch hp
  have ffY : ∀ {o : Obj} {H' : Hp}, (∀ b ∈ fp, H' b = none) → ∀ b ∈ fp, FpOk Y [(D, o)] H' b := fun {o H'} hn b hb =>
    ⟨hn b hb, (yok.exf b (List.mem_cons_of_mem _ hb)).1, yok.exfs b (List.mem_cons_of_mem _ hb), .inl (List.mem_cons_of_mem _ hb), (yok.exf b (List.mem_cons_of_mem _ hb)).2, fun p hp => by
      have hp' : p ∈ ([] : List (Addr × Obj)) ++ [(D, o)] := hp
      have e : p = (D, o) := by simpa using hp'
      rw [e]; exact fun z => Dfp (by have z' : D = b := z; rw [z']; exact hb)⟩
  have loop : codeAny (model X.prog X.w) X.A (.compLoop (.ListComp elt [⟨tg, iter, ifs, 0⟩] scope pos) 0 (.ref it) (.ref D) (compEnvC scope cl C X.env)) (RR (.ref D) C)
      { s3 with heap := h₁, toks := s.toks + ([] : List (Str × Value)).length } := by
    refine codeAny_loop rfl (CompI Y (compSt k fr σ) tn fp D W) ?_ m0
      ⟨0, [], [], 0, H1, IY, ?_, fun b hb => (hf b hb).1, DF, ?_, .nil, w0⟩
    · rintro n s4 ⟨i, ys, its, nn, H4, I4, st4, fr4, D4, e4, v4, w4⟩
      have P4 := pinD I4 D4 e4
      show wpAny _ X.A ((compTurn (.ListComp elt [⟨tg, iter, ifs, 0⟩] scope pos) 0 (.ref it) (.ref D) (compEnvC scope cl C X.env)).onRaise (fun x => do noteFrame x (compEnvC scope cl C X.env); theTreesLotGoes x)) _ _ s4
      refine wpAny_noted ?_
      rw [compTurn_list]
      refine wpAny_bind (wpAny_standAt (wpAny_bind ?_))
      rcases turn i n ys H4 w4 with ⟨stop, fin⟩ | ⟨go, small, step⟩
      · refine wpAny_mono (T.done Y rfl rfl rfl hc i _ s4 _ H4 (fun _ _ => False) P4 (ffY fr4) st4 stop) (fun r s5 ⟨hr, I5⟩ => ?_) fun _ _ z => z.elim
        subst hr
        refine wpAny_pure ?_
        have e5 := (I5.pin _ (List.mem_cons_self)).1
        have fin5 : Inv X pins σ H4 s5 := I3.call' (ch := D :: fp) I5.os I5.base I5.hok I5.bare fun b hb => by
          rcases List.mem_cons.mp hb with rfl | hb
          · exact ⟨hDfp.2.2.2.1, hDfp.2.1, hDfp.2.2.2.2.1, hDfp.2.2.2.2.2⟩
          · exact ⟨(hf b hb).2.2.2.1, (hf b hb).2.1, (hf b hb).2.2.2.2.1, (hf b hb).2.2.2.2.2⟩
        obtain ⟨m5, n5, _⟩ := I5.loc
        have szD : X.s₀.heap.objs.size ≤ D := by have := I.sz; rw [hD] at this; exact this
        have szC : X.s₀.heap.objs.size ≤ C := by rw [sz3]; exact Nat.le_succ_of_le szD
        exact hRR D C ys its nn H4 m5 s5 fin5 D4 szD hDfp.2.1 hDfp.2.2.2.2.1 hDfp.2.2.2.2.2 e5 v4 n5 I5.free szC hCfp.2.1 hCfp.2.2.2.2.1 hCfp.2.2.2.2.2 CD fin
      · refine wpAny_mono (T.item Y rfl rfl rfl hc i _ s4 _ H4 (fun _ _ => False) P4 (ffY fr4) st4 go) (fun r s5 ⟨u, hr, h5⟩ => ?_) fun _ _ z => z.elim
        subst hr
        refine wpAny_bind (wpAny_mono h5 (fun _ s6 x__61 => ?_) fun _ _ z => z.elim)
        obtain ⟨x, H6, I6, r6, y6, st6, fr6⟩ := x__61
        have I6' := I6.pinned (ffY fr6) (T.obj _ _ st6)
        refine wpAny_bind (wpAny_mono (hg C s3 H1 (D :: fp) _ s6 _ H6 x u _ I6' r6 (step x H6 y6)) (fun _ s7 x__62 => ?_) fun _ _ z => z.elim)
        obtain ⟨σ7, H7, I7, f7, q7⟩ := x__62
        refine wpAny_bind (wpAny_mono (ht C s3 H1 (D :: fp) _ s7 σ7 H7 _ I7 q7) (fun b s8 x__63 => ?_) fun _ _ z => z.elim)
        obtain ⟨H8, I8, q8⟩ := x__63
        have keep : ∀ {s9 : Shared} {H9 : Hp}, Inv Y ([(D, { cls := .type "list", data := .seq its.toArray nn })] ++ pinsAt fp s6.heap) σ7 H9 s9 → tn (i + 1) s9.heap ∧ (∀ b ∈ fp, H9 b = none) ∧ H9 D = none ∧ s9.heap.get? D = some { cls := .type "list", data := .seq its.toArray nn } ∧ Inv Y [] (compSt k fr σ) H9 s9 := fun {s9 H9} I9 => by
          refine ⟨T.keep _ _ _ st6 fun b hb o e => (I9.pin (b, o) (List.mem_append_right _ (List.mem_append_right _ (mem_pinsAt hb e)))).1, fun b hb => ?_, ?_, ?_, ?_⟩
          · obtain ⟨o, e, d⟩ := T.obj _ _ st6 b hb
            exact (I9.pin (b, o) (List.mem_append_right _ (List.mem_append_right _ (mem_pinsAt hb e)))).2.1
          · exact (I9.pin _ (List.mem_append_right _ (List.mem_append_left _ List.mem_cons_self))).2.1
          · exact (I9.pin _ (List.mem_append_right _ (List.mem_append_left _ List.mem_cons_self))).1
          · exact (I9.pins_of (pins' := []) fun p hp => nomatch hp).weak f7.1.symm f7.2
        cases b with
        | false =>
          have q8 : ∃ m', m' < n ∧ W (i + 1) m' ys H8 := by simpa using q8
          obtain ⟨m', hm, w8⟩ := q8
          obtain ⟨a1, a2, a3, a4, a5⟩ := keep I8
          exact wpAny_pure ⟨rfl, m', hm, i + 1, ys, its, nn, H8, a5, a1, a2, a3, a4, v4, w8⟩
        | true =>
          have q8 : te σ7 H8 fun y H4 => ∃ m', m' < n ∧ W (i + 1) m' (ys ++ [y]) H4 := by simpa using q8
          refine wpAny_bind (wpAny_bind (wpAny_mono (he C s3 H1 (D :: fp) _ s8 σ7 H8 _ I8 q8) (fun yv s9 x__64 => ?_) fun _ _ z => z.elim))
          obtain ⟨y, H9, I9, r9, m', hm, w9⟩ := x__64
          obtain ⟨a1, a2, a3, a4, a5⟩ := keep I9
          refine wpAny_bind (append_at (hsz := by rw [List.size_toArray, ← v4.length]; exact Nat.le_of_lt small) a4 fun h' hs' e' => ?_)
          refine wpAny_pure (wpAny_pure ⟨rfl, m', hm, i + 1, ys ++ [y], its ++ [yv], nn + 1, H9, ?_, ?_, a2, a3, ?_, v4.append (.cons r9 .nil), w9⟩)
          · exact a5.turned (t' := s9.toks) (fun b o hb e => hs'.extBut b o hb e) a3 DY (.inl List.mem_cons_self) (yok.exf D List.mem_cons_self).2 fun p hp => nomatch hp
          · exact T.keep _ _ _ a1 fun b hb o e => hs'.extBut b o (fun z => Dfp (by rw [← z]; exact hb)) e
          · show h'.get? D = _
            rw [e']
            simp
    · exact T.keep 0 _ _ st0 fun b hb o e => up1 _ _ (up3 _ _ e)
    · exact up1 _ _ hD3
  exact codeAny_compStart_list loop (T.self _ 0 _ _ _ (T.keep 0 _ _ st0 fun b hb o e => up1 _ _ (up3 _ _ e)) loop)

theorem comp_core {tg iter elt : Expr} {ifs : List Expr} {scope : Scope} {cl : List (Str × Addr)} {N : List Str} {k : Nat} {fr : List Nat} {pos : Pos} {g : TG} {tt : TT} {te : TE} {itv : Value} {E : Value → Shared → Prop}
    {F : List V → Hp → Prop} {RR : Value → Addr → Result → Shared → Prop}
    (ok : CompOk X scope cl N k fr) (hc : X.calm = true)
    (hg : ∀ C s H ex, PG (compCx X scope cl N C s H ex) tg g) (ht : ∀ C s H ex, PIfs (compCx X scope cl N C s H ex) ifs tt) (he : ∀ C s H ex, PE (compCx X scope cl N C s H ex) elt te)
    (h : PIE X pins σ tg (fun J H1 => CompW J g tt te (compSt k fr σ) H1 F) itv s)
    (hRR : CompRR X pins σ F RR) :
    wpAny (model X.prog X.w) X.A (newList []) (fun acc s₃ => wpAny (model X.prog X.w) X.A (newFunctionEnv scope X.env.globals cl [] X.env.qual none .none (some X.env)) (fun cenv s₄ =>
      codeAny (model X.prog X.w) X.A (.compStart (.ListComp elt [⟨tg, iter, ifs, 0⟩] scope pos) 0 itv acc { cenv with scope := relabel scope X.env }) (RR acc cenv.locals) s₄) E s₃) E s := by
  obtain ⟨it, fp, tn, J, H1, rfl, I, T, st0, hf, hw⟩ := h
  exact wpAny_newObj_type (wpAny_newFunctionEnv ok.nocell (by intro y hy; simp at hy) (fun h₁ hns₁ hsb₁ => comp_core1 (s := s) (h3 := s.heap.push { cls := .type "list", dict := none, data := .seq ([] : List Value).toArray }) (h₁ := h₁) ok hc hg ht he hRR I T st0 hf hw rfl rfl rfl hns₁ hsb₁) ok.kind)
theorem pe_comp {tg iter elt : Expr} {ifs : List Expr} {scope : Scope} {cl : List (Str × Addr)} {N : List Str} {k : Nat} {fr : List Nat} {pos : Pos} {wi : TI} {g : TG} {tt : TT} {te : TE}
    (ok : CompOk X scope cl N k fr) (hc : X.calm = true) (hi : PI X tg iter wi)
    (hg : ∀ C s H ex, PG (compCx X scope cl N C s H ex) tg g) (ht : ∀ C s H ex, PIfs (compCx X scope cl N C s H ex) ifs tt) (he : ∀ C s H ex, PE (compCx X scope cl N C s H ex) elt te)
    (hs : ∀ x, foldedSetIterable iter X.env x = pure x := by intro _; rfl) : PE X (.ListComp elt [⟨tg, iter, ifs, 0⟩] scope pos) (tComp k fr wi g tt te) := by
  intro pins s σ H Q I h
  rw [eval_ListComp]
  refine wpAny_comprehension_free (use := none) rfl hs ok.clos ok.kind ok.names (thn (hi pins s σ H _ I h) fun v s1 h1 => thn h1 fun itv s2 h2 => ?_)
  refine comp_core ok hc hg ht he h2 fun D C ys its n H' m s' I' d1 d2 d3 d4 d5 e vv nC c1 c2 c3 c4 c5 cd fin => ?_
  refine ⟨m, nC, fun h'' sb => ?_⟩
  have I2 : Inv X pins σ H' { s' with heap := h'' } := I'.turned (t' := s'.toks) (fun b o hb e => sb.extBut b o hb e) c1 c3 (.inr c2) c4 c5
  have e2 : h''.get? D = some { cls := .type "list", data := .seq its.toArray n } := sb.extBut _ _ (Ne.symm cd) e
  exact ⟨.ref D, upd H' D (.lst ys), I2.track (t' := s'.toks) d1 d3 d2 d4 d5 ⟨fin.1, its, n, vv, e2⟩, rfl, fin.2 D d1⟩
end
end L2

namespace L2
open PySem PySem.Spec PyProof.Rows

noncomputable def SqK (k : Bool) (K : PySem.W.Frag) (H : Hp) (a : Addr) (xs : List V) : Prop := if k = true then SqL K H a xs else SqT K H a xs
noncomputable def HasK (k : Bool) (h : Heap) (a : Addr) (its : Array Value) : Prop := if k = true then h.IsList a its else h.IsTuple a its
noncomputable def IterK (k : Bool) (h : Heap) (it a : Addr) (i : Nat) : Prop := if k = true then h.IsListIter it a i else h.IsTupleIter it a i
noncomputable def iterObj (k : Bool) (a : Addr) : Obj := { cls := .type (if k = true then "list_iterator" else "tuple_iterator"), data := .fields #[.ref a, .int 0 0] }

theorem IterK.at {k : Bool} {h h' : Heap} {it a : Addr} {i : Nat} (x : IterK k h it a i) (e : ∀ o, h.get? it = some o → h'.get? it = some o) : IterK k h' it a i := by
  cases k with
  | true => exact Heap.IsListIter.at (show h.IsListIter it a i from x) e
  | false => exact Heap.IsTupleIter.at (show h.IsTupleIter it a i from x) e
theorem IterK.get {k : Bool} {h : Heap} {it a : Addr} {i : Nat} (x : IterK k h it a i) : ∃ o, h.get? it = some o ∧ ∀ v, o.data ≠ .cell v := by
  cases k with
  | true => obtain ⟨o, e, _, d⟩ := (show h.IsListIter it a i from x); exact ⟨o, e, fun v z => by rw [d] at z; cases z⟩
  | false => obtain ⟨o, e, _, d⟩ := (show h.IsTupleIter it a i from x); exact ⟨o, e, fun v z => by rw [d] at z; cases z⟩
theorem HasK.at {k : Bool} {h h' : Heap} {a : Addr} {its : Array Value} (x : HasK k h a its) (e : ∀ o, h.get? a = some o → h'.get? a = some o) : HasK k h' a its := by
  cases k with
  | true => exact Heap.IsList.at (show h.IsList a its from x) e
  | false => obtain ⟨o, q, r⟩ := (show h.IsTuple a its from x); exact ⟨o, e o q, r⟩
theorem HasK.lt {k : Bool} {h : Heap} {a : Addr} {its : Array Value} (x : HasK k h a its) : a < h.objs.size := by
  cases k with
  | true => obtain ⟨_, e, _⟩ := (show h.IsList a its from x); exact Heap.lt_size e
  | false => obtain ⟨_, e, _⟩ := (show h.IsTuple a its from x); exact Heap.lt_size e
theorem Inv.hasK {X : Cx} {pins : List (Addr × Obj)} {σ : St} {H : Hp} {s : Shared} {k : Bool} {a : Addr} {xs : List V} (I : Inv X pins σ H s) (h : SqK k X.K H a xs) :
    ∃ its : List Value, Vals xs its ∧ HasK k s.heap a its.toArray ∧ xs.length ≤ sizeLine := by
  cases k with
  | true =>
    obtain ⟨its, r, p, z⟩ := I.list (show SqL X.K H a xs from h)
    exact ⟨its, r, p.isList, z⟩
  | false =>
    obtain ⟨its, r, ⟨o, e, c, n, d⟩, z⟩ := I.tuple (show SqT X.K H a xs from h)
    exact ⟨its, r, ⟨o, e, c, n, d⟩, z⟩
theorem Inv.sqK_inj {X : Cx} {pins : List (Addr × Obj)} {σ : St} {H : Hp} {s : Shared} {k : Bool} {a : Addr} {xs ys : List V} (I : Inv X pins σ H s) (h : SqK k X.K H a xs) (h' : SqK k X.K H a ys) : xs = ys := by
  cases k with
  | true => exact I.list_inj h h'
  | false => exact I.tuple_inj h h'

section
variable {prog : Program} {w : World} {A : Around} {E : Value → Shared → Prop} {s : Shared}
theorem nextK_item {k : Bool} {it a : Addr} {i : Nat} {its : Array Value} {x : Value} {Q : Value → Shared → Prop} (hi : IterK k s.heap it a i) (ha : HasK k s.heap a its) (hx : its[i]? = some x)
    (hQ : ∀ h', IterK k h' it a (i + 1) → Heap.SameBut it s.heap h' → Q x { s with heap := h' }) : wpAny (model prog w) A (Builtin.SmallTypes.nextOf (.ref it)) Q E s := by
  cases k with
  | true => exact wpAny_nextOf_list_item hi ha hx fun h' q1 q2 => hQ h' q1 q2
  | false =>
    have hit : s.heap.IsTupleIter it a i := hi
    obtain ⟨o, eo, ec, ed⟩ := id hit
    obtain ⟨oa, ea, _, na, da⟩ := (show s.heap.IsTuple a its from ha)
    unfold Builtin.SmallTypes.nextOf
    refine wpAny_bind (wpAny_callSpecial?_slot (name := Str.ofString "__next__") hit.typeIs F.slot_tuple_iterator_next (wpAny_call_entry F.slot_tuple_iterator_next hit.typeIs F.entry_tuple_iterator_next ?_ (F.args_tuple_iterator_next_1 _)))
    show wpAny (model prog w) _ (field (.ref it) 0 >>= _) _ E s
    refine wpAny_bind (wpAny_field eo ed (x := .ref a) rfl ?_)
    show wpAny (model prog w) _ (if (Value.ref a == Value.none) = true then _ else _) _ E s
    rw [if_neg (by show ¬ false = true; exact Bool.false_ne_true)]
    show wpAny (model prog w) _ (field (.ref it) 1 >>= _) _ E s
    refine wpAny_bind (wpAny_field eo ed (x := .int i 0) rfl ?_)
    show wpAny (model prog w) _ (seqItems? (.ref a) >>= _) _ E s
    refine wpAny_bind (wpAny_seqItems ea da ?_)
    simp only [Int.toNat_natCast, hx]
    refine wpAny_bind (wpAny_setField eo ed (by simp) (wpAny_pure ⟨x, rfl, wpAny_pure (hQ _ ?_ (Heap.SameBut.update ..))⟩))
    show Heap.IsTupleIter _ it a (i + 1)
    refine ⟨_, Heap.get?_update_self _ eo (Obj.isFreed_of_fields (Obj.data_mapFields ed _)), (Obj.cls_mapFields ..).trans ec, ?_⟩
    rw [Obj.data_mapFields ed]
    simp [rawInt]
theorem nextK_end {k : Bool} {it a : Addr} {i : Nat} {its : Array Value} {Q : Value → Shared → Prop} (hh : A.handled = none) (hi : IterK k s.heap it a i) (ha : HasK k s.heap a its) (hx : its[i]? = none)
    (hE : ∀ h' e, Heap.ExtBut it s.heap h' → (∃ o, h'.get? e = some o ∧ o.cls = .type "StopIteration") → E (.ref e) { s with heap := h' }) : wpAny (model prog w) A (Builtin.SmallTypes.nextOf (.ref it)) Q E s := by
  cases k with
  | true => exact wpAny_nextOf_list_end hh hi ha hx hE
  | false =>
    have hit : s.heap.IsTupleIter it a i := hi
    obtain ⟨o, eo, ec, ed⟩ := id hit
    obtain ⟨oa, ea, _, na, da⟩ := (show s.heap.IsTuple a its from ha)
    unfold Builtin.SmallTypes.nextOf
    refine wpAny_bind (wpAny_callSpecial?_slot (name := Str.ofString "__next__") hit.typeIs F.slot_tuple_iterator_next (wpAny_call_entry F.slot_tuple_iterator_next hit.typeIs F.entry_tuple_iterator_next ?_ (F.args_tuple_iterator_next_1 _)))
    show wpAny (model prog w) _ (field (.ref it) 0 >>= _) _ E s
    refine wpAny_bind (wpAny_field eo ed (x := .ref a) rfl ?_)
    show wpAny (model prog w) _ (if (Value.ref a == Value.none) = true then _ else _) _ E s
    rw [if_neg (by show ¬ false = true; exact Bool.false_ne_true)]
    show wpAny (model prog w) _ (field (.ref it) 1 >>= _) _ E s
    refine wpAny_bind (wpAny_field eo ed (x := .int i 0) rfl ?_)
    show wpAny (model prog w) _ (seqItems? (.ref a) >>= _) _ E s
    refine wpAny_bind (wpAny_seqItems ea da ?_)
    simp only [Int.toNat_natCast, hx]
    refine wpAny_bind (wpAny_rule (wpAny_bind (wpAny_setField eo ed (by simp) ?_)))
    show wpAny (model prog w) _ (newExc (.type "StopIteration") [] >>= _) _ E _
    refine wpAny_bind ?_
    simp only [newExc, newTuple]
    refine wpAny_bind (wpAny_newObj_type ?_ (by size_fits))
    refine wpAny_bind (m := firstArgMember _ _) (wpAny_of_eq (a := Value.none) (by first | rfl | (simp only [firstArgMember]; rfl)) (wpAny_newObj_type ?_ (by size_fits)))
    simp only [raiseNew]
    refine wpAny_bind (wpAny_handled ?_)
    first | rw [show A.in1.handled = none from hh] | rw [hh]
    exact wpAny_bind (wpAny_pure (wpAny_throw (hE _ _ (((Heap.SameBut.update ..).extBut.push _).push _) ⟨_, Heap.get?_push_size _ rfl, rfl⟩)))
theorem iterK_new {k : Bool} {a : Addr} {its : Array Value} {Q : Value → Shared → Prop} (ha : HasK k s.heap a its) (hQ : Q (.ref s.heap.objs.size) { s with heap := s.heap.push (iterObj k a) }) :
    wpAny (model prog w) A (pyIter (.ref a)) Q E s := by
  cases k with
  | true => exact wpAny_pyIter_list ha hQ
  | false => exact wpAny_pyIter_tuple ha hQ
theorem iterObj_is {k : Bool} {a it : Addr} {h : Heap} (e : h.get? it = some (iterObj k a)) : IterK k h it a 0 := by
  cases k with
  | true => exact ⟨_, e, rfl, rfl⟩
  | false => exact ⟨_, e, rfl, rfl⟩
end

structure ZipRec (h : Heap) (k1 k2 : Bool) (z TI TO i1 i2 a b : Addr) (n : Nat) (f0 : Value) : Prop where
  zr : IsZip h z TI TO f0
  pi : IsPair h TI (.ref i1) (.ref i2)
  po : ∃ u v, IsPair h TO u v
  it1 : IterK k1 h i1 a n
  it2 : IterK k2 h i2 b n
structure ZipFar (z TI TO i1 i2 : Addr) : Prop where
  d1 : TI ≠ z
  d2 : TO ≠ z
  d3 : i1 ≠ z
  d4 : i2 ≠ z
  d5 : TI ≠ TO
  d6 : TI ≠ i1
  d7 : TI ≠ i2
  d8 : TO ≠ i1
  d9 : TO ≠ i2
  d10 : i1 ≠ i2

section
variable {prog : Program} {w : World} {A : Around} {E : Value → Shared → Prop} {s : Shared} {k1 k2 : Bool} {z TI TO i1 i2 a b : Addr} {n : Nat} {xs ys : Array Value}
theorem zipK_item {x y : Value} {Q : Value → Shared → Prop} (D : ZipFar z TI TO i1 i2) (Z : ZipRec s.heap k1 k2 z TI TO i1 i2 a b n .none) (ha : HasK k1 s.heap a xs) (hb : HasK k2 s.heap b ys)
    (fa : a ≠ z ∧ a ≠ TO ∧ a ≠ i1 ∧ a ≠ i2) (fb : b ≠ z ∧ b ≠ TO ∧ b ≠ i1 ∧ b ≠ i2) (hx : xs[n]? = some x) (hy : ys[n]? = some y)
    (hQ : ∀ h', ZipRec h' k1 k2 z TI TO i1 i2 a b (n + 1) (rawInt s.heap.objs.size) → IsPair h' s.heap.objs.size x y → h'.objs.size = s.heap.objs.size + 1 →
      (∀ c o, c ≠ z → c ≠ TO → c ≠ i1 → c ≠ i2 → s.heap.get? c = some o → h'.get? c = some o) → Q (.ref s.heap.objs.size) { s with heap := h' }) :
    wpAny (model prog w) A (Builtin.«zip.__next__» ⟨[.ref z], []⟩) (fun fin s' => ∃ v, fin = .done (.ret v) ∧ Q v s') E s := by
  obtain ⟨zr, zi, ⟨u, v, zo⟩, z1, z2⟩ := Z
  show wpAny (model prog w) A (field (.ref z) 2 >>= _) _ E s
  refine wpAny_bind (wpAny_field zr rfl (x := .bool false) rfl ?_)
  show wpAny (model prog w) A (field (.ref z) 3 >>= _) _ E s
  refine wpAny_bind (wpAny_field zr rfl (x := .ref TI) rfl (wpAny_bind (wpAny_seqItems zi rfl ?_)))
  show wpAny (model prog w) A (Builtin.SmallTypes.ownedTupleIsFree (.ref z) >>= _) _ E s
  refine wpAny_bind ?_
  unfold Builtin.SmallTypes.ownedTupleIsFree
  refine wpAny_bind (wpAny_field zr rfl (x := .none) rfl (wpAny_pure ?_))
  simp only [if_true]
  refine wpAny_bind (wpAny_rule (wpAny_bind (wpAny_field zr rfl (x := .ref TO) rfl (wpAny_bind (wpAny_setField_rec zr (by simp) fun g1 r1 e1 => ?_)))))
  have r1' : IsZip g1 z TI TO .ellipsis := r1
  clear r1
  simp only [List.zipIdx_cons, List.zipIdx_nil, List.forIn_cons, List.forIn_nil]
  have kp1 : ∀ c o, c ≠ z → s.heap.get? c = some o → g1.get? c = some o := fun c o q e => e1.extBut c o q e
  -- the first
  refine wpAny_bind (wpAny_bind (wpAny_bind (wpAny_onRaise ?_)))
  show wpAny (model prog w) A (Builtin.SmallTypes.nextOf (.ref i1) >>= _) _ _ { s with heap := g1 }
  refine wpAny_bind (nextK_item (s := { s with heap := g1 }) (z1.at fun o e => kp1 _ o D.d3 e) (ha.at fun o e => kp1 _ o fa.1 e) hx fun g2 j1 e2 => wpAny_pure ?_)
  have kp2 : ∀ c o, c ≠ i1 → g1.get? c = some o → g2.get? c = some o := fun c o q e => e2.extBut c o q e
  have o2 : IsPair g2 TO u v := kp2 _ _ D.d8 (kp1 _ _ D.d2 zo)
  refine wpAny_bind (wpAny_seqItems o2 rfl (wpAny_bind (wpAny_updateSeq_pair o2 fun g3 o3 e3 => wpAny_bind (wpAny_letGo (wpAny_pure ?_)))))
  have o3' : IsPair g3 TO x v := o3
  clear o3
  have kp3 : ∀ c o, c ≠ TO → g2.get? c = some o → g3.get? c = some o := fun c o q e => e3.extBut c o q e
  -- the second
  refine wpAny_bind (wpAny_bind (wpAny_onRaise ?_))
  show wpAny (model prog w) A (Builtin.SmallTypes.nextOf (.ref i2) >>= _) _ _ { s with heap := g3 }
  refine wpAny_bind (nextK_item (s := { s with heap := g3 }) (z2.at fun o e => kp3 _ o D.d9.symm (kp2 _ o D.d10.symm (kp1 _ o D.d4 e))) (hb.at fun o e => kp3 _ o fb.2.1 (kp2 _ o fb.2.2.1 (kp1 _ o fb.1 e))) hy fun g4 j2 e4 => wpAny_pure ?_)
  have kp4 : ∀ c o, c ≠ i2 → g3.get? c = some o → g4.get? c = some o := fun c o q e => e4.extBut c o q e
  have o4 : IsPair g4 TO x v := kp4 _ _ D.d9 o3'
  refine wpAny_bind (wpAny_seqItems o4 rfl (wpAny_bind (wpAny_updateSeq_pair o4 fun g5 o5 e5 => wpAny_bind (wpAny_letGo (wpAny_pure (wpAny_pure ?_))))))
  have o5' : IsPair g5 TO x y := o5
  clear o5
  have kp5 : ∀ c o, c ≠ TO → g4.get? c = some o → g5.get? c = some o := fun c o q e => e5.extBut c o q e
  refine wpAny_bind (wpAny_seqItems o5' rfl (wpAny_bind (wpAny_newTuple ?_)))
  have sz5 : g5.objs.size = s.heap.objs.size := by rw [e5.1, e4.1, e3.1, e2.1, e1.1]
  have z5 : IsZip g5 z TI TO .ellipsis := kp5 _ _ D.d2.symm (kp4 _ _ D.d4.symm (kp3 _ _ D.d2.symm (kp2 _ _ D.d3.symm r1')))
  have all5 : ∀ c o, c ≠ z → c ≠ TO → c ≠ i1 → c ≠ i2 → s.heap.get? c = some o → g5.get? c = some o := fun c o q1 q2 q3 q4 e => kp5 _ _ q2 (kp4 _ _ q4 (kp3 _ _ q2 (kp2 _ _ q3 (kp1 _ _ q1 e))))
  have j1' : IterK k1 g5 i1 a (n + 1) := j1.at fun o e => kp5 _ _ D.d8.symm (kp4 _ _ D.d10 (kp3 _ _ D.d8.symm e))
  have j2' : IterK k2 g5 i2 b (n + 1) := j2.at fun o e => kp5 _ _ D.d9.symm e
  have zl : z < g5.objs.size := Heap.lt_size z5
  refine wpAny_bind ?_
  unfold Builtin.SmallTypes.ownedTupleHandOut
  have z6 : IsZip (g5.push { cls := .type "tuple", data := .seq #[x, y] }) z TI TO .ellipsis := Heap.get?_push_of_some _ z5
  refine wpAny_bind (wpAny_setField_rec z6 (by simp) fun g7 r7 e7 => ?_)
  have r7' : IsZip g7 z TI TO (rawInt g5.objs.size) := r7
  refine wpAny_setField_rec r7' (by simp) fun g8 r8 e8 => ?_
  have r8' : IsZip g8 z TI TO (rawInt g5.objs.size) := r8
  have kp8 : ∀ c o, c ≠ z → g5.get? c = some o → g8.get? c = some o := fun c o q e => e8.extBut _ _ q (e7.extBut _ _ q (Heap.get?_push_of_some _ e))
  have t8 : IsPair g8 g5.objs.size x y := e8.extBut _ _ (Nat.ne_of_gt zl) (e7.extBut _ _ (Nat.ne_of_gt zl) (Heap.get?_push_size _ rfl))
  have sz8 : g8.objs.size = g5.objs.size + 1 := by rw [e8.1, e7.1, Heap.size_push]
  rw [sz5] at r8' t8 sz8
  refine wpAny_pure ⟨_, rfl, ?_⟩
  show Q (.ref g5.objs.size) _
  rw [sz5]
  exact hQ g8 ⟨r8', kp8 _ _ D.d1 (all5 _ _ D.d1 D.d5 D.d6 D.d7 zi), ⟨_, _, kp8 _ _ D.d2 o5'⟩, j1'.at fun o e => kp8 _ o D.d3 e, j2'.at fun o e => kp8 _ o D.d4 e⟩ t8 sz8 fun c o q1 q2 q3 q4 e => kp8 c o q1 (all5 c o q1 q2 q3 q4 e)

theorem zipK_end {Q : Fin → Shared → Prop} (hh : A.handled = none) (D : ZipFar z TI TO i1 i2) (Z : ZipRec s.heap k1 k2 z TI TO i1 i2 a b n .none) (ha : HasK k1 s.heap a xs) (hb : HasK k2 s.heap b ys)
    (fa : a ≠ z ∧ a ≠ TO ∧ a ≠ i1 ∧ a ≠ i2) (fb : b ≠ z ∧ b ≠ TO ∧ b ≠ i1 ∧ b ≠ i2) (hend : xs[n]? = none ∨ ys[n]? = none)
    (hE : ∀ h' e, (∀ c o, c ≠ z → c ≠ TO → c ≠ i1 → c ≠ i2 → s.heap.get? c = some o → h'.get? c = some o) → (∃ o, h'.get? e = some o ∧ o.cls = .type "StopIteration") → E (.ref e) { s with heap := h' }) :
    wpAny (model prog w) A (Builtin.«zip.__next__» ⟨[.ref z], []⟩) Q E s := by
  obtain ⟨zr, zi, ⟨u, v, zo⟩, z1, z2⟩ := Z
  show wpAny (model prog w) A (field (.ref z) 2 >>= _) _ E s
  refine wpAny_bind (wpAny_field zr rfl (x := .bool false) rfl ?_)
  show wpAny (model prog w) A (field (.ref z) 3 >>= _) _ E s
  refine wpAny_bind (wpAny_field zr rfl (x := .ref TI) rfl (wpAny_bind (wpAny_seqItems zi rfl ?_)))
  show wpAny (model prog w) A (Builtin.SmallTypes.ownedTupleIsFree (.ref z) >>= _) _ E s
  refine wpAny_bind ?_
  unfold Builtin.SmallTypes.ownedTupleIsFree
  refine wpAny_bind (wpAny_field zr rfl (x := .none) rfl (wpAny_pure ?_))
  simp only [if_true]
  refine wpAny_bind (wpAny_rule (wpAny_bind (wpAny_field zr rfl (x := .ref TO) rfl (wpAny_bind (wpAny_setField_rec zr (by simp) fun g1 r1 e1 => ?_)))))
  have r1' : IsZip g1 z TI TO .ellipsis := r1
  clear r1
  simp only [List.zipIdx_cons, List.zipIdx_nil, List.forIn_cons, List.forIn_nil]
  have kp1 : ∀ c o, c ≠ z → s.heap.get? c = some o → g1.get? c = some o := fun c o q e => e1.extBut c o q e
  refine wpAny_bind (wpAny_bind (wpAny_bind (wpAny_onRaise ?_)))
  show wpAny (model prog w) A (Builtin.SmallTypes.nextOf (.ref i1) >>= _) _ _ { s with heap := g1 }
  cases hx : xs[n]? with
  | none =>
    refine wpAny_bind (nextK_end (s := { s with heap := g1 }) hh (z1.at fun o e => kp1 _ o D.d3 e) (ha.at fun o e => kp1 _ o fa.1 e) hx fun g2 e e2 he => ?_)
    obtain ⟨oe, eo, ec⟩ := he
    have z2' : IsZip g2 z TI TO .ellipsis := e2 _ _ D.d3.symm r1'
    have ez : e ≠ z := fun q => by subst q; rw [z2'] at eo; cases eo; simp at ec
    exact wpAny_setField_rec z2' (by simp) fun g3 _ e3 => hE g3 e (fun c o q1 _ q3 _ q => e3.extBut _ _ q1 (e2 _ _ q3 (kp1 _ _ q1 q))) ⟨oe, e3.extBut _ _ ez eo, ec⟩
  | some x =>
    have hy : ys[n]? = none := hend.resolve_left fun q => by rw [hx] at q; cases q
    refine wpAny_bind (nextK_item (s := { s with heap := g1 }) (z1.at fun o e => kp1 _ o D.d3 e) (ha.at fun o e => kp1 _ o fa.1 e) hx fun g2 j1 e2 => wpAny_pure ?_)
    have kp2 : ∀ c o, c ≠ i1 → g1.get? c = some o → g2.get? c = some o := fun c o q e => e2.extBut c o q e
    have o2 : IsPair g2 TO u v := kp2 _ _ D.d8 (kp1 _ _ D.d2 zo)
    refine wpAny_bind (wpAny_seqItems o2 rfl (wpAny_bind (wpAny_updateSeq_pair o2 fun g3 o3 e3 => wpAny_bind (wpAny_letGo (wpAny_pure ?_)))))
    have kp3 : ∀ c o, c ≠ TO → g2.get? c = some o → g3.get? c = some o := fun c o q e => e3.extBut c o q e
    refine wpAny_bind (wpAny_bind (wpAny_onRaise ?_))
    show wpAny (model prog w) A (Builtin.SmallTypes.nextOf (.ref i2) >>= _) _ _ { s with heap := g3 }
    refine wpAny_bind (nextK_end (s := { s with heap := g3 }) hh (z2.at fun o e => kp3 _ o D.d9.symm (kp2 _ o D.d10.symm (kp1 _ o D.d4 e))) (hb.at fun o e => kp3 _ o fb.2.1 (kp2 _ o fb.2.2.1 (kp1 _ o fb.1 e))) hy fun g4 e e4 he => ?_)
    obtain ⟨oe, eo, ec⟩ := he
    have z4 : IsZip g4 z TI TO .ellipsis := e4 _ _ D.d4.symm (kp3 _ _ D.d2.symm (kp2 _ _ D.d3.symm r1'))
    have ez : e ≠ z := fun q => by subst q; rw [z4] at eo; cases eo; simp at ec
    exact wpAny_setField_rec z4 (by simp) fun g5 _ e5 => hE g5 e (fun c o q1 q2 q3 q4 q => e5.extBut _ _ q1 (e4 _ _ q4 (kp3 _ _ q2 (kp2 _ _ q3 (kp1 _ _ q1 q))))) ⟨oe, e5.extBut _ _ ez eo, ec⟩
end

section
variable {prog : Program} {w : World} {A : Around} {E : Value → Shared → Prop} {s : Shared} {k1 k2 : Bool} {z TI TO i1 i2 a b : Addr} {n : Nat} {xs ys : Array Value}
theorem nextZip_item {x y : Value} {Q : Option Value → Shared → Prop} (D : ZipFar z TI TO i1 i2) (Z : ZipRec s.heap k1 k2 z TI TO i1 i2 a b n .none) (ha : HasK k1 s.heap a xs) (hb : HasK k2 s.heap b ys)
    (fa : a ≠ z ∧ a ≠ TO ∧ a ≠ i1 ∧ a ≠ i2) (fb : b ≠ z ∧ b ≠ TO ∧ b ≠ i1 ∧ b ≠ i2) (hx : xs[n]? = some x) (hy : ys[n]? = some y)
    (hQ : ∀ h', ZipRec h' k1 k2 z TI TO i1 i2 a b (n + 1) (rawInt s.heap.objs.size) → IsPair h' s.heap.objs.size x y → h'.objs.size = s.heap.objs.size + 1 →
      (∀ c o, c ≠ z → c ≠ TO → c ≠ i1 → c ≠ i2 → s.heap.get? c = some o → h'.get? c = some o) → Q (some (.ref s.heap.objs.size)) { s with heap := h' }) :
    wpAny (model prog w) A (pyNext (.ref z)) Q E s := by
  have ty : s.TypeIs (.ref z) "zip" := ⟨_, Z.zr, rfl⟩
  unfold pyNext
  refine wpAny_bind (wpAny_attempt (wpAny_callSpecial?_slot (name := Str.ofString "__next__") ty F.slot_zip_next (wpAny_call_entry F.slot_zip_next ty F.entry_zip_next ?_ (F.args_zip_next_1 _))))
  exact zipK_item D Z ha hb fa fb hx hy fun h' q1 q2 q3 q4 => wpAny_pure (hQ h' q1 q2 q3 q4)
theorem nextZip_end {Q : Option Value → Shared → Prop} (hh : A.handled = none) (D : ZipFar z TI TO i1 i2) (Z : ZipRec s.heap k1 k2 z TI TO i1 i2 a b n .none) (ha : HasK k1 s.heap a xs) (hb : HasK k2 s.heap b ys)
    (fa : a ≠ z ∧ a ≠ TO ∧ a ≠ i1 ∧ a ≠ i2) (fb : b ≠ z ∧ b ≠ TO ∧ b ≠ i1 ∧ b ≠ i2) (hend : xs[n]? = none ∨ ys[n]? = none)
    (hQ : ∀ h', (∀ c o, c ≠ z → c ≠ TO → c ≠ i1 → c ≠ i2 → s.heap.get? c = some o → h'.get? c = some o) → Q none { s with heap := h' }) : wpAny (model prog w) A (pyNext (.ref z)) Q E s := by
  have ty : s.TypeIs (.ref z) "zip" := ⟨_, Z.zr, rfl⟩
  unfold pyNext
  refine wpAny_bind (wpAny_attempt (wpAny_callSpecial?_slot (name := Str.ofString "__next__") ty F.slot_zip_next (wpAny_call_entry F.slot_zip_next ty F.entry_zip_next ?_ (F.args_zip_next_1 _))))
  refine zipK_end hh D Z ha hb fa fb hend fun h' e kp he => ?_
  obtain ⟨o, ho, hc⟩ := he
  exact wpAny_bind (wpAny_isInstance (T := "StopIteration") (b := true) ⟨o, ho, hc⟩ isSubtype_stop (wpAny_pure (hQ _ kp)))

noncomputable abbrev zG1 (h : Heap) (k1 : Bool) (a : Addr) : Heap := h.push (iterObj k1 a)
noncomputable abbrev zG2 (h : Heap) (k1 k2 : Bool) (a b : Addr) : Heap := (zG1 h k1 a).push (iterObj k2 b)
noncomputable abbrev zG3 (h : Heap) (k1 k2 : Bool) (a b : Addr) : Heap := (zG2 h k1 k2 a b).push { cls := .type "tuple", data := .seq #[.ref h.objs.size, .ref (zG1 h k1 a).objs.size] }
noncomputable abbrev zG4 (h : Heap) (k1 k2 : Bool) (a b : Addr) : Heap := (zG3 h k1 k2 a b).push { cls := .type "tuple", data := .seq #[.none, .none] }
noncomputable abbrev zG5 (h : Heap) (k1 k2 : Bool) (a b : Addr) : Heap := (zG4 h k1 k2 a b).push { cls := .type "zip", data := .fields #[.none, .bool false, .bool false, .ref (zG2 h k1 k2 a b).objs.size, .ref (zG3 h k1 k2 a b).objs.size] }
theorem meets_zipK (k1 k2 : Bool) (a b : Addr) (xs ys : Array Value) : Meets (Builtin.«zip.__new__» ⟨[.type "zip", .ref a, .ref b], []⟩) (fun _ R s => HasK k1 s.heap a xs ∧ HasK k2 s.heap b ys ∧
      R (.ok (.ret (.ref (zG4 s.heap k1 k2 a b).objs.size))) { s with heap := zG5 s.heap k1 k2 a b }) :=
  .of_wp fun prog w A R s h => by
    obtain ⟨hp, g, d, tk, os⟩ := s
    obtain ⟨p1, p2, h⟩ := h
    have hsub := sub_zip
    have q1 : HasK k1 (Shared.heap ⟨hp, g, d, tk, os⟩) a xs := p1
    have q2 : HasK k2 (Shared.heap ⟨hp.push (iterObj k1 a), g, d, tk, os⟩) b ys := p2.at fun o e => Heap.get?_push_of_some _ e
    wp_walk using iterK_new q1, iterK_new q2
    exact ⟨_, rfl, h⟩
theorem call_zipK {Q : Value → Shared → Prop} (ha : HasK k1 s.heap a xs) (hb : HasK k2 s.heap b ys)
    (h : ∀ h', ZipRec h' k1 k2 (s.heap.objs.size + 4) (s.heap.objs.size + 2) (s.heap.objs.size + 3) s.heap.objs.size (s.heap.objs.size + 1) a b 0 .none → (∀ c o, s.heap.get? c = some o → h'.get? c = some o) → Q (.ref (s.heap.objs.size + 4)) { s with heap := h' }) :
    wpAny (model prog w) A (call (.type "zip") [.ref a, .ref b]) Q E s := by
  refine callType_new F.called_zip (by decide) (F.typeCall_zip_2 _ _) (F.newCall_zip_2 _ _) (fun obj => F.args_object_init_3 obj _ _) F.entry_zip_new (meets_zipK k1 k2 a b xs ys) ⟨ha, hb, ?_⟩
  have n1 : (zG1 s.heap k1 a).objs.size = s.heap.objs.size + 1 := Heap.size_push ..
  have n2 : (zG2 s.heap k1 k2 a b).objs.size = s.heap.objs.size + 2 := by rw [Heap.size_push, n1]
  have n3 : (zG3 s.heap k1 k2 a b).objs.size = s.heap.objs.size + 3 := by rw [Heap.size_push, n2]
  have n4 : (zG4 s.heap k1 k2 a b).objs.size = s.heap.objs.size + 4 := by rw [Heap.size_push, n3]
  have up : ∀ {g : Heap} {o : Obj} {c : Addr} {u : Obj}, g.get? c = some u → (g.push o).get? c = some u := fun e => Heap.get?_push_of_some _ e
  have g5 : (zG5 s.heap k1 k2 a b).get? (zG4 s.heap k1 k2 a b).objs.size = some _ := Heap.get?_push_size _ rfl
  have g4 : (zG5 s.heap k1 k2 a b).get? (zG3 s.heap k1 k2 a b).objs.size = some _ := up (Heap.get?_push_size _ rfl)
  have g3 : (zG5 s.heap k1 k2 a b).get? (zG2 s.heap k1 k2 a b).objs.size = some _ := up (up (Heap.get?_push_size _ rfl))
  have g2 : (zG5 s.heap k1 k2 a b).get? (zG1 s.heap k1 a).objs.size = some (iterObj k2 b) := up (up (up (Heap.get?_push_size _ (by cases k2 <;> rfl))))
  have g1 : (zG5 s.heap k1 k2 a b).get? s.heap.objs.size = some (iterObj k1 a) := up (up (up (up (Heap.get?_push_size _ (by cases k1 <;> rfl)))))
  show _ ∧ _
  rw [n2, n3, n4] at g5
  rw [n1, n2] at g3
  rw [n3] at g4
  rw [n1] at g2
  rw [n4]
  exact ⟨⟨_, g5, rfl⟩, h _ ⟨g5, g3, ⟨_, _, g4⟩, iterObj_is g1, iterObj_is g2⟩ fun c o e => up (up (up (up (up e))))⟩
end

noncomputable def Itz (K : PySem.W.Frag) (k1 k2 : Bool) (a b : Addr) : It :=
  ⟨fun i H => ∃ xs ys x y, SqK k1 K H a xs ∧ SqK k2 K H b ys ∧ xs[i]? = some x ∧ ys[i]? = some y,
   fun i H v H' => ∃ p x y, v = .ref p ∧ H p = none ∧ H' = upd H p (.tup [x, y]) ∧ (∀ xs, SqK k1 K H a xs → xs[i]? = some x) ∧ ∀ ys, SqK k2 K H b ys → ys[i]? = some y,
   fun i H => ∃ xs ys, SqK k1 K H a xs ∧ SqK k2 K H b ys ∧ (xs.length ≤ i ∨ ys.length ≤ i)⟩
theorem turn_zip {P : Program} {w : World} {K : PySem.W.Frag} {elts : List Expr} {c : Nat} {pos : Pos} {k1 k2 : Bool} {z TI TO i1 i2 a b : Addr} (D : ZipFar z TI TO i1 i2) (fa : a ≠ z ∧ a ≠ TO ∧ a ≠ i1 ∧ a ≠ i2) (fb : b ≠ z ∧ b ≠ TO ∧ b ≠ i1 ∧ b ≠ i2) :
    Turn P w K (.Tuple elts c pos) (Itz K k1 k2 a b) [z, TI, TO, i1, i2] z (fun i h => ZipRec h k1 k2 z TI TO i1 i2 a b i .none) where
  mem := by simp
  obj := fun i h st q hq => by
    obtain ⟨zr, zi, ⟨u, v, zo⟩, z1, z2⟩ := st
    simp only [List.mem_cons, List.not_mem_nil, or_false] at hq
    rcases hq with rfl | rfl | rfl | rfl | rfl
    · exact ⟨_, zr, fun v e => nomatch e⟩
    · exact ⟨_, zi, fun v e => nomatch e⟩
    · exact ⟨_, zo, fun v e => nomatch e⟩
    · exact z1.get
    · exact z2.get
  keep := fun i h h' st k => by
    obtain ⟨zr, zi, ⟨u, v, zo⟩, z1, z2⟩ := st
    exact ⟨k _ (by simp) _ zr, k _ (by simp) _ zi, ⟨u, v, k _ (by simp) _ zo⟩, z1.at fun o e => k _ (by simp) o e, z2.at fun o e => k _ (by simp) o e⟩
  item := by
    intro X hP hw hK hc i pins s σ H E I hf st hg
    subst hP hw hK
    obtain ⟨xs, ys, x, y, sa, sb, hx, hy⟩ := hg
    obtain ⟨ia, ra, ha, za⟩ := I.hasK sa
    obtain ⟨ib, rb, hb, zb⟩ := I.hasK sb
    obtain ⟨u, hu, ru⟩ := ra.get hx
    obtain ⟨v, hv, rv⟩ := rb.get hy
    refine nextZip_item D st ha hb fa fb (x := u) (y := v) (by simpa using hu) (by simpa using hv) fun h' Z' t' sz' kp => ?_
    refine ⟨_, rfl, wpAny_letOwnedTupleGo_zip Z'.zr fun h'' z'' sb'' => ?_⟩
    have lt : ∀ {c o}, s.heap.get? c = some o → s.heap.objs.size ≠ c := fun e => Nat.ne_of_gt (Heap.lt_size e)
    have hz : s.heap.objs.size ≠ z := lt st.zr
    have kp2 : ∀ c o, c ∉ [z, TI, TO, i1, i2] → s.heap.get? c = some o → h''.get? c = some o := fun c o hc e => by
      simp only [List.mem_cons, List.not_mem_nil, or_false, not_or] at hc
      exact sb''.extBut _ _ hc.1 (kp c o hc.1 hc.2.2.1 hc.2.2.2.1 hc.2.2.2.2 e)
    have nH : H s.heap.objs.size = none := I.hok.fresh (Nat.le_refl _)
    have frL : ∀ q ∈ [z, TI, TO, i1, i2], H q = none := fun q hq => (hf q hq).1
    have neT : ∀ q u, H q = some u → q ≠ s.heap.objs.size := fun q u e => ne_of_none e nH
    refine ⟨.ref s.heap.objs.size, upd H s.heap.objs.size (.tup [x, y]), ?_, rfl, ⟨_, x, y, rfl, nH, rfl, fun xs' q => by rw [I.sqK_inj q sa]; exact hx, fun ys' q => by rw [I.sqK_inj q sb]; exact hy⟩, ?_, fun q hq => ?_⟩
    · refine Inv.step (s := s) (h' := h'') (g' := s.gens) (d' := s.drawn) (t' := s.toks) (ch := [z, TI, TO, i1, i2]) I (fun q hq => ?_) (fun q o _ _ hc e _ => kp2 q o hc e) (fun q o _ _ hc e _ => ⟨o.slots, kp2 q o hc e⟩) (fun q o hc e n => ?_) (fun q o hc e => ⟨o, kp2 q o hc e⟩)
        (fun q xs e => by rw [upd_ne (neT q _ e)]; exact e) (fun q o u e => by rw [upd_ne (neT q _ e)]; exact e) (fun q ps e => ⟨#[], by rw [upd_ne (neT q _ e), e]; simp⟩) (fun m hm => ?_) (fun q o e => ?_) I.bare
      · exact ⟨(hf q hq).2.2.2.1, (hf q hq).2.1, (hf q hq).2.2.2.2.1, (hf q hq).2.2.2.2.2⟩
      · rw [upd_ne (fun zz => lt e zz.symm)]; exact n
      · obtain ⟨o, es, ep, ho, r⟩ := hm
        exact ⟨o, es, ep, kp2 _ o (fun hq => (hf _ hq).2.1 rfl) ho, r⟩
      · have notin : ∀ q u, H q = some u → q ∉ [z, TI, TO, i1, i2] := fun q u e hq => by rw [frL q hq] at e; cases e
        by_cases hq : q = s.heap.objs.size
        · subst hq
          rw [upd_same] at e
          cases e
          exact ⟨by show 2 ≤ sizeLine; decide, [u, v], .cons ru (.cons rv .nil), ⟨_, sb''.extBut _ _ hz t', rfl, _, rfl⟩⟩
        · rw [upd_ne hq] at e
          refine (I.hok q o e).stay (fun c w' hc r => kp2 c w' ?_ r) (fun c r => by rw [upd_ne (neT c _ r)]; exact r) fun c xs r => by rw [upd_ne (neT c _ r)]; exact r
          rcases hc with rfl | hc
          · exact notin _ _ e
          · exact notin _ _ hc
    · obtain ⟨zr, zi, ⟨u', v', zo⟩, z1, z2⟩ := Z'
      exact ⟨z'', sb''.extBut _ _ D.d1 zi, ⟨u', v', sb''.extBut _ _ D.d2 zo⟩, z1.at fun o e => sb''.extBut _ o D.d3 e, z2.at fun o e => sb''.extBut _ o D.d4 e⟩
    · rw [upd_ne]
      · exact frL q hq
      · obtain ⟨zr, zi, ⟨u', v', zo⟩, z1, z2⟩ := st
        simp only [List.mem_cons, List.not_mem_nil, or_false] at hq
        rcases hq with rfl | rfl | rfl | rfl | rfl
        · exact fun zz => lt zr zz.symm
        · exact fun zz => lt zi zz.symm
        · exact fun zz => lt zo zz.symm
        · obtain ⟨o, e, _⟩ := z1.get; exact fun zz => lt e zz.symm
        · obtain ⟨o, e, _⟩ := z2.get; exact fun zz => lt e zz.symm
  done := by
    intro X hP hw hK hc i pins s σ H E I hf st hg
    subst hP hw hK
    obtain ⟨xs, ys, sa, sb, hx⟩ := hg
    obtain ⟨ia, ra, ha, za⟩ := I.hasK sa
    obtain ⟨ib, rb, hb, zb⟩ := I.hasK sb
    have la := ra.length
    have lb := rb.length
    refine nextZip_end (I.ok.hd hc) D st ha hb fa fb (hx.imp (fun q => by simp; omega) fun q => by simp; omega) fun h' kp => ⟨rfl, ?_⟩
    have kp2 : ∀ c o, c ∉ [z, TI, TO, i1, i2] → s.heap.get? c = some o → h'.get? c = some o := fun c o hc e => by
      simp only [List.mem_cons, List.not_mem_nil, or_false, not_or] at hc
      exact kp c o hc.1 hc.2.2.1 hc.2.2.2.1 hc.2.2.2.2 e
    have notin : ∀ q u, H q = some u → q ∉ [z, TI, TO, i1, i2] := fun q u e hq => by rw [(hf q hq).1] at e; cases e
    refine Inv.step (s := s) (h' := h') (g' := s.gens) (d' := s.drawn) (t' := s.toks) (ch := [z, TI, TO, i1, i2]) I (fun q hq => ?_) (fun q o _ _ hc e _ => kp2 q o hc e) (fun q o _ _ hc e _ => ⟨o.slots, kp2 q o hc e⟩) (fun _ _ _ _ n => n)
      (fun q o hq e => ?_) (fun _ _ e => e) (fun _ _ _ e => e) (fun q ps e => ⟨#[], by rw [e]; simp⟩) (fun m hm => ?_) (fun q o e => ?_) I.bare
    · exact ⟨(hf q hq).2.2.2.1, (hf q hq).2.1, (hf q hq).2.2.2.2.1, (hf q hq).2.2.2.2.2⟩
    · exact ⟨o, kp2 q o hq e⟩
    · obtain ⟨o, es, ep, ho, r⟩ := hm
      exact ⟨o, es, ep, kp2 _ o (fun hq => (hf _ hq).2.1 rfl) ho, r⟩
    · refine (I.hok q o e).stay (fun c w' hc r => kp2 c w' ?_ r) (fun _ r => r) fun _ _ r => r
      rcases hc with rfl | hc
      · exact notin _ _ e
      · exact notin _ _ hc
  self := fun _ _ _ _ _ st h => wpAny_pyIter_zip st.zr h

noncomputable def iZip (K : PySem.W.Frag) (ta : TA) : TI := fun σ H R => ta σ H fun vs H1 => ∃ k1 k2 a b xs ys, vs = [.ref a, .ref b] ∧ SqK k1 K H1 a xs ∧ SqK k2 K H1 b ys ∧ R (Itz K k1 k2 a b) H1
theorem pi_zip {X : Cx} {elts : List Expr} {c : Nat} {tp : Pos} {a b : Expr} {ta : TA} {p pos : Pos} (hg : Gl X "zip") (hm : X.mg "zip" = none) (ha : PA X [a, b] ta) (hs : starEach [a, b] X.env = [(false, eval a X.env), (false, eval b X.env)] := by rfl)
    (hs2 : starEach [b] X.env = [(false, eval b X.env)] := by rfl) : PI X (.Tuple elts c tp) (.Call (.Name "zip" p) [a, b] [] pos) (iZip X.K ta) := by
  intro pins s σ H R I h
  refine Call_ (ld_blt I hg hm (u := .type "zip") (by first | rfl | decide +kernel) (PyProof.Rows.callWith_type1 (thn (ha pos pins s σ H _ I h) fun us s1 x__65 => ?_) (by rw [hs, hs2]) (by rw [hs2]; rfl)))
  obtain ⟨vs, H1, I1, r1, q1⟩ := x__65
  obtain ⟨k1, k2, a, b, xs, ys, e, sa, sb, q⟩ := q1
  subst e
  obtain ⟨u, v, rfl, ru, rv⟩ := vals2 r1
  cases (show u = Value.ref a from ru)
  cases (show v = Value.ref b from rv)
  obtain ⟨ia, ra, ha', za⟩ := I1.hasK sa
  obtain ⟨ib, rb, hb', zb⟩ := I1.hasK sb
  refine call_zipK ha' hb' fun h' Z kp => ?_
  refine wpAny_pyIter_zip Z.zr ?_
  have la : LT.lt (α := Nat) a s1.heap.objs.size := ha'.lt
  have lb : LT.lt (α := Nat) b s1.heap.objs.size := hb'.lt
  generalize hn : s1.heap.objs.size = n at *
  refine ⟨n + 4, [n + 4, n + 2, n + 3, n, n + 1], fun i h => ZipRec h k1 k2 (n + 4) (n + 2) (n + 3) n (n + 1) a b i .none, Itz X.K k1 k2 a b, H1, rfl, I1.kept (t' := s1.toks) kp, turn_zip ?_ ?_ ?_, Z, fun q hq => ?_, q⟩
  · constructor <;> (intro e; have e' : (_ : Nat) = _ := e; omega)
  · refine ⟨?_, ?_, ?_, ?_⟩ <;> (intro e; have e' : (_ : Nat) = _ := e; omega)
  · refine ⟨?_, ?_, ?_, ?_⟩ <;> (intro e; have e' : (_ : Nat) = _ := e; omega)
  · have hq' : s1.heap.objs.size ≤ q := by
      rw [hn]
      simp only [List.mem_cons, List.not_mem_nil, or_false] at hq
      rcases hq with rfl | rfl | rfl | rfl | rfl <;> first | exact Nat.le_refl _ | exact Nat.le_add_right _ _
    exact I1.fpOk hq' (I1.hok.fresh hq')
end L2

namespace L2
open PySem PySem.Spec PyProof.Rows
section
variable {prog : Program} {w : World} {A : Around} {E : Value → Shared → Prop} {s : Shared}
end
structure EnRec (h : Heap) (k : Bool) (e it a : Addr) (i : Nat) : Prop where
  er : ∃ old, IsEnum h e it i old
  ir : IterK k h it a i
end L2

namespace L2
open PySem PySem.Spec PyProof.Rows
section
variable {prog : Program} {w : World} {A : Around} {E : Value → Shared → Prop} {s : Shared}
end
end L2

namespace L2
open PySem PySem.Spec PyProof.Rows
section
variable {prog : Program} {w : World} {A : Around} {E : Value → Shared → Prop} {s : Shared}
theorem draw_list {it t : Addr} {items : Array Value} (hne : t ≠ it) : ∀ (n i : Nat) (s : Shared) (Q : List Value → Shared → Prop), s.heap.IsListIter it t i → s.heap.IsList t items → i + n ≤ items.size →
    (∀ h', h'.IsListIter it t (i + n) → Heap.SameBut it s.heap h' → Q ((items.toList.drop i).take n) { s with heap := h' }) → wpAny (model prog w) A (draw (.ref it) n) Q E s
  | 0, i, s, Q, hit, _, _, hQ => by
    show wpAny _ _ (pure []) Q E s
    exact wpAny_pure (by simpa using hQ s.heap hit (Heap.SameBut.refl ..))
  | n + 1, i, s, Q, hit, ht, hle, hQ => by
    have hlt : i < items.size := by omega
    show wpAny _ _ (pyNext (.ref it) >>= _) Q E s
    refine wpAny_bind (wpAny_pyNext_list_item hit ht (x := items[i]) (by simp [hlt]) fun h₁ hit₁ hs₁ => ?_)
    refine wpAny_bind (wpAny_holding (draw_list hne n (i + 1) _ _ hit₁ (ht.extBut hs₁.extBut hne) (by omega) fun h₂ hit₂ hs₂ => wpAny_pure ?_))
    have hd : items.toList.drop i = items[i] :: items.toList.drop (i + 1) := by simp [List.drop_eq_getElem_cons, hlt]
    have := hQ h₂ (by rw [show i + (n + 1) = i + 1 + n by omega]; exact hit₂) (hs₁.trans hs₂)
    rw [hd, List.take_succ_cons] at this
    exact this
theorem unpackItems_list {t : Addr} {items : Array Value} {Q : List Value → Shared → Prop} (hh : A.handled = none) (ht : s.heap.IsList t items)
    (hQ : ∀ h', Heap.ExtBut s.heap.objs.size s.heap h' → Q items.toList { s with heap := h' }) : wpAny (model prog w) A (unpackItems (.ref t) items.size none) Q E s := by
  have hlt : t ≠ s.heap.objs.size := by obtain ⟨o, ho, _⟩ := ht; exact Nat.ne_of_lt (Heap.lt_size ho)
  unfold unpackItems
  refine wpAny_bind ?_
  · unfold notIterableAtAll
    refine wpAny_bind (wpAny_specialOf ht.typeIs F.slot_list_iter.lookup ?_)
    refine wpAny_pure ?_
    simp only [Bool.false_eq_true, if_false]
    refine wpAny_bind (wpAny_holding (wpAny_pyIter_list ht ?_))
    refine wpAny_bind (wpAny_holding (draw_list hlt items.size 0 _ _ ⟨_, Heap.get?_push_size _ rfl, rfl, rfl⟩ (ht.push _) (by omega) fun h₁ hit₁ hs₁ => ?_))
    have hall : List.take items.size (List.drop 0 items.toList) = items.toList := by
      rw [List.drop_zero]; exact List.take_of_length_le (by simp)
    rw [hall]
    rw [if_neg (by simp)]
    have ht₁ : h₁.IsList t items := (ht.push _).extBut hs₁.extBut hlt
    refine wpAny_bind (wpAny_holding (wpAny_pyNext_list_end hh hit₁ ht₁ (by simp) fun h₂ he₂ => ?_))
    simp only [Option.isSome_none, Bool.false_eq_true, if_false]
    refine wpAny_pure (hQ h₂ fun b o hb e => he₂ b o hb (hs₁.extBut b o hb (Heap.get?_push_of_some _ e)))
theorem assign_Tuple_list {env : Env} {elts : List Expr} {x1 : Nat} {pos : Pos} {t : Addr} {items : Array Value} {Q : Unit → Shared → Prop} (hh : A.handled = none) (ht : s.heap.IsList t items)
    (hn : (assignEach elts env).length = items.size) (hstar : (assignEach elts env).findIdx? (·.1) = none)
    (h : ∀ h', Heap.ExtBut s.heap.objs.size s.heap h' → wpAny (model prog w) A (assignInOrder ((assignEach elts env).map (·.2)) items.toList) Q E { s with heap := h' }) :
    wpAny (model prog w) A (assign (.Tuple elts x1 pos) env (.ref t)) Q E s := by
  rw [assign_Tuple]
  refine wpAny_bind (wpAny_standAt ?_)
  unfold unpack
  rw [hn, hstar]
  exact wpAny_bind (wpAny_holding (unpackItems_list hh ht h))
end
section
variable {X : Cx} {pos : Pos}
noncomputable def gSeqT (K : PySem.W.Frag) (n : Nat) (t : TGs) : TG := fun v σ H Q => ∃ a xs, v = .ref a ∧ (SqT K H a xs ∨ SqL K H a xs) ∧ xs.length = n ∧ t xs σ H Q
theorem pg_seqT {es : List Expr} {k : Nat} {t : TGs} {n : Nat} (hc : X.calm = true) (h : PGs X es t)
    (hn : (assignEach es X.env).length = n := by rfl) (hst : (assignEach es X.env).findIdx? (·.1) = none := by rfl) : PG X (.Tuple es k pos) (gSeqT X.K n t) := by
  intro pins s σ H v u Q I r hw
  obtain ⟨a, xs, e1, hq, hl, hw⟩ := hw
  rcases hq with hq | hq
  · exact pg_tup hc h hn hst pins s σ H v u Q I r ⟨a, xs, e1, hq, hl, hw⟩
  · subst e1
    cases r
    obtain ⟨its, rv, pl, hz⟩ := I.list hq
    refine assign_Tuple_list (I.ok.hd hc) pl.isList (by simp [hn, ← hl, rv.length]) hst fun h' hx => ?_
    have I1 : Inv X pins σ H { s with heap := h' } := I.kept (t' := s.toks) fun b o e => hx b o (Nat.ne_of_lt (Heap.lt_size e)) e
    exact h pins _ σ H xs _ Q I1 (by simpa using rv) hw
end
end L2

namespace L2
open PySem PySem.Spec PyProof.Rows
noncomputable def revT (t : Addr) (i : Int) : Obj := { cls := .type "reversed", data := .fields #[.ref t, rawInt i] }
noncomputable def IsRevT (h : Heap) (it t : Addr) (i : Int) : Prop := h.get? it = some (revT t i)
section
variable {prog : Program} {w : World} {A : Around} {E : Value → Shared → Prop} {s : Shared}
end
noncomputable def RevAt (k : Bool) (h : Heap) (it a : Addr) (i : Int) : Prop := if k = true then h.IsRevIter it a i else IsRevT h it a i
theorem RevAt.at {k : Bool} {h h' : Heap} {it a : Addr} {i : Int} (x : RevAt k h it a i) (e : ∀ o, h.get? it = some o → h'.get? it = some o) : RevAt k h' it a i := by
  cases k with
  | true => exact Heap.IsRevIter.at (show h.IsRevIter it a i from x) e
  | false => exact e _ (show IsRevT h it a i from x)
theorem RevAt.get {k : Bool} {h : Heap} {it a : Addr} {i : Int} (x : RevAt k h it a i) : ∃ o n vs, h.get? it = some o ∧ o.cls = .type n ∧ o.data = .fields vs ∧ (["enumerate", "zip", "dict_itemiterator", "dict_reverseitemiterator", "odict_iterator", "itertools.zip_longest", "itertools.pairwise"].contains n = false) := by
  cases k with
  | true => obtain ⟨o, e, c, d⟩ := (show h.IsRevIter it a i from x); exact ⟨o, _, _, e, c, d, by decide⟩
  | false => exact ⟨_, "reversed", _, (show IsRevT h it a i from x), rfl, rfl, by decide⟩
end L2

namespace L2
open PySem PySem.Spec PyProof.Rows
structure ZipRec2 (h : Heap) (k1 k2 : Bool) (z TI TO i1 i2 a b : Addr) (n : Nat) (B : Addr) : Prop where
  zr : ∃ f1 : Bool, h.get? z = some { cls := .type "zip", data := .fields #[rawInt B, .bool f1, .bool false, .ref TI, .ref TO] }
  pi : IsPair h TI (.ref i1) (.ref i2)
  it1 : IterK k1 h i1 a n
  it2 : IterK k2 h i2 b n
  bl : ∃ o, h.get? B = some o
section
variable {prog : Program} {w : World} {A : Around} {E : Value → Shared → Prop} {s : Shared} {k1 k2 : Bool} {z TI TO i1 i2 a b B : Addr} {n : Nat} {xs ys : Array Value}
end
structure ZipAcc (h0 h : Heap) (k1 k2 : Bool) (z TI TO i1 i2 a b S N : Addr) (xs ys : Array Value) (i : Nat) : Prop where
  sz : h.objs.size = N + i
  zr : (i = 0 ∧ ZipRec h k1 k2 z TI TO i1 i2 a b 0 .none) ∨ (0 < i ∧ ZipRec2 h k1 k2 z TI TO i1 i2 a b i N)
  ha : HasK k1 h a xs
  hb : HasK k2 h b ys
  ps : ∀ j, j < i → ∃ x y, xs[j]? = some x ∧ ys[j]? = some y ∧ IsPair h (N + j) x y
  ls : ∃ c, h.get? S = some { cls := .type "list", data := .seq ((List.range i).map fun j => Value.ref (N + j)).toArray c }
  kp : ∀ c o, c ≠ z → c ≠ TO → c ≠ i1 → c ≠ i2 → c ≠ S → h0.get? c = some o → h.get? c = some o
section
variable {prog : Program} {w : World} {A : Around} {R : Result → Shared → Prop} {k1 k2 : Bool} {z TI TO i1 i2 a b S N : Addr} {xs ys : Array Value} {h0 : Heap}
end
noncomputable def laid (H : Hp) (N : Addr) : List (V × V) → Hp
  | [] => H
  | p :: r => laid (upd H N (.tup [p.1, p.2])) (N + 1) r
section
variable {X : Cx} {pins : List (Addr × Obj)} {σ : St} {s : Shared}
theorem Inv.pairs {m : Addr} (hm : X.s₀.heap.objs.size ≤ m) : ∀ {l : List (V × V)} {H : Hp} {N : Addr}, Inv X pins σ H s → LE.le (α := Nat) m N → (∀ j, j < l.length → FpOk X pins H (N + j)) → (∀ j p, l[j]? = some p → ∃ u v, RelV p.1 u ∧ RelV p.2 v ∧ IsPair s.heap (N + j) u v) → Inv X pins σ (L2.laid H N l) s
  | [], _, _, I, _, _, _ => I
  | p :: r, H, N, I, hN, hf, ho => by
    have f := hf 0 (by simp)
    obtain ⟨u, v, r1, r2, pr⟩ := ho 0 p rfl
    have I1 : Inv X pins σ (upd H N (.tup [p.1, p.2])) s := I.track (t' := s.toks) f.1 f.2.1 (Nat.le_trans hm hN) f.2.2.2.2.1 f.2.2.2.2.2 ⟨by show 2 ≤ sizeLine; decide, [u, v], .cons r1 (.cons r2 .nil), ⟨_, pr, rfl, _, rfl⟩⟩
    rw [L2.laid]
    refine Inv.pairs hm (l := r) I1 (Nat.le_succ_of_le hN) (fun j hj => ?_) fun j q hq => ?_
    · have g := hf (j + 1) (by simpa using hj)
      rw [show N + (j + 1) = N + 1 + j from by rw [Nat.add_assoc, Nat.add_comm 1 j]] at g
      refine ⟨?_, g.2⟩
      rw [upd_ne (show N + 1 + j ≠ N from (Nat.ne_of_gt (Nat.lt_of_lt_of_le (Nat.lt_succ_self N) (Nat.le_add_right _ _)) : (N + 1 + j : Nat) ≠ N))]
      exact g.1
    · have g := ho (j + 1) q (by simpa using hq)
      rwa [show N + (j + 1) = N + 1 + j from by rw [Nat.add_assoc, Nat.add_comm 1 j]] at g
end
end L2

namespace L2
open PySem PySem.Spec PyProof.Rows
theorem ObjOk.there {P : Program} {w : World} {H : Hp} {h : Heap} {a : Addr} {o : HO} (x : ObjOk P w H h a o) : ∃ u, h.get? a = some u := by
  cases o with
  | lst xs => obtain ⟨_, _, _, _, e⟩ := x; exact ⟨_, e⟩
  | tup xs => obtain ⟨_, _, _, ob, e, _⟩ := x; exact ⟨_, e⟩
  | dK kvs => obtain ⟨_, _, _, _, o, _, _, e, _⟩ := x; exact ⟨_, e⟩
  | dT kvs => obtain ⟨_, _, _, _, o, _, _, e, _⟩ := x; exact ⟨_, e⟩
  | set S n => obtain ⟨o, _, _, _, e, _⟩ := x; exact ⟨_, e⟩
  | ins C dx fs => obtain ⟨_, _, _, e, _⟩ := x; exact ⟨_, e⟩
  | own y => obtain ⟨_, e⟩ := x; exact ⟨_, e⟩
  | xd fs => obtain ⟨_, ⟨_, _, _, e, _⟩, _⟩ := x; exact ⟨_, e⟩
  | rng lo hi => obtain ⟨_, _, _, e⟩ := x; exact ⟨_, e⟩
  | frz ob u => obtain ⟨e, _⟩ := x; exact ⟨_, e⟩
  | tbl ps => exact ⟨_, show h.get? a = some _ from x⟩
  | met f y => exact ⟨_, show h.get? a = some _ from x⟩
  | ext φ => obtain ⟨_, ⟨_, e⟩, _⟩ := x; exact ⟨_, e⟩
section
variable {M : Model} {A : Around} {E : Value → Shared → Prop} {s : Shared} {base : Heap} {env : Env} {outer : List Env} {L e : Addr} {oe : Obj} {vs : Array Value} {Q : Unit → Shared → Prop}
structure Entry (h h' : Heap) (l : List Env) (e T : Addr) (oe : Obj) (fl : Value) : Prop where
  keep : ∀ b o, b ≠ e → b ∉ frs l → h.get? b = some o → h'.get? b = some o
  slot : ∀ b o, b ∈ frs l → h.get? b = some o → ∃ sl, h'.get? b = some { o with slots := sl }
  new : h.get? T = none
  ne : T ≠ e
  exc : h'.get? e = some (Obj.mapFields (·.setIfInBounds 1 (.ref T)) oe)
  tb : ∃ oT ts, h'.get? T = some oT ∧ oT.data = .fields ts ∧ ts[3]? = some fl
end
inductive TrT (h : Heap) (a T : Addr) (cls : Value) : Prop
  | mk (oe : Obj) (vs : Array Value) (oT : Obj) (ts : Array Value) (h0 : h.get? a = some oe) (h1 : oe.cls = cls) (h2 : oe.dict = none) (h3 : oe.data = .fields vs) (h4 : vs[1]? = some (.ref T)) (h5 : T ≠ a) (h6 : h.get? T = some oT) (h7 : oT.data = .fields ts) (h8 : ts[3]? = some .none)
structure Mark (h h' : Heap) (l : List Env) (e T0 T : Addr) (cls : Value) : Prop where
  keep : ∀ b o, b ≠ e → b ≠ T0 → b ∉ frs l → h.get? b = some o → h'.get? b = some o
  slot : ∀ b o, b ∈ frs l → h.get? b = some o → ∃ sl, h'.get? b = some { o with slots := sl }
  new : h.get? T = none
  tr : TrT h' e T cls
section
variable {M : Model} {A : Around} {E : Value → Shared → Prop} {s : Shared} {base : Heap} {env : Env} {outer : List Env} {L e T0 : Addr} {oe : Obj} {vs : Array Value} {cls : Value} {Q : Unit → Shared → Prop}
end
inductive Flew (P : Program) (w : World) (base : Heap) (outer : List Env) (H0 : Hp) (s0 : Shared) (E : XK) (e : Value) (s' : Shared) : Prop
  | mk (a : Addr) (cls : Value) (H' : Hp) (h0 : e = .ref a) (h1 : E cls none H') (h2 : s'.os = s0.os) (h3 : AllBare s'.gens) (h4 : Un (frs outer) [] H0 H' s0.heap s'.heap) (h5 : HOk P w H' s'.heap)
    (T : Addr) (h6 : TrT s'.heap a T cls) (h7 : H' a = none) (h8 : s0.heap.get? a = none) (h9 : s0.heap.get? T = none) (h10 : s'.heap.FunFrames base outer) (h11 : H' T = none)
section
variable {X : Cx} {pins : List (Addr × Obj)} {σ : St} {H : Hp} {s : Shared} {h' : Heap} {e : Addr} {cls : Value} {args : List Value} {E : XK} {E' : Value → Shared → Prop}
end
section
variable {X : Cx} {x z : Str} {C : Addr} {B newId initId : String} {bmB : List Value} {np cpos pos p2 : Pos} {j : Nat}
noncomputable def tRaise (X : Cx) (C : Addr) : TS := fun _ σ H => ∀ pins s h' e args, Inv X pins σ H s → Heap.MadeExcOf s.heap h' e (.ref C) args → X.xe (.ref e) { s with heap := h' }
end
section
variable {X : Cx} {pins : List (Addr × Obj)} {σ : St} {H : Hp} {h3 : Heap} {s' : Shared} {a T C' : Addr} {cls : Value} {c n y : Str} {ie iy : Nat} {np p1 p2 p3 pos : Pos} {Q : Flow → Shared → Prop} {E' : Value → Shared → Prop}
end
section
variable {X : Cx} {k ie iy : Nat} {f C C' : Addr} {fd : FuncData} {ps : List Str} {sp : Sp} {x c n y : Str} {p cpos xpos np p1 p2 p3 pos1 pos : Pos} {e : Expr} {es : List Expr} {t : TA}
end
section
variable {prog : Program} {w : World} {A : Around} {E : Value → Shared → Prop} {s : Shared} {K : PySem.W.Frag} {x D : Addr}
open PySem.W in
open PySem.W in
end
structure ExcK (K : PySem.W.Frag) (D : Addr) : Prop where
  hg : PySem.W.findIn K (.ref D) "__getattribute__" = some (some (.builtin "BaseException.__getattribute__"))
  hno : PySem.W.findIn K (.ref D) "__getattr__" = some none
  hb : PySem.W.mroIn K D (.type "BaseException") = some true
  hdct : PySem.W.hasDictIn K D = true
  ha : PySem.W.findIn K (.ref D) "__class__" = some (some (.builtin "object.__class__"))
  hn : PySem.W.specialIn K (.builtin "object.__class__") "__get__" = some (some (.builtin "getset_descriptor.__get__"))
  htk : PySem.W.takesIn K (.builtin "object.__class__") = some true
  hm : PySem.W.mroIn K D (.type "object") = some true
end L2

namespace L2
open PySem PySem.Spec PyProof.Rows
noncomputable def compCxC (X : Cx) (scope : Scope) (cl : List (Str × Addr)) (N : List Str) (x0 : Str) (C : Addr) (s : Shared) (H : Hp) (ex : List Addr) : Cx := { compCx X scope ((x0, C + 1) :: cl) N C s H ex with fn := fun x => x == x0 }
structure CompOkC (X : Cx) (scope : Scope) (cl : List (Str × Addr)) (N : List Str) (k : Nat) (fr : List Nat) (x0 : Str) : Prop where
  kind : scope.kind = .function
  names : ∀ y ∈ scope.names, y.2 = .local → scope.names.lookup y.1 = some .local
  lay : ∀ n acc, cellsFrom n scope.names acc = (x0, n) :: acc
  push : ∀ h, pushCells h scope.names = h.push { cls := .type "cell", data := .cell none }
  clos : closureFor scope X.env = pure cl
  sub : ∀ x c, cl.lookup x = some c → X.env.cells.lookup x = some c
  has : ∀ x, x ≠ x0 → ((relabel scope X.env).names.lookup x = some .cell ∨ (relabel scope X.env).names.lookup x = some .free) → ∃ c, cl.lookup x = some c
  len : N.length = k + fr.length
  free : ∀ (t j : Nat) (x : Str), fr[t]? = some j → N[k + t]? = some x → x ≠ x0 ∧ X.N[j]? = some x ∧ Vis X.env.scope x ∧ (∃ c, cl.lookup x = some c) ∧ ((relabel scope X.env).names.lookup x = some .cell ∨ (relabel scope X.env).names.lookup x = some .free) ∧ ¬ X.env.scope.names.lookup x = some .local
section
variable {X : Cx} {pins : List (Addr × Obj)} {σ : St} {H : Hp} {s : Shared}
end
end L2

namespace L3
open PySem L2 PySem.Spec PyProof.Rows
theorem bnd1 {α γ : Type} {x : Option α} {f : α → Option γ} {r : γ} {Q : Prop} (e : x.bind f = some r) (h : ∀ p, x = some p → f p = some r → Q) : Q := by
  cases x with
  | none => cases e
  | some p => exact h p rfl e
theorem bnd2 {α β γ : Type} {x : Option (α × β)} {f : α × β → Option γ} {r : γ} {Q : Prop} (e : x.bind f = some r) (h : ∀ d s, x = some (d, s) → f (d, s) = some r → Q) : Q := bnd1 e fun p => h p.1 p.2
theorem mpp1 {α γ : Type} {x : Option α} {f : α → γ} {r : γ} {Q : Prop} (e : x.map f = some r) (h : ∀ p, x = some p → f p = r → Q) : Q := by
  cases x with
  | none => cases e
  | some p => exact h p rfl (Option.some.inj e)
theorem mpp2 {α β γ : Type} {x : Option (α × β)} {f : α × β → γ} {r : γ} {Q : Prop} (e : x.map f = some r) (h : ∀ d s, x = some (d, s) → f (d, s) = r → Q) : Q := mpp1 e fun p => h p.1 p.2

noncomputable abbrev D := PyData
noncomputable abbrev Zt := Option (Addr × Addr)
noncomputable abbrev Sx := List Int × Int
noncomputable def NotZ (Z : Zt) (p : Addr) : Prop := ∀ a c, Z = some (a, c) → p ≠ a ∧ p ≠ c
noncomputable def stDict (c : Addr) (t : Int) : List (Key × V) := [(Sum.inr "cells", .ref c), (Sum.inr "turn", .int t)]
noncomputable def StateAt (Z : Zt) (H : Hp) (s : Sx) : Prop := ∀ a c, Z = some (a, c) → H a = some (.dK (stDict c s.2)) ∧ H c = some (.lst (s.1.map V.int))
noncomputable def Ext (Z : Zt) (H H' : Hp) : Prop := ∀ b o, H b = some o → NotZ Z b → H' b = some o
theorem Ext.refl {Z : Zt} (H : Hp) : Ext Z H H := fun _ _ e _ => e
theorem Ext.trans {Z : Zt} {H H1 H2 : Hp} (a : Ext Z H H1) (b : Ext Z H1 H2) : Ext Z H H2 := fun c o e n => b c o (a c o e n) n
theorem Ext.upd {Z : Zt} {H : Hp} {p : Addr} {o : HO} (h : H p = none) : Ext Z H (upd H p o) := fun b u e _ => by rw [upd_ne (ne_of_none e h)]; exact e
theorem StateAt.upd {Z : Zt} {H : Hp} {s : Sx} {p : Addr} {o : HO} (S : StateAt Z H s) (h : H p = none) : StateAt Z (upd H p o) s := fun a c e =>
  ⟨by rw [upd_ne (ne_of_none (S a c e).1 h)]; exact (S a c e).1, by rw [upd_ne (ne_of_none (S a c e).2 h)]; exact (S a c e).2⟩
theorem StateAt.notZ {Z : Zt} {H : Hp} {s : Sx} {p : Addr} (S : StateAt Z H s) (h : H p = none) : NotZ Z p := fun a c e => ⟨Ne.symm (ne_of_none (S a c e).1 h), Ne.symm (ne_of_none (S a c e).2 h)⟩

noncomputable def ModT (K : PySem.W.Frag) (p : Addr) (vs : List V) : Prop := ∃ (o : Obj) (its : Array Value) (n : Nat), K.lookup p = some o ∧ o.cls = .type "tuple" ∧ o.data = .seq its n ∧ its.size ≤ sizeLine ∧ Vals vs its.toList
mutual
inductive Rep (K : PySem.W.Frag) (Z : Zt) (H : Hp) (A : List Addr) : V → D → Prop
  | non : Rep K Z H A .non .none
  | bl (b : Bool) : Rep K Z H A (.bl b) (.bool b)
  | int (i : Int) : Rep K Z H A (.int i) (.int i)
  | str (x : Str) : Rep K Z H A (.str x) (.str x)
  | tup {p : Addr} {vs : List V} {ds : List D} : H p = some (.tup vs) → ¬ p ∈ A → NotZ Z p → Reps K Z H A vs ds → Rep K Z H A (.ref p) (.tuple ds)
  | lst {p : Addr} {vs : List V} {ds : List D} : H p = some (.lst vs) → ¬ p ∈ A → NotZ Z p → Reps K Z H A vs ds → Rep K Z H A (.ref p) (.list ds)
  | mod {p : Addr} {vs : List V} {ds : List D} : ModT K p vs → Reps K Z H A vs ds → Rep K Z H A (.ref p) (.tuple ds)
  | st {a c : Addr} : Z = some (a, c) → Rep K Z H A (.ref a) (.dict [])
  | obj {p C dx : Addr} {c : Str} {ns : List Str} {vs : List V} {ds : List D} : PySem.W.nsIn K mainGlobals c = some (some (.ref C)) → H p = some (.ins C dx (ns.zip vs)) → ¬ p ∈ A → NotZ Z p → Reps K Z H A vs ds →
      Rep K Z H A (.ref p) (.dict ((.str "", .str c) :: (ns.map PyData.str).zip ds))
inductive Reps (K : PySem.W.Frag) (Z : Zt) (H : Hp) (A : List Addr) : List V → List D → Prop
  | nil : Reps K Z H A [] []
  | cons {v : V} {d : D} {vs : List V} {ds : List D} : Rep K Z H A v d → Reps K Z H A vs ds → Reps K Z H A (v :: vs) (d :: ds)
end

section
variable {K : PySem.W.Frag} {Z : Zt} {H H' : Hp} {A A' : List Addr}
theorem Reps.move (hm : ∀ p o, H p = some o → ¬ p ∈ A → NotZ Z p → H' p = some o ∧ ¬ p ∈ A') {vs : List V} {ds : List D} (r : Reps K Z H A vs ds) : Reps K Z H' A' vs ds :=
  Reps.rec (motive_1 := fun v d _ => Rep K Z H' A' v d) (motive_2 := fun vs ds _ => Reps K Z H' A' vs ds) .non .bl .int .str
    (fun h n z _ r => .tup (hm _ _ h n z).1 (hm _ _ h n z).2 z r) (fun h n z _ r => .lst (hm _ _ h n z).1 (hm _ _ h n z).2 z r) (fun h _ r => .mod h r) (fun h => .st h)
    (fun k h n z _ r => .obj k (hm _ _ h n z).1 (hm _ _ h n z).2 z r) .nil (fun _ _ r t => .cons r t) r
theorem Reps.head {v : V} {d : D} {vs : List V} {ds : List D} (r : Reps K Z H A (v :: vs) (d :: ds)) : Rep K Z H A v d := by
  cases r with
  | cons r _ => exact r
theorem Rep.move (hm : ∀ p o, H p = some o → ¬ p ∈ A → NotZ Z p → H' p = some o ∧ ¬ p ∈ A') {v : V} {d : D} (r : Rep K Z H A v d) : Rep K Z H' A' v d := Reps.head (Reps.move hm (.cons r .nil))
theorem Rep.ext {v : V} {d : D} (r : Rep K Z H A v d) (e : Ext Z H H') : Rep K Z H' A v d := r.move fun p o h n z => ⟨e p o h z, n⟩
theorem Reps.ext {vs : List V} {ds : List D} (r : Reps K Z H A vs ds) (e : Ext Z H H') : Reps K Z H' A vs ds := r.move fun p o h n z => ⟨e p o h z, n⟩
theorem Rep.sub {v : V} {d : D} (r : Rep K Z H A v d) (e : ∀ q ∈ A', q ∈ A) : Rep K Z H A' v d := r.move fun p o h n z => ⟨h, fun q => n (e _ q)⟩
theorem Reps.sub {vs : List V} {ds : List D} (r : Reps K Z H A vs ds) (e : ∀ q ∈ A', q ∈ A) : Reps K Z H A' vs ds := r.move fun p o h n z => ⟨h, fun q => n (e _ q)⟩
theorem Reps.length {vs : List V} {ds : List D} (h : Reps K Z H A vs ds) : vs.length = ds.length := by
  induction vs generalizing ds with
  | nil => cases h; rfl
  | cons v vs ih =>
    cases h with
    | cons _ t => exact congrArg (· + 1) (ih t)
theorem Reps.get : ∀ {vs : List V} {ds : List D} {i : Nat} {d : D}, Reps K Z H A vs ds → ds[i]? = some d → ∃ v, vs[i]? = some v ∧ Rep K Z H A v d
  | _, _, _, _, .nil, e => by simp at e
  | _, _, 0, _, .cons r _, e => by simp at e; subst e; exact ⟨_, rfl, r⟩
  | _, _, i + 1, d, .cons _ t, e => by
    obtain ⟨u, h1, h2⟩ := Reps.get (i := i) (d := d) t (by simpa using e)
    exact ⟨u, by simpa using h1, h2⟩
theorem Reps.at : ∀ {vs : List V} {ds : List D} {i : Nat} {v : V}, Reps K Z H A vs ds → vs[i]? = some v → ∃ d, ds[i]? = some d ∧ Rep K Z H A v d
  | _, _, _, _, .nil, e => by simp at e
  | _, _, 0, _, .cons r _, e => by simp at e; subst e; exact ⟨_, rfl, r⟩
  | _, _, i + 1, v, .cons _ t, e => by
    obtain ⟨u, h1, h2⟩ := Reps.at (i := i) (v := v) t (by simpa using e)
    exact ⟨u, by simpa using h1, h2⟩
theorem Reps.append {vs ws : List V} {ds es : List D} (h : Reps K Z H A vs ds) (s : Reps K Z H A ws es) : Reps K Z H A (vs ++ ws) (ds ++ es) := by
  induction vs generalizing ds with
  | nil => cases h; exact s
  | cons v vs ih =>
    cases h with
    | cons r t => exact .cons r (ih t)
theorem Reps.take : ∀ {vs : List V} {ds : List D} (n : Nat), Reps K Z H A vs ds → Reps K Z H A (vs.take n) (ds.take n)
  | _, _, 0, _ => .nil
  | _, _, _ + 1, .nil => .nil
  | _, _, n + 1, .cons r t => .cons r (Reps.take n t)
theorem Reps.drop : ∀ {vs : List V} {ds : List D} (n : Nat), Reps K Z H A vs ds → Reps K Z H A (vs.drop n) (ds.drop n)
  | _, _, 0, r => r
  | _, _, _ + 1, .nil => .nil
  | _, _, n + 1, .cons _ t => Reps.drop n t
theorem Reps.set {v : V} {d : D} (r : Rep K Z H A v d) : ∀ {vs : List V} {ds : List D} (i : Nat), Reps K Z H A vs ds → Reps K Z H A (vs.set i v) (ds.set i d)
  | _, _, _, .nil => .nil
  | _, _, 0, .cons _ t => .cons r t
  | _, _, i + 1, .cons q t => .cons q (Reps.set r i t)
theorem Reps.rep (k : Nat) {vs : List V} {ds : List D} (h : Reps K Z H A vs ds) : Reps K Z H A (List.replicate k vs).flatten (List.replicate k ds).flatten := by
  induction k with
  | zero => exact .nil
  | succ k ih => rw [List.replicate_succ, List.replicate_succ, List.flatten_cons, List.flatten_cons]; exact h.append ih
theorem Reps.dropLast : ∀ {vs : List V} {ds : List D}, Reps K Z H A vs ds → Reps K Z H A vs.dropLast ds.dropLast := fun {vs ds} h => by
  rw [List.dropLast_eq_take, List.dropLast_eq_take, h.length]; exact h.take _
theorem fresh_not {p : Addr} (hA : ∀ q ∈ A, ∃ o, H q = some o) (h : H p = none) : ¬ p ∈ A := fun m => by
  obtain ⟨o, e⟩ := hA p m
  rw [h] at e; cases e
end

noncomputable def RepW (K : PySem.W.Frag) (Z : Zt) (H : Hp) (A : List Addr) (v : V) (d : D) : Prop :=
  Rep K Z H A v d ∨ ∃ p vs ds, v = .ref p ∧ d = .list ds ∧ H p = some (.lst vs) ∧ NotZ Z p ∧ Reps K Z H A vs ds
section
variable {K : PySem.W.Frag} {Z : Zt} {H H' : Hp} {A A' : List Addr} {v : V} {d : D}
theorem Rep.w (r : Rep K Z H A v d) : RepW K Z H A v d := .inl r
theorem RepW.ext (r : RepW K Z H A v d) (e : Ext Z H H') : RepW K Z H' A v d := by
  rcases r with r | ⟨p, vs, ds, e1, e2, e3, e4, e5⟩
  · exact .inl (r.ext e)
  · exact .inr ⟨p, vs, ds, e1, e2, e _ _ e3 e4, e4, e5.ext e⟩
theorem RepW.list {ds : List D} (r : RepW K Z H A v (.list ds)) : ∃ p vs, v = .ref p ∧ SqL K H p vs ∧ NotZ Z p ∧ Reps K Z H A vs ds := by
  rcases r with r | ⟨p, vs, ds, e1, e2, e3, e4, e5⟩
  · cases r with
    | lst h n z q => exact ⟨_, _, rfl, .of h, z, q⟩
  · cases e2; exact ⟨p, vs, e1, .of e3, e4, e5⟩
theorem RepW.tuple {ds : List D} (r : RepW K Z H A v (.tuple ds)) : ∃ p vs, v = .ref p ∧ SqT K H p vs ∧ Reps K Z H A vs ds := by
  rcases r with r | ⟨p, vs, ds, e1, e2, e3, e4, e5⟩
  · cases r with
    | tup h n z q => exact ⟨_, _, rfl, .of h, q⟩
    | mod h q => exact ⟨_, _, rfl, .inr h, q⟩
  · cases e2
theorem RepW.int {i : Int} (r : RepW K Z H A v (.int i)) : v = .int i := by
  rcases r with r | ⟨p, vs, ds, e1, e2, e3, e4, e5⟩
  · cases r; rfl
  · cases e2
theorem RepW.bool {i : Bool} (r : RepW K Z H A v (.bool i)) : v = .bl i := by
  rcases r with r | ⟨p, vs, ds, e1, e2, e3, e4, e5⟩
  · cases r; rfl
  · cases e2
theorem RepW.str {i : Str} (r : RepW K Z H A v (.str i)) : v = .str i := by
  rcases r with r | ⟨p, vs, ds, e1, e2, e3, e4, e5⟩
  · cases r; rfl
  · cases e2
theorem RepW.none (r : RepW K Z H A v .none) : v = .non := by
  rcases r with r | ⟨p, vs, ds, e1, e2, e3, e4, e5⟩
  · cases r; rfl
  · cases e2
end

inductive Ce where
  | non | val (d : D) | own (xs : List D)
noncomputable abbrev Sl := List Ce
noncomputable abbrev Ow := List (Nat × Addr)
inductive ValAt (K : PySem.W.Frag) (Z : Zt) (A : List Addr) (ow : Ow) (σ : L2.St) (H : Hp) (i : Nat) (d : D) : Prop
  | mk (v : V) (h0 : σ[i]? = some (some v)) (h1 : Rep K Z H (A ++ ow.map (·.2)) v d)
inductive OwnAt (K : PySem.W.Frag) (Z : Zt) (A : List Addr) (ow : Ow) (σ : L2.St) (H : Hp) (i : Nat) (xs : List D) : Prop
  | mk (p : Addr) (vs : List V) (h0 : (i, p) ∈ ow) (h1 : σ[i]? = some (some (.ref p))) (h2 : H p = some (.lst vs)) (h3 : Reps K Z H (A ++ ow.map (·.2)) vs xs)
structure RepS (K : PySem.W.Frag) (B : Hp) (Z : Zt) (A : List Addr) (ow : Ow) (σ : L2.St) (δ : Sl) (H : Hp) : Prop where
  ok : ∀ q ∈ A, (∃ o, H q = some o) ∧ NotZ Z q
  ext : Ext Z B H
  len : δ.length = σ.length
  val : ∀ (i : Nat) (d : D), δ[i]? = some (.val d) → ValAt K Z A ow σ H i d
  own : ∀ (i : Nat) (xs : List D), δ[i]? = some (.own xs) → OwnAt K Z A ow σ H i xs
  ows : ∀ i p, (i, p) ∈ ow → B p = none ∧ (∃ vs, H p = some (.lst vs)) ∧ NotZ Z p ∧ ¬ p ∈ A
  inj : ∀ i j p, (i, p) ∈ ow → (j, p) ∈ ow → i = j
section
variable {K : PySem.W.Frag} {B : Hp} {Z : Zt} {A : List Addr} {ow : Ow} {σ : L2.St} {δ : Sl} {H H' : Hp}
theorem RepS.mono (R : RepS K B Z A ow σ δ H) (e : Ext Z H H') : RepS K B Z A ow σ δ H' where
  ok := fun q hq => ⟨let ⟨o, h⟩ := (R.ok q hq).1; ⟨o, e q o h (R.ok q hq).2⟩, (R.ok q hq).2⟩
  ext := R.ext.trans e
  len := R.len
  val := fun i d h => let ⟨v, a, b⟩ := R.val i d h; ⟨v, a, b.ext e⟩
  own := fun i xs h => let ⟨p, vs, a, b, c, d⟩ := R.own i xs h; ⟨p, vs, a, b, e p _ c (R.ows i p a).2.2.1, d.ext e⟩
  ows := fun i p h => let ⟨a, ⟨o, b⟩, c, d⟩ := R.ows i p h; ⟨a, ⟨o, e p _ b c⟩, c, d⟩
  inj := R.inj
theorem RepS.all (R : RepS K B Z A ow σ δ H) : ∀ q ∈ A ++ ow.map (·.2), ∃ o, H q = some o := fun q hq => by
  rcases List.mem_append.mp hq with h | h
  · exact (R.ok q h).1
  · obtain ⟨⟨i, p⟩, hp, rfl⟩ := List.mem_map.mp h
    obtain ⟨vs, h⟩ := (R.ows i p hp).2.1
    exact ⟨_, h⟩
end

noncomputable def Frm (Z : Zt) (ow : Ow) (H : Hp) (ow' : Ow) (H' : Hp) : Prop := ∀ b o, H b = some o → NotZ Z b → ¬ b ∈ ow.map (·.2) → H' b = some o ∧ ¬ b ∈ ow'.map (·.2)
theorem Frm.ext {Z : Zt} {ow : Ow} {H H' : Hp} (e : Ext Z H H') : Frm Z ow H ow H' := fun b o h n m => ⟨e b o h n, m⟩
theorem Frm.refl {Z : Zt} {ow : Ow} {H : Hp} : Frm Z ow H ow H := fun _ _ h _ m => ⟨h, m⟩
theorem Frm.trans {Z : Zt} {o1 o2 o3 : Ow} {H1 H2 H3 : Hp} (a : Frm Z o1 H1 o2 H2) (b : Frm Z o2 H2 o3 H3) : Frm Z o1 H1 o3 H3 := fun c o h n m => let ⟨h', m'⟩ := a c o h n m; b c o h' n m'
section
variable {K : PySem.W.Frag} {Z : Zt} {H H' : Hp} {A : List Addr} {ow ow' : Ow}
theorem rd_frm {p : Addr} {u : HO} (h : H p = some u) (f : Frm Z ow H ow' H') (n : NotZ Z p) (m : ¬ p ∈ A ++ ow.map (·.2)) : H' p = some u ∧ ¬ p ∈ A ++ ow'.map (·.2) := by
  have m1 : ¬ p ∈ A := fun q => m (List.mem_append_left _ q)
  have m2 : ¬ p ∈ ow.map (·.2) := fun q => m (List.mem_append_right _ q)
  exact ⟨(f _ _ h n m2).1, fun q => (List.mem_append.mp q).elim m1 (f _ _ h n m2).2⟩
theorem Rep.frm {v : V} {d : D} (r : Rep K Z H (A ++ ow.map (·.2)) v d) (f : Frm Z ow H ow' H') : Rep K Z H' (A ++ ow'.map (·.2)) v d := r.move fun p o h n z => rd_frm h f z n
theorem Reps.frm {vs : List V} {ds : List D} (r : Reps K Z H (A ++ ow.map (·.2)) vs ds) (f : Frm Z ow H ow' H') : Reps K Z H' (A ++ ow'.map (·.2)) vs ds := r.move fun p o h n z => rd_frm h f z n
end

noncomputable abbrev FE := Sl → Sx → Option (D × Sx)
noncomputable abbrev FT := Sl → Sx → Option (Bool × Sx)
noncomputable abbrev FA := Sl → Sx → Option (List D × Sx)
inductive tDK (K : PySem.W.Frag) (Z : Zt) (A : List Addr) (F : FE) (σ : L2.St) (H : Hp) (Q : VK) : Prop
  | mk (B : Hp) (ow : Ow) (δ : Sl) (s : Sx) (d : D) (s' : Sx) (h0 : RepS K B Z A ow σ δ H) (h1 : StateAt Z H s) (h2 : F δ s = some (d, s')) (h3 : ∀ v H', Ext Z H H' → StateAt Z H' s' → Rep K Z H' (A ++ ow.map (·.2)) v d → Q v H')
noncomputable abbrev tD (X : Cx) (Z : Zt) (A : List Addr) (F : FE) : TE := tDK X.K Z A F
inductive tDTK (K : PySem.W.Frag) (Z : Zt) (A : List Addr) (F : FT) (σ : L2.St) (H : Hp) (Q : Bool → Hp → Prop) : Prop
  | mk (B : Hp) (ow : Ow) (δ : Sl) (s : Sx) (b : Bool) (s' : Sx) (h0 : RepS K B Z A ow σ δ H) (h1 : StateAt Z H s) (h2 : F δ s = some (b, s')) (h3 : ∀ H', Ext Z H H' → StateAt Z H' s' → Q b H')
noncomputable abbrev tDT (X : Cx) (Z : Zt) (A : List Addr) (F : FT) : TT := tDTK X.K Z A F
inductive tDAK (K : PySem.W.Frag) (Z : Zt) (A : List Addr) (F : FA) (σ : L2.St) (H : Hp) (Q : List V → Hp → Prop) : Prop
  | mk (B : Hp) (ow : Ow) (δ : Sl) (s : Sx) (ds : List D) (s' : Sx) (h0 : RepS K B Z A ow σ δ H) (h1 : StateAt Z H s) (h2 : F δ s = some (ds, s')) (h3 : ∀ vs H', Ext Z H H' → StateAt Z H' s' → Reps K Z H' (A ++ ow.map (·.2)) vs ds → Q vs H')
noncomputable abbrev tDA (X : Cx) (Z : Zt) (A : List Addr) (F : FA) : TA := tDAK X.K Z A F
structure DE (X : Cx) (e : Expr) (F : FE) : Prop where
  go : ∀ Z A, PE X e (tD X Z A F)
instance {X : Cx} {e : Expr} {F : FE} : CoeFun (DE X e F) (fun _ => ∀ Z A, PE X e (tD X Z A F)) := ⟨fun h => h.go⟩
structure DT (X : Cx) (e : Expr) (F : FT) : Prop where
  go : ∀ Z A, PT X e (tDT X Z A F)
instance {X : Cx} {e : Expr} {F : FT} : CoeFun (DT X e F) (fun _ => ∀ Z A, PT X e (tDT X Z A F)) := ⟨fun h => h.go⟩
structure DA (X : Cx) (es : List Expr) (F : FA) : Prop where
  go : ∀ Z A, PA X es (tDA X Z A F)
instance {X : Cx} {es : List Expr} {F : FA} : CoeFun (DA X es F) (fun _ => ∀ Z A, PA X es (tDA X Z A F)) := ⟨fun h => h.go⟩
noncomputable abbrev FO := Sl → Sx → Option (List D × Sx)
inductive tDOK (K : PySem.W.Frag) (Z : Zt) (A : List Addr) (F : FO) (σ : L2.St) (H : Hp) (Q : VK) : Prop
  | mk (B : Hp) (ow : Ow) (δ : Sl) (s : Sx) (ds : List D) (s' : Sx) (h0 : RepS K B Z A ow σ δ H) (h1 : StateAt Z H s) (h2 : F δ s = some (ds, s')) (h3 : ∀ p vs H', Ext Z H H' → StateAt Z H' s' → H' p = some (.lst vs) → NotZ Z p → Reps K Z H' (A ++ ow.map (·.2)) vs ds → Q (.ref p) H')
noncomputable abbrev tDO (X : Cx) (Z : Zt) (A : List Addr) (F : FO) : TE := tDOK X.K Z A F
structure DO (X : Cx) (e : Expr) (F : FO) : Prop where
  go : ∀ Z A, PE X e (tDO X Z A F)
instance {X : Cx} {e : Expr} {F : FO} : CoeFun (DO X e F) (fun _ => ∀ Z A, PE X e (tDO X Z A F)) := ⟨fun h => h.go⟩
inductive tDWK (K : PySem.W.Frag) (Z : Zt) (A : List Addr) (F : FE) (σ : L2.St) (H : Hp) (Q : VK) : Prop
  | mk (B : Hp) (ow : Ow) (δ : Sl) (s : Sx) (d : D) (s' : Sx) (h0 : RepS K B Z A ow σ δ H) (h1 : StateAt Z H s) (h2 : F δ s = some (d, s')) (h3 : ∀ v H', Ext Z H H' → StateAt Z H' s' → RepW K Z H' (A ++ ow.map (·.2)) v d → Q v H')
noncomputable abbrev tDW (X : Cx) (Z : Zt) (A : List Addr) (F : FE) : TE := tDWK X.K Z A F
structure DW (X : Cx) (e : Expr) (F : FE) : Prop where
  go : ∀ Z A, PE X e (tDW X Z A F)
instance {X : Cx} {e : Expr} {F : FE} : CoeFun (DW X e F) (fun _ => ∀ Z A, PE X e (tDW X Z A F)) := ⟨fun h => h.go⟩
theorem PE.imp {X : Cx} {e : Expr} {t t' : TE} (h : PE X e t) (hi : ∀ σ H Q, t' σ H Q → t σ H Q) : PE X e t' := fun pins s σ H Q I q => h pins s σ H Q I (hi σ H Q q)
theorem PT.imp {X : Cx} {e : Expr} {t t' : TT} (h : PT X e t) (hi : ∀ σ H Q, t' σ H Q → t σ H Q) : PT X e t' := fun pins s σ H Q I q => h pins s σ H Q I (hi σ H Q q)
theorem PA.imp {X : Cx} {e : List Expr} {t t' : TA} (h : PA X e t) (hi : ∀ σ H Q, t' σ H Q → t σ H Q) : PA X e t' := fun pos pins s σ H Q I q => h pos pins s σ H Q I (hi σ H Q q)
theorem PS.imp {X : Cx} {st : Stmt} {t t' : TS} (h : PS X st t) (hi : ∀ D σ H, t' D σ H → t D σ H) : PS X st t' := fun pins s σ H D I q => h pins s σ H D I (hi D σ H q)
theorem PSs.imp {X : Cx} {st : List Stmt} {t t' : TS} (h : PSs X st t) (hi : ∀ D σ H, t' D σ H → t D σ H) : PSs X st t' := fun pins s σ H D I q => h pins s σ H D I (hi D σ H q)

section
variable {X : Cx} {a b c : Expr} {Fa Fb Fc : FE} {pos : Pos}
noncomputable def fVar (i : Nat) : FE := fun δ s => match δ[i]? with | some (.val d) => some (d, s) | _ => none
noncomputable def fC (d : D) : FE := fun _ s => some (d, s)
theorem de_of {e : Expr} {i : Nat} (h : PE X e (tVar i)) : DE X e (fVar i) := ⟨fun Z A => PE.imp h fun σ H Q x__66 => by
  obtain ⟨B, ow, δ, s, d, s', R, S, e, q⟩ := x__66
  unfold fVar at e
  split at e
  · rename_i d' hd
    cases e
    obtain ⟨v, h1, h2⟩ := R.val i _ hd
    exact ⟨v, h1, q v H (Ext.refl H) S h2⟩
  · cases e⟩
theorem dv (i : Nat) {x : Str} (hN : X.N[i]? = some x := by rfl) (hv : Vis X.env.scope x := by first | exact Or.inl rfl | exact Or.inr (Or.inl rfl) | exact Or.inr (Or.inr rfl)) (hd : (x == ("__debug__" : Str)) = false := by decide)
    (hcd : (x == ("__classdict__" : Str)) = false := by decide) : DE X (.Name x pos) (fVar i) := de_of (pv i hN hv hd hcd)
theorem de_const {e : Expr} {v : V} {d : D} (h : PE X e (tC v)) (r : ∀ K Z H A, Rep K Z H A v d) : DE X e (fC d) := ⟨fun Z A => PE.imp h fun σ H Q x__67 => by
  obtain ⟨B, ow, δ, s, d', s', R, S, e, q⟩ := x__67
  cases e
  exact q v H (Ext.refl H) S (r _ _ _ _)⟩
theorem de_int {i : Int} {j} : DE X (.Constant (.int i) j pos) (fC (.int i)) := de_const pe_int fun _ _ _ _ => .int i
theorem de_bl {i : Bool} {j} : DE X (.Constant (.bool i) j pos) (fC (.bool i)) := de_const pe_bl fun _ _ _ _ => .bl i
theorem de_non {j} : DE X (.Constant .none j pos) (fC .none) := de_const pe_non fun _ _ _ _ => .non
theorem de_str {x : Str} {j} : DE X (.Constant (.str x) j pos) (fC (.str x)) := de_const pe_str fun _ _ _ _ => .str x

theorem DE.w {e : Expr} {F : FE} (h : DE X e F) : DW X e F := ⟨fun Z A => PE.imp (h Z A) fun σ H Q x__68 => (by obtain ⟨B, ow, δ, s, d, s', R, S, e, q⟩ := x__68; exact ⟨B, ow, δ, s, d, s', R, S, e, fun v H' a b c => q v H' a b c.w⟩)⟩
noncomputable def asL (F : FO) : FE := fun δ s => (F δ s).map fun p => (.list p.1, p.2)
theorem DO.w {e : Expr} {F : FO} (h : DO X e F) : DW X e (asL F) := ⟨fun Z A => PE.imp (h Z A) fun σ H Q x__69 => by
  obtain ⟨B, ow, δ, s, d, s', R, S, e, q⟩ := x__69
  unfold asL at e
  first | refine bnd1 e fun p e1 e => ?_ | refine mpp1 e fun p e1 e => ?_
  cases e
  exact ⟨B, ow, δ, s, p.1, p.2, R, S, e1, fun p vs H' a b c n r => q _ H' a b (.inr ⟨p, vs, _, rfl, rfl, c, n, r⟩)⟩⟩
noncomputable abbrev G2 := D → D → Option D
noncomputable def DOp (X : Cx) (f : Value → Value → Sem Value) (g : G2) : Prop := ∀ (Z : Zt) (A : List Addr) (pins : List (Addr × Obj)) (s : Shared) (σ : L2.St) (H : Hp) (st : Sx) (x y : V) (v u : Value) (dx dy d : D) (Q : VK),
  Inv X pins σ H s → StateAt Z H st → (∀ q ∈ A, ∃ o, H q = some o) → RepW X.K Z H A x dx → RepW X.K Z H A y dy → RelV x v → RelV y u → g dx dy = some d →
  (∀ v' H', Ext Z H H' → StateAt Z H' st → Rep X.K Z H' A v' d → Q v' H') → wpAny (model X.prog X.w) X.A (f v u) (EP X pins σ Q) X.xe s
theorem DOp.of {f : Value → Value → Sem Value} {g : G2} {r : R2} (h : OpR X f r)
    (hr : ∀ (Z : Zt) (A : List Addr) (H : Hp) (st : Sx) (x y : V) (dx dy d : D) (Q : VK), StateAt Z H st → (∀ q ∈ A, ∃ o, H q = some o) → RepW X.K Z H A x dx → RepW X.K Z H A y dy → g dx dy = some d →
      (∀ v' H', Ext Z H H' → StateAt Z H' st → Rep X.K Z H' A v' d → Q v' H') → r x y H Q) : DOp X f g :=
  fun Z A pins s σ H st x y v u dx dy d Q I S hA rx ry vx vy e q => h pins s σ H x y v u Q I vx vy (hr Z A H st x y dx dy d Q S hA rx ry e q)
theorem DOp.or {f : Value → Value → Sem Value} {g g' : G2} (h : DOp X f g) (h' : DOp X f g') : DOp X f (fun a b => (g a b).or (g' a b)) :=
  fun Z A pins s σ H st x y v u dx dy d Q I S hA rx ry vx vy e q => by
    cases e1 : g dx dy with
    | some d' => dsimp only at e; rw [e1] at e; exact h Z A pins s σ H st x y v u dx dy d Q I S hA rx ry vx vy (by rw [e1]; exact e) q
    | none => dsimp only at e; rw [e1] at e; exact h' Z A pins s σ H st x y v u dx dy d Q I S hA rx ry vx vy e q
noncomputable def f2 (g : G2) (Fa Fb : FE) : FE := fun δ s => (Fa δ s).bind fun p => (Fb δ p.2).bind fun q => (g p.1 q.1).map fun d => (d, q.2)
theorem two {g : G2} {f : Value → Value → Sem Value} (ho : DOp X f g) (ha : DW X a Fa) (hb : DW X b Fb) {Z : Zt} {A : List Addr} {pins : List (Addr × Obj)} {s : Shared} {σ : L2.St} {H : Hp} {Q : VK} (I : Inv X pins σ H s) (h : tD X Z A (f2 g Fa Fb) σ H Q) :
    wpAny (model X.prog X.w) X.A (eval a X.env) (fun v s₁ => wpAny (model X.prog X.w) X.A (eval b X.env) (fun u s₂ => wpAny (model X.prog X.w) X.A (f v u) (EP X pins σ Q) X.xe s₂) X.xe s₁) X.xe s := by
  obtain ⟨B, ow, δ, st, d, st', R, S, e, q⟩ := h
  unfold f2 at e
  first | refine bnd2 e fun dx s1 e1 e => ?_ | refine mpp2 e fun dx s1 e1 e => ?_
  replace e : ((Fb δ s1).bind fun q => (g dx q.1).map fun d => (d, q.2)) = some (d, st') := e
  first | refine bnd2 e fun dy s2 e2 e => ?_ | refine mpp2 e fun dy s2 e2 e => ?_
  replace e : ((g dx dy).map fun d => (d, s2)) = some (d, st') := e
  cases e3 : g dx dy with
  | none => rw [e3] at e; cases e
  | some d' =>
    rw [e3] at e
    cases e
    refine thn (ha Z A pins s σ H (fun x H1 => Ext Z H H1 ∧ StateAt Z H1 s1 ∧ RepW X.K Z H1 (A ++ ow.map (·.2)) x dx) I ⟨B, ow, δ, st, dx, s1, R, S, e1, fun v H' a b c => ⟨a, b, c⟩⟩) fun v s1' x__70 => ?_
    obtain ⟨x, H1, I1, r1, x1, S1, q1⟩ := x__70
    refine thn (hb Z A pins s1' σ H1 (fun y H2 => Ext Z H1 H2 ∧ StateAt Z H2 st' ∧ RepW X.K Z H2 (A ++ ow.map (·.2)) y dy) I1 ⟨B, ow, δ, s1, dy, st', R.mono x1, S1, e2, fun v H' a b c => ⟨a, b, c⟩⟩) fun u s2' x__71 => ?_
    obtain ⟨y, H2, I2, r2, x2, S2, q2⟩ := x__71
    exact ho Z _ pins s2' σ H2 st' x y v u dx dy d Q I2 S2 ((R.mono x1).mono x2).all (q1.ext x2) q2 r1 r2 e3 fun v' H' a b c => q v' H' ((x1.trans x2).trans a) b c
theorem de_op {op : Operator} {g : G2} (ho : DOp X (binaryOp op) g) (ha : DW X a Fa) (hb : DW X b Fb) : DE X (.BinOp a op b pos) (f2 g Fa Fb) := ⟨fun _ _ _ _ _ _ _ I h => wpAny_BinOp (two ho ha hb I h)⟩
theorem de_cmp {op : CmpOp} {g : G2} (ho : DOp X (compareOp op) g) (ha : DW X a Fa) (hb : DW X b Fb) (hm : behindInMarks op b = false) : DE X (.Compare a [op] [b] pos) (f2 g Fa Fb) := ⟨fun _ _ _ _ _ _ _ I h => wpAny_Compare1 (two ho ha hb I h) hm⟩
noncomputable def asB (F : FE) : FT := fun δ s => (F δ s).bind fun p => match p.1 with | .bool b => some (b, p.2) | _ => none
theorem asB_of {Z : Zt} {A : List Addr} {F : FE} {σ : L2.St} {H : Hp} {Q : Bool → Hp → Prop} (h : tDT X Z A (asB F) σ H Q) : tD X Z A F σ H fun x H' => ∃ k, x = .bl k ∧ Q k H' := by
  obtain ⟨B, ow, δ, st, b, st', R, S, e, q⟩ := h
  unfold asB at e
  first | refine bnd2 e fun d s1 e1 e => ?_ | refine mpp2 e fun d s1 e1 e => ?_
  cases d <;> first | (cases e; done) | skip
  cases e
  exact ⟨B, ow, δ, st, _, _, R, S, e1, fun v H' a b c => by cases c; exact ⟨_, rfl, q H' a b⟩⟩
theorem dt_cmp {op : CmpOp} {g : G2} (ho : DOp X (compareOp op) g) (ha : DW X a Fa) (hb : DW X b Fb) (hm : behindInMarks op b = false) : DT X (.Compare a [op] [b] pos) (asB (f2 g Fa Fb)) := ⟨fun Z A pins s σ H Q I h => by
  refine wpAny_isTrue_Compare1 (thn (two ho ha hb I (asB_of h)) fun v s1 h1 => thn h1 fun u s2 h2 => thn h2 fun cv s3 x__72 => ?_) hm
  obtain ⟨x, H1, I1, r1, k, e, q1⟩ := x__72
  subst e
  cases r1
  exact wpAny_truthy_bool ⟨H1, I1, q1⟩⟩
noncomputable def gI (C : Int → Int → Bool) (f : Int → Int → D) : G2 := fun a b => match a, b with | .int i, .int j => if C i j then some (f i j) else none | _, _ => none
theorem dop_int {f : Value → Value → Sem Value} {C : Int → Int → Prop} {Cb : Int → Int → Bool} {gv : Int → Int → V} {gd : Int → Int → D} (h : OpR X f (rI C gv)) (hC : ∀ i j, Cb i j = true → C i j) (hg : ∀ i j K Z H A, Rep K Z H A (gv i j) (gd i j)) : DOp X f (gI Cb gd) :=
  DOp.of h fun Z A H st x y dx dy d Q S hA rx ry e q => by
    unfold gI at e
    split at e
    · have ex := rx.int
      have ey := ry.int
      subst ex ey
      split at e
      · rename_i i j hc
        cases e
        exact ⟨i, j, rfl, rfl, hC i j hc, q _ H (Ext.refl H) S (hg i j _ _ _ _)⟩
      · cases e
    · cases e
theorem rI0_of {g : Int → Int → V} {f : Value → Value → Sem Value} (h : OpR X f (rI0 g)) : OpR X f (rI (fun _ _ => True) g) := fun pins s σ H x y v u Q I rx ry x__73 => (by obtain ⟨i, j, e1, e2, _, q⟩ := x__73; exact h pins s σ H x y v u Q I rx ry ⟨i, j, e1, e2, q⟩)
noncomputable def gAddI : G2 := gI (fun _ _ => true) fun i j => .int (i + j)
noncomputable def gSubI : G2 := gI (fun _ _ => true) fun i j => .int (i - j)
noncomputable def mulOk (i j : Int) : Bool := decide (Builtin.Int.intBits i + Builtin.Int.intBits j ≤ 134217728)
noncomputable def divOk (_ j : Int) : Bool := decide (j ≠ 0) && decide (j.natAbs.log2 < 9000)
theorem dadd_int : DOp X (binaryOp .Add) gAddI := dop_int (rI0_of op_add) (fun _ _ _ => trivial) fun i j _ _ _ _ => .int _
theorem dsub_int : DOp X (binaryOp .Sub) gSubI := dop_int (rI0_of op_sub) (fun _ _ _ => trivial) fun i j _ _ _ _ => .int _
noncomputable def gLt : G2 := gI (fun _ _ => true) fun i j => .bool (decide (i < j))
noncomputable def gGt : G2 := gI (fun _ _ => true) fun i j => .bool (decide (j < i))
theorem dlt : DOp X (compareOp .Lt) gLt := dop_int (rI0_of op_lt) (fun _ _ _ => trivial) fun i j _ _ _ _ => .bl _
theorem dgt : DOp X (compareOp .Gt) gGt := dop_int (rI0_of op_gt) (fun _ _ _ => trivial) fun i j _ _ _ _ => .bl _
end
end L3

namespace L3
open PySem L2 PySem.Spec PyProof.Rows

section
variable {X : Cx} {a b c e : Expr} {es : List Expr} {Fa Fb Fc F : FE} {Ga Gb : FT} {FL : FA} {pos : Pos}
theorem mulOk_ok {i j : Int} (h : mulOk i j = true) : IntMulOk i j := mulOk_of_bits (Nat.le_refl _) (Nat.le_refl _) (of_decide_eq_true h)
theorem op_mulB : OpR X (binaryOp .Mult) (rI (fun i j => mulOk i j = true) fun i j => .int (i * j)) := opI fun _ _ _ _ _ _ _ hc q => mul_int q (mulOk_ok hc)
theorem op_fdivB : OpR X (binaryOp .FloorDiv) (rI (fun i j => divOk i j = true) fun i j => .int (i.fdiv j)) := opI fun _ _ _ _ _ _ _ hc q => by
  have hc' : (decide _ && decide _) = true := hc
  rw [Bool.and_eq_true] at hc'
  exact floordiv_int (of_decide_eq_true hc'.1) q (.inl (PyProof.noPylong_of_log2 (of_decide_eq_true hc'.2)))
noncomputable def gMulI : G2 := gI mulOk fun i j => .int (i * j)
noncomputable def gDivI : G2 := gI divOk fun i j => .int (i.fdiv j)
noncomputable def gModI : G2 := gI (fun _ j => decide (j ≠ 0)) fun i j => .int (i.fmod j)
noncomputable def gPowI : G2 := gI (fun i j => decide (0 ≤ j) && decide (j ≤ 1000000) && decide (i.natAbs < 18446744073709551616)) fun i j => .int (i ^ j.toNat)
theorem dmul_int : DOp X (binaryOp .Mult) gMulI := dop_int op_mulB (fun _ _ h => h) fun i j _ _ _ _ => .int _
theorem ddiv_int : DOp X (binaryOp .FloorDiv) gDivI := dop_int op_fdivB (fun _ _ h => h) fun i j _ _ _ _ => .int _
theorem dmod_int : DOp X (binaryOp .Mod) gModI := dop_int op_modN (fun _ _ h => of_decide_eq_true h) fun i j _ _ _ _ => .int _
theorem dpow_int : DOp X (binaryOp .Pow) gPowI := dop_int op_pow (fun i j h => by
  rw [Bool.and_eq_true, Bool.and_eq_true] at h
  exact ⟨of_decide_eq_true h.1.1, of_decide_eq_true h.1.2, of_decide_eq_true h.2⟩) fun i j _ _ _ _ => .int _
noncomputable abbrev G1 := D → Option D
noncomputable def f1 (g : G1) (Fa : FE) : FE := fun δ s => (Fa δ s).bind fun p => (g p.1).map fun d => (d, p.2)
noncomputable def gNeg : G1 := fun d => match d with | .int i => some (.int (-i)) | _ => none
theorem de_neg (ha : DW X a Fa) : DE X (.UnaryOp .USub a pos) (f1 gNeg Fa) := ⟨fun Z A => PE.imp (pe_un un_neg (ha Z A)) fun σ H Q x__74 => by
  obtain ⟨B, ow, δ, s, d, s', R, S, e, q⟩ := x__74
  unfold f1 at e
  first | refine bnd2 e fun dx s1 e1 e => ?_ | refine mpp2 e fun dx s1 e1 e => ?_
  cases dx <;> first | (cases e; done) | skip
  cases e
  exact ⟨B, ow, δ, s, _, _, R, S, e1, fun v H' x1 S1 r => ⟨_, r.int, q _ H' x1 S1 (.int _)⟩⟩⟩
noncomputable def tAndF (Ga Gb : FT) : FT := fun δ s => (Ga δ s).bind fun p => if p.1 = true then Gb δ p.2 else some (false, p.2)
noncomputable def tOrF (Ga Gb : FT) : FT := fun δ s => (Ga δ s).bind fun p => if p.1 = true then some (true, p.2) else Gb δ p.2
noncomputable def tNotF (Ga : FT) : FT := fun δ s => (Ga δ s).map fun p => (!p.1, p.2)
structure DTW (X : Cx) (e : Expr) (F : FT) : Prop where
  go : ∀ Z A, PW X e (tDT X Z A F)
instance {X : Cx} {e : Expr} {F : FT} : CoeFun (DTW X e F) (fun _ => ∀ Z A, PW X e (tDT X Z A F)) := ⟨fun h => h.go⟩
theorem DTW.t (h : DTW X e Ga) : DT X e Ga := ⟨fun Z A => (h Z A).pt⟩
theorem dw_and1 (ha : DT X a Ga) : DTW X (.BoolOp .And [a] pos) Ga := ⟨fun Z A => pw_and1 (ha Z A)⟩
theorem dw_or1 (ha : DT X a Ga) : DTW X (.BoolOp .Or [a] pos) Ga := ⟨fun Z A => pw_or1 (ha Z A)⟩
theorem PW.imp {t t' : TT} (h : PW X e t) (hi : ∀ σ H Q, t' σ H Q → t σ H Q) : PW X e t' := fun wh pins s σ H Q I q => h wh pins s σ H Q I (hi σ H Q q)
theorem dw_and (ha : DT X a Ga) (hb : DTW X (.BoolOp .And (b :: es) pos) Gb) : DTW X (.BoolOp .And (a :: b :: es) pos) (tAndF Ga Gb) := ⟨fun Z A => PW.imp (pw_and (ha Z A) (hb Z A)) fun σ H Q x__75 => by
  obtain ⟨B, ow, δ, s, d, s', R, S, e, q⟩ := x__75
  unfold tAndF at e
  first | refine bnd2 e fun k s1 e1 e => ?_ | refine mpp2 e fun k s1 e1 e => ?_
  refine ⟨B, ow, δ, s, k, s1, R, S, e1, fun H1 x1 S1 => ?_⟩
  cases k with
  | true => exact iteT ⟨B, ow, δ, s1, d, s', R.mono x1, S1, e, fun H2 x2 S2 => q H2 (x1.trans x2) S2⟩
  | false => cases e; exact iteF (q H1 x1 S1)⟩
theorem dw_or (ha : DT X a Ga) (hb : DTW X (.BoolOp .Or (b :: es) pos) Gb) : DTW X (.BoolOp .Or (a :: b :: es) pos) (tOrF Ga Gb) := ⟨fun Z A => PW.imp (pw_or (ha Z A) (hb Z A)) fun σ H Q x__76 => by
  obtain ⟨B, ow, δ, s, d, s', R, S, e, q⟩ := x__76
  unfold tOrF at e
  first | refine bnd2 e fun k s1 e1 e => ?_ | refine mpp2 e fun k s1 e1 e => ?_
  refine ⟨B, ow, δ, s, k, s1, R, S, e1, fun H1 x1 S1 => ?_⟩
  cases k with
  | true => cases e; exact iteT (q H1 x1 S1)
  | false => exact iteF ⟨B, ow, δ, s1, d, s', R.mono x1, S1, e, fun H2 x2 S2 => q H2 (x1.trans x2) S2⟩⟩
theorem dt_not (ha : DT X a Ga) : DT X (.UnaryOp .Not a pos) (tNotF Ga) := ⟨fun Z A => PT.imp (pt_not (ha Z A)) fun σ H Q x__77 => by
  obtain ⟨B, ow, δ, s, d, s', R, S, e, q⟩ := x__77
  unfold tNotF at e
  first | refine bnd1 e fun p e1 e => ?_ | refine mpp1 e fun p e1 e => ?_
  cases e
  exact ⟨B, ow, δ, s, _, _, R, S, e1, fun H1 x1 S1 => q H1 x1 S1⟩⟩
noncomputable def eAnd (Fa Fb : FE) : FE := fun δ s => (Fa δ s).bind fun p => match p.1 with | .bool true => Fb δ p.2 | .bool false => some (.bool false, p.2) | _ => none
theorem de_one {op} (ha : DE X a Fa) : DE X (.BoolOp op [a] pos) Fa := ⟨fun Z A => pe_one (ha Z A)⟩
theorem de_and (ha : DE X a Fa) (hb : DE X (.BoolOp .And (b :: es) pos) Fb) : DE X (.BoolOp .And (a :: b :: es) pos) (eAnd Fa Fb) := ⟨fun Z A => PE.imp (pe_and (ha Z A) (hb Z A)) fun σ H Q x__78 => by
  obtain ⟨B, ow, δ, s, d, s', R, S, e, q⟩ := x__78
  unfold eAnd at e
  first | refine bnd2 e fun dx s1 e1 e => ?_ | refine mpp2 e fun dx s1 e1 e => ?_
  cases dx with
  | bool k =>
    refine ⟨B, ow, δ, s, _, s1, R, S, e1, fun v H1 x1 S1 r => ?_⟩
    cases r
    refine ⟨k, rfl, ?_⟩
    cases k with
    | true => exact iteT ⟨B, ow, δ, s1, d, s', R.mono x1, S1, e, fun v H2 x2 S2 r => q v H2 (x1.trans x2) S2 r⟩
    | false => cases e; exact iteF (q _ H1 x1 S1 (.bl _))
  | _ => cases e⟩
noncomputable def gNot : G1 := fun d => match d with | .bool k => some (.bool (!k)) | _ => none
theorem de_not (ha : DE X a Fa) : DE X (.UnaryOp .Not a pos) (f1 gNot Fa) := ⟨fun Z A => PE.imp (pe_not (ha Z A)) fun σ H Q x__79 => by
  obtain ⟨B, ow, δ, s, d, s', R, S, e, q⟩ := x__79
  unfold f1 at e
  first | refine bnd2 e fun dx s1 e1 e => ?_ | refine mpp2 e fun dx s1 e1 e => ?_
  cases dx with
  | bool k => cases e; exact ⟨B, ow, δ, s, _, _, R, S, e1, fun v H' x1 S1 r => by cases r; exact ⟨_, rfl, q _ H' x1 S1 (.bl _)⟩⟩
  | _ => cases e⟩
noncomputable def eIf (Ga : FT) (Fa Fb : FE) : FE := fun δ s => (Ga δ s).bind fun p => if p.1 = true then Fa δ p.2 else Fb δ p.2
theorem de_if (hc : DT X c Ga) (ha : DE X a Fa) (hb : DE X b Fb) : DE X (.IfExp c a b pos) (eIf Ga Fa Fb) := ⟨fun Z A => PE.imp (pe_ifExp (hc Z A) (ha Z A) (hb Z A)) fun σ H Q x__80 => by
  obtain ⟨B, ow, δ, s, d, s', R, S, e, q⟩ := x__80
  unfold eIf at e
  first | refine bnd2 e fun k s1 e1 e => ?_ | refine mpp2 e fun k s1 e1 e => ?_
  refine ⟨B, ow, δ, s, k, s1, R, S, e1, fun H1 x1 S1 => ?_⟩
  cases k with
  | true => exact iteT ⟨B, ow, δ, s1, d, s', R.mono x1, S1, e, fun v H2 x2 S2 r => q v H2 (x1.trans x2) S2 r⟩
  | false => exact iteF ⟨B, ow, δ, s1, d, s', R.mono x1, S1, e, fun v H2 x2 S2 r => q v H2 (x1.trans x2) S2 r⟩⟩
noncomputable def aNil : FA := fun _ s => some ([], s)
noncomputable def aCons (Fa : FE) (FL : FA) : FA := fun δ s => (Fa δ s).bind fun p => (FL δ p.2).map fun q => (p.1 :: q.1, q.2)
theorem da_nil : DA X [] aNil := ⟨fun Z A => PA.imp pa_nil fun σ H Q x__81 => by
  obtain ⟨B, ow, δ, s, d, s', R, S, e, q⟩ := x__81
  cases e
  exact q [] H (Ext.refl H) S .nil⟩
theorem da_cons (ha : DE X e Fa) (hr : DA X es FL) (hs : starEach (e :: es) X.env = (false, eval e X.env) :: starEach es X.env := by rfl) : DA X (e :: es) (aCons Fa FL) := ⟨fun Z A => PA.imp (pa_cons (ha Z A) (hr Z A) hs) fun σ H Q x__82 => by
  obtain ⟨B, ow, δ, s, d, s', R, S, e, q⟩ := x__82
  unfold aCons at e
  first | refine bnd2 e fun dx s1 e1 e => ?_ | refine mpp2 e fun dx s1 e1 e => ?_
  replace e : ((FL δ s1).map fun q => (dx :: q.1, q.2)) = some (d, s') := e
  first | refine bnd1 e fun p2 e2 e => ?_ | refine mpp1 e fun p2 e2 e => ?_
  cases e
  exact ⟨B, ow, δ, s, dx, s1, R, S, e1, fun v H1 x1 S1 r => ⟨B, ow, δ, s1, p2.1, p2.2, R.mono x1, S1, e2, fun vs H2 x2 S2 rs => q _ H2 (x1.trans x2) S2 (.cons (r.ext x2) rs)⟩⟩⟩
noncomputable def small (ds : List D) : Bool := decide (ds.length ≤ sizeLine)
noncomputable def eTup (FL : FA) : FE := fun δ s => (FL δ s).bind fun p => if small p.1 = true then some (.tuple p.1, p.2) else none
noncomputable def eLst (FL : FA) : FE := fun δ s => (FL δ s).bind fun p => if small p.1 = true then some (.list p.1, p.2) else none
theorem de_tup {x1} (h : DA X es FL) : DE X (.Tuple es x1 pos) (eTup FL) := ⟨fun Z A => PE.imp (pe_tup (h Z A)) fun σ H Q x__83 => by
  obtain ⟨B, ow, δ, s, d, s', R, S, e, q⟩ := x__83
  unfold eTup at e
  first | refine bnd1 e fun p e1 e => ?_ | refine mpp1 e fun p e1 e => ?_
  replace e : (if small p.1 = true then some (PyData.tuple p.1, p.2) else none) = some (d, s') := e
  split at e
  · rename_i hs
    cases e
    refine ⟨B, ow, δ, s, _, _, R, S, e1, fun vs H1 x1 S1 rs => ⟨?_, fun p hp => q _ _ (x1.trans (Ext.upd hp)) (S1.upd hp) (.tup upd_same (fresh_not (R.mono x1).all hp) (S1.notZ hp) (rs.ext (Ext.upd hp)))⟩⟩
    rw [rs.length]; exact of_decide_eq_true hs
  · cases e⟩
theorem de_lst (h : DA X es FL) : DE X (.List es pos) (eLst FL) := ⟨fun Z A => PE.imp (pe_lst (h Z A)) fun σ H Q x__84 => by
  obtain ⟨B, ow, δ, s, d, s', R, S, e, q⟩ := x__84
  unfold eLst at e
  first | refine bnd1 e fun p e1 e => ?_ | refine mpp1 e fun p e1 e => ?_
  replace e : (if small p.1 = true then some (PyData.list p.1, p.2) else none) = some (d, s') := e
  split at e
  · rename_i hs
    cases e
    refine ⟨B, ow, δ, s, _, _, R, S, e1, fun vs H1 x1 S1 rs => ⟨?_, fun p hp => q _ _ (x1.trans (Ext.upd hp)) (S1.upd hp) (.lst upd_same (fresh_not (R.mono x1).all hp) (S1.notZ hp) (rs.ext (Ext.upd hp)))⟩⟩
    rw [rs.length]; exact of_decide_eq_true hs
  · cases e⟩
noncomputable def gIx : G2 := fun a b => match a, b with | .list xs, .int i => atI xs i | .tuple xs, .int i => atI xs i | _, _ => none
theorem Reps.atI {K : PySem.W.Frag} {Z : Zt} {H : Hp} {A : List Addr} {vs : List V} {ds : List D} {i : Int} {d : D} (r : Reps K Z H A vs ds) (e : L2.atI ds i = some d) : ∃ v, L2.atI vs i = some v ∧ Rep K Z H A v d := by
  unfold L2.atI at e ⊢
  rw [r.length]
  cases e1 : ixN ds.length i with
  | none => rw [e1] at e; cases e
  | some j =>
    rw [e1] at e
    obtain ⟨v, h1, h2⟩ := r.get (i := j) (d := d) e
    exact ⟨v, h1, h2⟩
theorem de_ix (ha : DW X a Fa) (hb : DW X b Fb) (hs : PlainIx b) : DE X (.Subscript a b pos) (f2 gIx Fa Fb) := ⟨fun Z A => PE.imp (pe_ix (ix_list.or ix_tup) (ha Z A) (hb Z A) hs) fun σ H Q x__85 => by
  obtain ⟨B, ow, δ, s, d, s', R, S, e, q⟩ := x__85
  unfold f2 at e
  first | refine bnd2 e fun dx s1 e1 e => ?_ | refine mpp2 e fun dx s1 e1 e => ?_
  replace e : ((Fb δ s1).bind fun q => (gIx dx q.1).map fun d => (d, q.2)) = some (d, s') := e
  first | refine bnd2 e fun dy s2 e2 e => ?_ | refine mpp2 e fun dy s2 e2 e => ?_
  replace e : ((gIx dx dy).map fun d => (d, s2)) = some (d, s') := e
  cases e3 : gIx dx dy with
  | none => rw [e3] at e; cases e
  | some d' =>
    rw [e3] at e
    cases e
    refine ⟨B, ow, δ, s, dx, s1, R, S, e1, fun v H1 x1 S1 r1 => ⟨B, ow, δ, s1, dy, s', R.mono x1, S1, e2, fun u H2 x2 S2 r2 => ?_⟩⟩
    unfold gIx at e3
    split at e3
    · rename_i xs i
      have eu := r2.int
      obtain ⟨p, vs, ev, sq, _, rs⟩ := (r1.ext x2).list
      obtain ⟨w', h1, h2⟩ := Reps.atI rs e3
      exact .inl ⟨p, vs, i, w', ev, eu, sq, h1, q w' H2 (x1.trans x2) S2 h2⟩
    · rename_i xs i
      have eu := r2.int
      obtain ⟨p, vs, ev, sq, rs⟩ := (r1.ext x2).tuple
      obtain ⟨w', h1, h2⟩ := Reps.atI rs e3
      exact .inr ⟨p, vs, i, w', ev, eu, sq, h1, q w' H2 (x1.trans x2) S2 h2⟩
    · cases e3⟩
theorem Reps.reads {K : PySem.W.Frag} {pins : List (Addr × Obj)} {σ : L2.St} {H : Hp} {s : Shared} (hK : X.K = K) (I : Inv X pins σ H s) {Z : Zt} {A : List Addr} {vs : List V} {ds : List D} (x : Reps K Z H A vs ds) : PyData.canLayAll0 ds = true → ∀ us, Vals vs us → ∃ as, ReadsAll s.heap us ds as :=
  Reps.rec (motive_1 := fun v d _ => d.canLay0 = true → ∀ u, RelV v u → ∃ as, Reads s.heap u d as) (motive_2 := fun vs ds _ => PyData.canLayAll0 ds = true → ∀ us, Vals vs us → ∃ as, ReadsAll s.heap us ds as)
    (fun _ _ r => by cases r; exact ⟨_, .none⟩) (fun b _ _ r => by cases r; exact ⟨_, .bool b⟩) (fun i _ _ r => by obtain ⟨t, rfl⟩ := r; exact ⟨_, .int i t⟩) (fun x _ _ r => by obtain ⟨t, rfl⟩ := r; exact ⟨_, .str x t⟩)
    (fun h n z _ ih c u r => by
      cases r
      obtain ⟨its, rv, ⟨o, e1, e2, m, e3⟩, _⟩ := I.tuple (.of h)
      obtain ⟨as, q⟩ := ih c _ rv
      exact ⟨as, .tuple e1 e2 e3 q⟩)
    (fun h n z _ ih c u r => by
      cases r
      obtain ⟨its, rv, p, _⟩ := I.list (.of h)
      obtain ⟨o, e1, e2, m, e3⟩ := p.isList
      obtain ⟨as, q⟩ := ih c _ rv
      exact ⟨_, .list e1 e2 e3 q⟩)
    (fun h _ ih c u r => by
      cases r
      obtain ⟨its, rv, ⟨o, e1, e2, m, e3⟩, _⟩ := I.tuple (.inr (hK.symm ▸ h))
      obtain ⟨as, q⟩ := ih c _ rv
      exact ⟨as, .tuple e1 e2 e3 q⟩)
    (fun _ c _ _ => absurd c Bool.false_ne_true) (fun _ _ _ _ _ _ c _ _ => absurd c Bool.false_ne_true)
    (fun _ _ r => by cases r; exact ⟨_, .nil⟩)
    (fun _ _ h1 h2 c us r => by
      cases r with
      | cons q w =>
        obtain ⟨as, g1⟩ := h1 ((Bool.and_eq_true _ _).mp c).1 _ q
        obtain ⟨bs, g2⟩ := h2 ((Bool.and_eq_true _ _).mp c).2 _ w
        exact ⟨_, .cons g1 g2⟩) x
theorem Rep.reads {K : PySem.W.Frag} {pins : List (Addr × Obj)} {σ : L2.St} {H : Hp} {s : Shared} (hK : X.K = K) (I : Inv X pins σ H s) {Z : Zt} {A : List Addr} {v : V} {d : D} {u : Value} (x : Rep K Z H A v d) (c : d.canLay0 = true) (r : RelV v u) : ∃ as, Reads s.heap u d as := by
  obtain ⟨as, h⟩ := Reps.reads hK I (.cons x .nil) (by rw [PyData.canLayAll0, c]; rfl) [u] (.cons r .nil)
  cases h with
  | cons h _ => exact ⟨_, h⟩
theorem RepW.reads {pins : List (Addr × Obj)} {σ : L2.St} {H : Hp} {s : Shared} (I : Inv X pins σ H s) {Z : Zt} {A : List Addr} {v : V} {d : D} {u : Value} (r : RepW X.K Z H A v d) (c : d.canLay0 = true) (ru : RelV v u) : ∃ as, Reads s.heap u d as := by
  rcases r with r | ⟨p, vs, ds, rfl, rfl, e3, e4, e5⟩
  · exact r.reads rfl I c ru
  · cases ru
    obtain ⟨its, rv, pl, _⟩ := I.list (SqL.of e3)
    obtain ⟨o, e1, e2, m, e3⟩ := pl.isList
    obtain ⟨as, q⟩ := Reps.reads rfl I e5 (by simpa [PyData.canLay0] using c) _ rv
    exact ⟨_, .list e1 e2 e3 (by simpa using q)⟩
noncomputable def gEq : G2 := fun a b => if (SeqAt.shaped a && SeqAt.shaped b) = true then some (.bool (PyData.eqv a b)) else none
noncomputable def gNe : G2 := fun a b => if (SeqAt.shaped a && SeqAt.shaped b) = true then some (.bool (!PyData.eqv a b)) else none
theorem deq (hu : X.A.units + 64 < cLine) : DOp X (compareOp .Eq) gEq := fun Z A pins s σ H st x y v u dx dy d Q I S hA rx ry vx vy e q => by
  unfold gEq at e
  split at e
  · rename_i hc
    cases e
    rw [Bool.and_eq_true] at hc
    obtain ⟨as, h1⟩ := rx.reads I (SeqAt.canLay_of_shaped hc.1) vx
    obtain ⟨bs, h2⟩ := ry.reads I (SeqAt.canLay_of_shaped hc.2) vy
    exact eq_dataH h1 h2 hc.1 hc.2 hu ⟨.bl _, H, I, rfl, q _ H (Ext.refl H) S (.bl _)⟩
  · cases e
theorem dne (hu : X.A.units + 64 < cLine) : DOp X (compareOp .NotEq) gNe := fun Z A pins s σ H st x y v u dx dy d Q I S hA rx ry vx vy e q => by
  unfold gNe at e
  split at e
  · rename_i hc
    cases e
    rw [Bool.and_eq_true] at hc
    obtain ⟨as, h1⟩ := rx.reads I (SeqAt.canLay_of_shaped hc.1) vx
    obtain ⟨bs, h2⟩ := ry.reads I (SeqAt.canLay_of_shaped hc.2) vy
    exact ne_dataH h1 h2 hc.1 hc.2 hu ⟨.bl _, H, I, rfl, q _ H (Ext.refl H) S (.bl _)⟩
  · cases e
@[simp] def isNon : D → Option Bool
  | .none => some true
  | .bool _ | .int _ | .str _ | .list _ | .tuple _ => some false
  | _ => none
noncomputable def gIs : G2 := fun a b => match b with | .none => (isNon a).map .bool | .bool j => (match a with | .bool i => some (.bool (i == j)) | _ => none) | _ => none
theorem RepW.isNon {K : PySem.W.Frag} {Z : Zt} {H : Hp} {A : List Addr} {v : V} {d : D} {b : Bool} (r : RepW K Z H A v d) (e : isNon d = some b) : decide (v = .non) = b := by
  rcases r with r | ⟨p, vs, ds, e1, e2, e3, e4, e5⟩
  · cases r <;> cases e <;> rfl
  · subst e1 e2; cases e; rfl
theorem op_is_bl : OpR X (compareOp .Is) (fun x y H Q => ∃ i j, x = .bl i ∧ y = .bl j ∧ Q (.bl (i == j)) H) := fun pins s σ H x y v u Q I rx ry x__86 => by
  obtain ⟨i, j, e1, e2, q⟩ := x__86
  subst e1 e2; cases rx; cases ry
  exact is_bool ⟨.bl _, H, I, rfl, q⟩
theorem dis : DOp X (compareOp .Is) gIs := DOp.of (op_is_bl.or op_isN) fun Z A H st x y dx dy d Q S hA rx ry e q => by
  unfold gIs at e
  split at e
  · refine mpp1 e fun b e1 e => ?_
    subst e
    exact .inr ⟨ry.none, by rw [RepW.isNon rx e1]; exact q _ H (Ext.refl H) S (.bl _)⟩
  · split at e
    · cases e
      exact .inl ⟨_, _, rx.bool, ry.bool, q _ H (Ext.refl H) S (.bl _)⟩
    · cases e
  · cases e
end
end L3

namespace L3
open PySem L2 PySem.Spec PyProof.Rows
theorem lenS {α : Type} {us : List α} {n : Nat} (h : us.length = n + 1) : ∃ a t, us = a :: t ∧ t.length = n := by
  cases us with
  | nil => cases h
  | cons a t => exact ⟨a, t, rfl, Nat.succ.inj h⟩
theorem len1 {α : Type} {us : List α} (h : us.length = 1) : ∃ a0, us = [a0] := by
  obtain ⟨a, t, rfl, h2⟩ := lenS h
  cases List.eq_nil_of_length_eq_zero h2
  exact ⟨a, rfl⟩
theorem len2 {α : Type} {us : List α} (h : us.length = 2) : ∃ a0 a1, us = [a0, a1] := by
  obtain ⟨a0, t, rfl, h2⟩ := lenS h
  obtain ⟨a1, rfl⟩ := len1 h2
  exact ⟨a0, a1, rfl⟩
theorem len3 {α : Type} {us : List α} (h : us.length = 3) : ∃ a0 a1 a2, us = [a0, a1, a2] := by
  obtain ⟨a0, t, rfl, h2⟩ := lenS h
  obtain ⟨a1, a2, rfl⟩ := len2 h2
  exact ⟨a0, a1, a2, rfl⟩
theorem len4 {α : Type} {us : List α} (h : us.length = 4) : ∃ a0 a1 a2 a3, us = [a0, a1, a2, a3] := by
  obtain ⟨a0, t, rfl, h2⟩ := lenS h
  obtain ⟨a1, a2, a3, rfl⟩ := len3 h2
  exact ⟨a0, a1, a2, a3, rfl⟩
inductive rD1 (K : PySem.W.Frag) (g : G1) (xs : List V) (H : Hp) (Q : VK) : Prop
  | mk (Z : Zt) (A : List Addr) (st : Sx) (x : V) (dx : D) (d : D) (h0 : xs = [x]) (h1 : StateAt Z H st) (h2 : (∀ q ∈ A, ∃ o, H q = some o)) (h3 : RepW K Z H A x dx) (h4 : g dx = some d) (h5 : ∀ v' H', Ext Z H H' → StateAt Z H' st → Rep K Z H' A v' d → Q v' H')
inductive rD2 (K : PySem.W.Frag) (g : G2) (xs : List V) (H : Hp) (Q : VK) : Prop
  | mk (Z : Zt) (A : List Addr) (st : Sx) (x : V) (y : V) (dx : D) (dy : D) (d : D) (h0 : xs = [x, y]) (h1 : StateAt Z H st) (h2 : (∀ q ∈ A, ∃ o, H q = some o)) (h3 : RepW K Z H A x dx) (h4 : RepW K Z H A y dy) (h5 : g dx dy = some d) (h6 : ∀ v' H', Ext Z H H' → StateAt Z H' st → Rep K Z H' A v' d → Q v' H')
section
variable {X : Cx} {e e2 : Expr} {es : List Expr} {Fa Fb : FE} {FL : FA} {x : Str} {id T : String} {p pos : Pos} {g : G1} {g2 : G2}
theorem CallR.imp {f : Value} {r r' : List V → Hp → VK → Prop} (h : CallR X f r) (hi : ∀ xs H Q, r' xs H Q → r xs H Q) : CallR X f r' := fun pins s σ H xs us Q I rv q => h pins s σ H xs us Q I rv (hi xs H Q q)
theorem read1 {Z : Zt} {A : List Addr} {σ : L2.St} {H : Hp} {Q : VK} (h : tD X Z A (f1 g Fa) σ H Q) : tDW X Z A Fa σ H fun x H1 => tNil σ H1 fun xs H2 => rD1 X.K g (x :: xs) H2 Q := by
  obtain ⟨B, ow, δ, s, d, s', R, S, e, q⟩ := h
  unfold f1 at e
  first | refine bnd2 e fun dx s1 e1 e => ?_ | refine mpp2 e fun dx s1 e1 e => ?_
  replace e : ((g dx).map fun d => (d, s1)) = some (d, s') := e
  cases e3 : g dx with
  | none => rw [e3] at e; cases e
  | some d' =>
    rw [e3] at e
    cases e
    exact ⟨B, ow, δ, s, dx, s', R, S, e1, fun v H1 x1 S1 r1 => ⟨Z, _, s', v, dx, d, rfl, S1, (R.mono x1).all, r1, e3, fun v' H' a b c => q v' H' (x1.trans a) b c⟩⟩
theorem read2 {Z : Zt} {A : List Addr} {σ : L2.St} {H : Hp} {Q : VK} (h : tD X Z A (f2 g2 Fa Fb) σ H Q) : tDW X Z A Fa σ H fun x H1 => tDW X Z A Fb σ H1 fun y H2 => tNil σ H2 fun xs H3 => rD2 X.K g2 (x :: y :: xs) H3 Q := by
  obtain ⟨B, ow, δ, s, d, s', R, S, e, q⟩ := h
  unfold f2 at e
  first | refine bnd2 e fun dx s1 e1 e => ?_ | refine mpp2 e fun dx s1 e1 e => ?_
  replace e : ((Fb δ s1).bind fun q => (g2 dx q.1).map fun d => (d, q.2)) = some (d, s') := e
  first | refine bnd2 e fun dy s2 e2 e => ?_ | refine mpp2 e fun dy s2 e2 e => ?_
  replace e : ((g2 dx dy).map fun d => (d, s2)) = some (d, s') := e
  cases e3 : g2 dx dy with
  | none => rw [e3] at e; cases e
  | some d' =>
    rw [e3] at e
    cases e
    exact ⟨B, ow, δ, s, dx, s1, R, S, e1, fun v H1 x1 S1 r1 => ⟨B, ow, δ, s1, dy, s', R.mono x1, S1, e2, fun u H2 x2 S2 r2 => ⟨Z, _, s', v, u, dx, dy, d, rfl, S2, ((R.mono x1).mono x2).all, r1.ext x2, r2, e3, fun v' H' a b c => q v' H' ((x1.trans x2).trans a) b c⟩⟩⟩
theorem de_b1 (hc : CallR X (.builtin id) (rD1 X.K g)) (hv : bootBuiltins x = some (.builtin id)) (hm : X.mg x = none) (ha : DW X e Fa) (hg : Gl X x := by rfl) (hn : x ≠ "__name__" := by decide) (hdb : (x == ("__debug__" : Str)) = false := by decide)
    (hs : starEach [e] X.env = (false, eval e X.env) :: starEach [] X.env := by rfl) : DE X (.Call (.Name x p) [e] [] pos) (f1 g Fa) := ⟨fun Z A => PE.imp (pe_callB hc hg hm hv (pa_cons (ha Z A) pa_nil hs) hn hdb hs rfl) fun σ H Q q => read1 q⟩
theorem de_b2 (hc : CallR X (.builtin id) (rD2 X.K g2)) (hv : bootBuiltins x = some (.builtin id)) (hm : X.mg x = none) (ha : DW X e Fa) (hb : DW X e2 Fb) (hg : Gl X x := by rfl) (hn : x ≠ "__name__" := by decide) (hdb : (x == ("__debug__" : Str)) = false := by decide)
    (hs : starEach [e, e2] X.env = (false, eval e X.env) :: starEach [e2] X.env := by rfl) (hs2 : starEach [e2] X.env = (false, eval e2 X.env) :: starEach [] X.env := by rfl) (hpl : (backTo pos (starEach [e2] X.env)).any (·.1) = false := by rfl) : DE X (.Call (.Name x p) [e, e2] [] pos) (f2 g2 Fa Fb) := ⟨fun Z A => PE.imp (pe_callB hc hg hm hv (pa_cons (ha Z A) (pa_cons (hb Z A) pa_nil hs2) hs) hn hdb hs hpl) fun σ H Q q => read2 q⟩
theorem de_t1 (hc : CallR X (.type T) (rD1 X.K g)) (hv : bootBuiltins x = some (.type T)) (hm : X.mg x = none) (ha : DW X e Fa) (hg : Gl X x := by rfl) (hn : x ≠ "__name__" := by decide) (hdb : (x == ("__debug__" : Str)) = false := by decide)
    (hs : starEach [e] X.env = (false, eval e X.env) :: starEach [] X.env := by rfl) : DE X (.Call (.Name x p) [e] [] pos) (f1 g Fa) := ⟨fun Z A => PE.imp (pe_callTy hc hg hm hv (pa_cons (ha Z A) pa_nil hs) hn hdb hs rfl) fun σ H Q q => read1 q⟩
noncomputable def gLen : G1 := fun d => match d with | .list xs => some (.int xs.length) | .tuple xs => some (.int xs.length) | _ => none
theorem dc_len : CallR X (.builtin "len") (rD1 X.K gLen) := CallR.imp call_len_seq fun xs H Q x__87 => by
  obtain ⟨Z, A, st, x, dx, d, e0, S, hA, rx, e, q⟩ := x__87
  subst e0
  cases dx with
  | list ds => cases e; obtain ⟨p, vs, ev, sq, _, rs⟩ := rx.list; exact ⟨p, vs, by rw [ev], .inl sq, by rw [rs.length]; exact q _ H (Ext.refl H) S (.int _)⟩
  | tuple ds => cases e; obtain ⟨p, vs, ev, sq, rs⟩ := rx.tuple; exact ⟨p, vs, by rw [ev], .inr sq, by rw [rs.length]; exact q _ H (Ext.refl H) S (.int _)⟩
  | _ => cases e
noncomputable def gAbs : G1 := fun d => match d with | .int i => some (.int (if i < 0 then -i else i)) | _ => none
theorem dc_abs : CallR X (.builtin "abs") (rD1 X.K gAbs) := CallR.imp call_abs fun xs H Q x__88 => by
  obtain ⟨Z, A, st, x, dx, d, e0, S, hA, rx, e, q⟩ := x__88
  subst e0
  cases dx with
  | int i => cases e; exact ⟨i, by rw [rx.int], q _ H (Ext.refl H) S (.int _)⟩
  | _ => cases e
noncomputable def gInt : G1 := fun d => match d with | .int i => some (.int i) | .bool k => some (.int (if k then 1 else 0)) | _ => none
theorem dc_int : CallR X (.type "int") (rD1 X.K gInt) := CallR.imp call_int1 fun xs H Q x__89 => by
  obtain ⟨Z, A, st, x, dx, d, e0, S, hA, rx, e, q⟩ := x__89
  subst e0
  cases dx with
  | int i => cases e; exact .inl ⟨i, by rw [rx.int], q _ H (Ext.refl H) S (.int _)⟩
  | bool i => cases e; exact .inr ⟨i, by rw [rx.bool], q _ H (Ext.refl H) S (.int _)⟩
  | _ => cases e
noncomputable def gMin : G2 := gI (fun _ _ => true) fun i j => .int (if j < i then j else i)
theorem dc_min (hc : X.calm = true) : CallR X (.builtin "min") (rD2 X.K gMin) := CallR.imp (call_min2 hc) fun xs H Q x__90 => by
  obtain ⟨Z, A, st, x, y, dx, dy, d, e0, S, hA, rx, ry, e, q⟩ := x__90
  subst e0
  unfold gMin gI at e
  split at e
  · cases e; exact ⟨_, _, by rw [rx.int, ry.int], q _ H (Ext.refl H) S (.int _)⟩
  · cases e
noncomputable def gTuple : G1 := fun d => match d with | .list xs => some (.tuple xs) | .tuple xs => some (.tuple xs) | _ => none
theorem dc_tuple : CallR X (.type "tuple") (rD1 X.K gTuple) := CallR.imp call_tuple_of fun xs H Q x__91 => by
  obtain ⟨Z, A, st, x, dx, d, e0, S, hA, rx, e, q⟩ := x__91
  subst e0
  cases dx with
  | list ds =>
    cases e; obtain ⟨p, vs, ev, sq, _, rs⟩ := rx.list
    exact ⟨p, vs, by rw [ev], .inl ⟨sq, fun l hl => q _ _ (Ext.upd hl) (S.upd hl) (.tup upd_same (fresh_not hA hl) (S.notZ hl) (rs.ext (Ext.upd hl)))⟩⟩
  | tuple ds =>
    cases e
    have rx' := rx
    obtain ⟨p, vs, ev, sq, rs⟩ := rx.tuple
    subst ev
    refine ⟨p, vs, rfl, .inr ⟨sq, q _ H (Ext.refl H) S ?_⟩⟩
    rcases rx' with r | ⟨_, _, _, _, e2, _⟩
    · exact r
    · cases e2
  | _ => cases e
noncomputable def gList : G1 := fun d => match d with | .list xs => some (.list xs) | .tuple xs => some (.list xs) | _ => none
theorem dc_list : CallR X (.type "list") (rD1 X.K gList) := CallR.imp call_list_of fun xs H Q x__92 => by
  obtain ⟨Z, A, st, x, dx, d, e0, S, hA, rx, e, q⟩ := x__92
  subst e0
  cases dx with
  | list ds =>
    cases e; obtain ⟨p, vs, ev, sq, _, rs⟩ := rx.list
    exact ⟨p, vs, by rw [ev], .inl sq, fun l hl => q _ _ (Ext.upd hl) (S.upd hl) (.lst upd_same (fresh_not hA hl) (S.notZ hl) (rs.ext (Ext.upd hl)))⟩
  | tuple ds =>
    cases e; obtain ⟨p, vs, ev, sq, rs⟩ := rx.tuple
    exact ⟨p, vs, by rw [ev], .inr sq, fun l hl => q _ _ (Ext.upd hl) (S.upd hl) (.lst upd_same (fresh_not hA hl) (S.notZ hl) (rs.ext (Ext.upd hl)))⟩
  | _ => cases e
noncomputable def bools : List D → Option (List Bool)
  | [] => some []
  | .bool k :: r => (bools r).map (k :: ·)
  | _ => none
noncomputable def gAll : G1 := fun d => match d with | .list xs => (bools xs).map fun ks => .bool (ks.all (fun b => b)) | _ => none
theorem bools_get : ∀ {ds : List D} {ks : List Bool}, bools ds = some ks → ds = ks.map PyData.bool
  | [], ks, e => by simp [bools] at e; subst e; rfl
  | d :: r, ks, e => by
    cases d with
    | bool k =>
      simp only [bools, Option.map_eq_some_iff] at e
      obtain ⟨ks', h1, rfl⟩ := e
      rw [bools_get h1]; rfl
    | _ => cases e
theorem range_all (ks : List Bool) : (List.range ks.length).all (fun i => ks.getD i false) = ks.all (fun b => b) := by
  induction ks with
  | nil => rfl
  | cons k r ih =>
    rw [List.length_cons, List.range_succ_eq_map, List.all_cons, List.all_map, List.all_cons, ← ih]
    congr 1
theorem dc_all (hc : X.calm = true) : CallR X (.builtin "all") (rD1 X.K gAll) := fun pins s σ H xs us Q I rv x__93 => by
  obtain ⟨Z, A, st, x, dx, d, e0, S, hA, rx, e, q⟩ := x__93
  subst e0
  obtain ⟨u, rfl, ru⟩ := vals1 rv
  cases dx with
  | list ds =>
    replace e : ((bools ds).map fun ks => PyData.bool (ks.all (fun b => b))) = some d := e
    first | refine bnd1 e fun ks e1 e => ?_ | refine mpp1 e fun ks e1 e => ?_
    cases e
    have eds := bools_get e1
    subst eds
    obtain ⟨p, vs, ev, sq, _, rs⟩ := rx.list
    subst ev
    cases (show u = Value.ref p from ru)
    obtain ⟨its, r2, pl, _⟩ := I.list sq
    have hl := pl.isList
    have lens : its.length = ks.length := by rw [← r2.length, rs.length, List.length_map]
    refine call_all_walk (wpAny_pyIter_list hl ?_)
    have lt : LT.lt (α := Nat) p s.heap.objs.size := by obtain ⟨_, e, _⟩ := hl; exact Heap.lt_size e
    refine ⟨_, _, _, _, _, _, fun i => ks.getD i false, rfl, Walks.list (A := X.A.in1) (show X.A.in1.handled = none from I.ok.hd hc) s.heap.objs.size p (Nat.ne_of_lt lt) its.toArray, ⟨⟨_, Heap.get?_push_size _ rfl, rfl, rfl⟩, hl.push _⟩, ?_, fun h' tk kp => ?_⟩
    · intro i v s' Q' E' hP hQ
      have hi : its[i]? = some v := by simpa using hP
      obtain ⟨vv, h1, h2⟩ : ∃ vv, vs[i]? = some vv ∧ RelV vv v := by
        cases e3 : vs[i]? with
        | none => rw [r2.none_of e3] at hi; cases hi
        | some vv => obtain ⟨u', h3, h4⟩ := r2.get e3; rw [h3] at hi; cases hi; exact ⟨vv, rfl, h4⟩
      obtain ⟨dd, h3, h4⟩ := rs.at h1
      rw [List.getElem?_map] at h3
      cases e4 : ks[i]? with
      | none => rw [e4] at h3; cases h3
      | some k =>
        rw [e4] at h3
        cases h3
        cases h4
        cases h2
        refine wpAny_truthy_bool ?_
        have eg : ks.getD i false = k := by simp [e4]
        have hQ2 : Q' (ks.getD i false) s' := hQ
        rw [eg] at hQ2
        exact hQ2
    · have e5 : (List.range its.toArray.size).all (fun i => ks.getD i false) = ks.all (fun b => b) := by rw [List.size_toArray, lens]; exact range_all ks
      rw [e5]
      refine ⟨.bl _, H, ?_, rfl, q _ H (Ext.refl H) S (.bl _)⟩
      refine I.kept (h' := h') (t' := tk) fun b o eb => kp b o ?_ (Heap.get?_push_of_some _ eb)
      intro z
      have z' : b = s.heap.objs.size := by simpa using z
      rw [z'] at eb
      exact Nat.lt_irrefl _ (Heap.lt_size eb)
  | _ => cases e
noncomputable def tyN : D → Option String
  | .none => some "NoneType" | .bool _ => some "bool" | .int _ => some "int" | .str _ => some "str" | .list _ => some "list" | .tuple _ => some "tuple" | .dict _ => none
noncomputable def gInst (T : String) : G1 := fun d => (tyN d).map fun t => .bool (t == T || (t == "bool" && T == "int"))
noncomputable def isTy (T : String) : Bool := T == "int" || T == "bool" || T == "str" || T == "list" || T == "tuple"
theorem kit_ty (K : PySem.W.Frag) {t T : String} (ht : t = "NoneType" ∨ t = "bool" ∨ t = "int" ∨ t = "str" ∨ t = "list" ∨ t = "tuple") (hT : isTy T = true) : PySem.W.kitOne K (.type t) (.type T) = some (t == T || (t == "bool" && T == "int")) := by
  have hT' : T = "int" ∨ T = "bool" ∨ T = "str" ∨ T = "list" ∨ T = "tuple" := by simpa [isTy, or_assoc] using hT
  rcases hT' with rfl | rfl | rfl | rfl | rfl <;> rcases ht with rfl | rfl | rfl | rfl | rfl | rfl <;> first | rfl | decide +kernel
theorem TypeIs.isinst {pins : List (Addr × Obj)} {σ : L2.St} {H : Hp} {s : Shared} {Z : Zt} {A : List Addr} {v : V} {d : D} {u : Value} {t : String} {Q : Value → Shared → Prop} (I : Inv X pins σ H s) (r : RepW X.K Z H A v d) (ru : RelV v u) (et : tyN d = some t) (hT : isTy T = true)
    (h : ∀ tk, Q (.bool (t == T || (t == "bool" && T == "int"))) { s with toks := tk }) : wpAny (model X.prog X.w) X.A (call (.builtin "isinstance") [u, .type T]) Q X.xe s := by
  cases d with
  | none => cases et; cases r.none; cases ru; exact PySem.W.kia_one PySem.W.kitx_none I.kIn True.intro (kit_ty X.K (by simp) hT) (fun z => nomatch z) h
  | bool b => cases et; cases r.bool; cases ru; exact PySem.W.kia_one PySem.W.kitx_bool I.kIn True.intro (kit_ty X.K (by simp) hT) (fun z => nomatch z) h
  | int b => cases et; cases r.int; obtain ⟨t, rfl⟩ := ru; exact PySem.W.kia_one PySem.W.kitx_int I.kIn True.intro (kit_ty X.K (by simp) hT) (fun z => nomatch z) h
  | str b => cases et; cases r.str; obtain ⟨t, rfl⟩ := ru; exact PySem.W.kia_one PySem.W.kitx_str I.kIn True.intro (kit_ty X.K (by simp) hT) (fun z => nomatch z) h
  | list ds =>
    cases et
    obtain ⟨p, vs, rfl, sq, _, rs⟩ := r.list
    cases ru
    obtain ⟨its, r2, pl, _⟩ := I.list sq
    obtain ⟨o, e1, e2, _⟩ := pl.isList
    exact PySem.W.kia_one PySem.W.kitx_list I.kIn ⟨o, e1, e2⟩ (kit_ty X.K (by simp) hT) (fun z => nomatch z) h
  | tuple ds =>
    cases et
    obtain ⟨p, vs, rfl, sq, rs⟩ := r.tuple
    cases ru
    obtain ⟨its, r2, ⟨o, e1, e2, _⟩, _⟩ := I.tuple sq
    exact PySem.W.kia_one PySem.W.kitx_tuple I.kIn ⟨o, e1, e2⟩ (kit_ty X.K (by simp) hT) (fun z => nomatch z) h
  | dict _ => cases et
theorem dc_inst (hT : isTy T = true) : CallR X (.builtin "isinstance") (fun xs H Q => ∃ y, xs = [y, .ty T] ∧ rD1 X.K (gInst T) [y] H Q) := fun pins s σ H xs us Q I rv x__94 => by
  obtain ⟨y, e0, Z, A, st, x, dx, d, e1, S, hA, rx, e, q⟩ := x__94
  subst e0
  cases e1
  obtain ⟨u, u2, rfl, ru, ru2⟩ := vals2 rv
  cases ru2
  unfold gInst at e
  first | refine bnd1 e fun t et e => ?_ | refine mpp1 e fun t et e => ?_
  cases e
  exact TypeIs.isinst I rx ru et hT fun tk => ⟨.bl _, H, I.tok tk, rfl, q _ H (Ext.refl H) S (.bl _)⟩
theorem de_inst {q : Pos} (hT : isTy T = true) (hv : bootBuiltins x = some (.type T)) (hm : X.mg "isinstance" = none) (hm2 : X.mg x = none) (ha : DW X e Fa) (hg : Gl X "isinstance" := by rfl) (hg2 : Gl X x := by rfl)
    (hn : x ≠ "__name__" := by decide) (hdb : (x == ("__debug__" : Str)) = false := by decide) (hs : starEach [e, .Name x q] X.env = (false, eval e X.env) :: starEach [.Name x q] X.env := by rfl) : DE X (.Call (.Name "isinstance" p) [e, .Name x q] [] pos) (f1 (gInst T) Fa) := ⟨fun Z A => PE.imp (pe_callB (dc_inst hT) hg hm (by first | rfl | decide +kernel) (pa_cons (ha Z A) (pa_cons (pe_bltn (v := .ty T) hg2 hm2 hv rfl hn hdb) pa_nil rfl) hs) (by decide) (by decide) hs rfl) fun σ H Q h => by
    obtain ⟨B, ow, δ, s, dx, s1, R, S, e1, q⟩ := read1 h
    exact ⟨B, ow, δ, s, dx, s1, R, S, e1, fun v H1 x1 S1 r1 => ⟨v, rfl, q v H1 x1 S1 r1⟩⟩⟩
noncomputable abbrev GF := List D → Sx → Option (D × Sx)
inductive spD (K : PySem.W.Frag) (g : GF) (vs : List V) (H : Hp) (Q : VK) (_E : XK) : Prop
  | mk (Z : Zt) (A : List Addr) (ds : List D) (s : Sx) (d : D) (s' : Sx) (h0 : Reps K Z H A vs ds) (h1 : (∀ q ∈ A, (∃ o, H q = some o) ∧ NotZ Z q)) (h2 : StateAt Z H s) (h3 : g ds s = some (d, s')) (h4 : ∀ v H', Ext Z H H' → StateAt Z H' s' → Rep K Z H' A v d → Q v H')
noncomputable def fCall (g : GF) (FL : FA) : FE := fun δ s => (FL δ s).bind fun p => g p.1 p.2
theorem read_call {gf : GF} {Z : Zt} {A : List Addr} {σ : L2.St} {H : Hp} {Q : VK} {E : XK} (h : tD X Z A (fCall gf FL) σ H Q) : tCall (spD X.K gf) [] E (tDA X Z A FL) σ H Q := by
  obtain ⟨B, ow, δ, s, d, s', R, S, e, q⟩ := h
  unfold fCall at e
  first | refine bnd2 e fun ds s1 e1 e => ?_ | refine mpp2 e fun ds s1 e1 e => ?_
  refine ⟨B, ow, δ, s, ds, s1, R, S, e1, fun vs H1 x1 S1 rs => ?_⟩
  show spD X.K gf (vs ++ []) H1 Q E
  rw [List.append_nil]
  refine ⟨Z, A ++ ow.map (·.2), ds, s1, d, s', rs, fun q hq => ?_, S1, e, fun v H' a b c => q v H' (x1.trans a) b c⟩
  refine ⟨(R.mono x1).all q hq, ?_⟩
  rcases List.mem_append.mp hq with h | h
  · exact (R.ok q h).2
  · obtain ⟨⟨i, p⟩, hp, rfl⟩ := List.mem_map.mp h
    exact (R.ows i p hp).2.2.1
theorem de_call {gf : GF} {k : Nat} {f : Addr} {fd : FuncData} {ps : List Str} (G : FnOk X.prog X.w X.K X.mg X.base CX0 k f fd ps (spD X.K gf)) (hr : Room k X.A) (hm : X.mg x = some (.ref f)) (hk : PySem.W.keepIn X.K (.ref f) = true) (hb : Binds X.K fd ps [])
    (ha : DA X (e :: es) FL) (hg : Gl X x := by rfl) (hdb : (x == ("__debug__" : Str)) = false := by decide) (he : starEach (e :: es) X.env = (false, eval e X.env) :: starEach es X.env := by rfl) (hpl : (backTo pos (starEach es X.env)).any (·.1) = false := by rfl) :
    DE X (.Call (.Name x p) (e :: es) [] pos) (fCall gf FL) := ⟨fun Z A => PE.imp (pe_call G hr hg hm hk hb .nil pass0 (ha Z A) hdb he hpl) fun σ H Q q => read_call q⟩
theorem de_mod {a : Addr} {vs : List V} {ds : List D} (hm : X.mg x = some (.ref a)) (hT : ModT X.K a vs) (hr : ∀ Z H A, Reps X.K Z H A vs ds) (hg : Gl X x := by rfl) (hdb : (x == ("__debug__" : Str)) = false := by decide) : DE X (.Name x pos) (fC (.tuple ds)) := ⟨fun Z A => PE.imp (pe_glob (v := .ref a) hg hm rfl hdb) fun σ H Q x__95 => by
    obtain ⟨B, ow, δ, s, d, s', R, S, e, q⟩ := x__95
    cases e
    exact q _ H (Ext.refl H) S (.mod hT (hr Z H _))⟩
end
end L3

namespace L3
open PySem L2 PySem.Spec PyProof.Rows

inductive Out where
  | next (δ : Sl) | ret (d : D) | brk (δ : Sl) | cnt (δ : Sl) | own (xs : List D)
noncomputable abbrev GS := Sl → Sx → Option (Out × Sx)
noncomputable def postS (X : Cx) (Z : Zt) (A : List Addr) (ow : Ow) (H : Hp) (s' : Sx) (E : Ends) : Out → Prop
  | .next δ' => ∀ ow' σ' H', RepS X.K X.H₀ Z A ow' σ' δ' H' → StateAt Z H' s' → Frm Z ow H ow' H' → E.nx σ' H'
  | .ret d => ∀ v H', Ext Z X.H₀ H' → StateAt Z H' s' → Rep X.K Z H' A v d → E.rt v H'
  | .own xs => ∀ p vs H', Ext Z X.H₀ H' → StateAt Z H' s' → X.H₀ p = none → H' p = some (.lst vs) → Reps X.K Z H' (p :: A) vs xs → E.rt (.ref p) H'
  | .brk δ' => ∀ ow' σ' H', RepS X.K X.H₀ Z A ow' σ' δ' H' → StateAt Z H' s' → Frm Z ow H ow' H' → E.bk σ' H'
  | .cnt δ' => ∀ ow' σ' H', RepS X.K X.H₀ Z A ow' σ' δ' H' → StateAt Z H' s' → Frm Z ow H ow' H' → E.ct σ' H'
theorem postS.frm {X : Cx} {Z : Zt} {A : List Addr} {ow ow' : Ow} {H H' : Hp} {s' : Sx} {E : Ends} {o : Out} (h : postS X Z A ow H s' E o) (f : Frm Z ow H ow' H') : postS X Z A ow' H' s' E o := by
  cases o with
  | next δ => exact fun ow2 σ2 H2 a b c => h ow2 σ2 H2 a b (f.trans c)
  | ret d => exact h
  | own d => exact h
  | brk δ => exact fun ow2 σ2 H2 a b c => h ow2 σ2 H2 a b (f.trans c)
  | cnt δ => exact fun ow2 σ2 H2 a b c => h ow2 σ2 H2 a b (f.trans c)
inductive tDS (X : Cx) (Z : Zt) (A : List Addr) (G : GS) (E : Ends) (σ : L2.St) (H : Hp) : Prop
  | mk (ow : Ow) (δ : Sl) (s : Sx) (o : Out) (s' : Sx) (h0 : RepS X.K X.H₀ Z A ow σ δ H) (h1 : StateAt Z H s) (h2 : G δ s = some (o, s')) (h3 : postS X Z A ow H s' E o)
structure DS (X : Cx) (st : Stmt) (G : GS) : Prop where
  go : ∀ Z A, PS X st (tDS X Z A G)
instance {X : Cx} {st : Stmt} {G : GS} : CoeFun (DS X st G) (fun _ => ∀ Z A, PS X st (tDS X Z A G)) := ⟨fun h => h.go⟩
structure DSs (X : Cx) (st : List Stmt) (G : GS) : Prop where
  go : ∀ Z A, PSs X st (tDS X Z A G)
instance {X : Cx} {st : List Stmt} {G : GS} : CoeFun (DSs X st G) (fun _ => ∀ Z A, PSs X st (tDS X Z A G)) := ⟨fun h => h.go⟩
noncomputable def sNext : GS := fun δ s => some (.next δ, s)
noncomputable def sSeq (G1 G2 : GS) : GS := fun δ s => match G1 δ s with | some (.next δ', s') => G2 δ' s' | r => r
section
variable {X : Cx} {st : Stmt} {sts body a b : List Stmt} {G G1 G2 : GS} {e c : Expr} {F : FE} {Ft : FT} {FL : FA} {pos : Pos}
theorem dss_nil : DSs X [] sNext := ⟨fun Z A => PSs.imp pss_nil fun E σ H x__96 => by
  obtain ⟨ow, δ, s, o, s', R, S, e, q⟩ := x__96
  cases e
  exact q ow σ H R S .refl⟩
theorem dss_one (h : DS X st G) : DSs X [st] G := ⟨fun Z A => pss_one (h Z A)⟩
theorem dss_cons (h1 : DS X st G1) (h2 : DSs X sts G2) : DSs X (st :: sts) (sSeq G1 G2) := ⟨fun Z A => PSs.imp (pss_cons (h1 Z A) (h2 Z A)) fun E σ H x__97 => by
  obtain ⟨ow, δ, s, o, s', R, S, e, q⟩ := x__97
  unfold sSeq at e
  cases e1 : G1 δ s with
  | none => rw [e1] at e; cases e
  | some p =>
    obtain ⟨o1, s1⟩ := p
    rw [e1] at e
    cases o1 with
    | next δ1 => exact ⟨ow, δ, s, .next δ1, s1, R, S, e1, fun ow' σ' H' R' S' f => ⟨ow', δ1, s1, o, s', R', S', e, q.frm f⟩⟩
    | ret d => cases e; exact ⟨ow, δ, s, _, _, R, S, e1, q⟩
    | own d => cases e; exact ⟨ow, δ, s, _, _, R, S, e1, q⟩
    | brk d => cases e; exact ⟨ow, δ, s, _, _, R, S, e1, q⟩
    | cnt d => cases e; exact ⟨ow, δ, s, _, _, R, S, e1, q⟩⟩
theorem RepS.set {K : PySem.W.Frag} {B : Hp} {Z : Zt} {A : List Addr} {ow : Ow} {σ : L2.St} {δ : Sl} {H : Hp} {i : Nat} {v : V} {d : D} (R : RepS K B Z A ow σ δ H) (r : Rep K Z H (A ++ ow.map (·.2)) v d) :
    RepS K B Z A (ow.filter fun p => decide (p.1 ≠ i)) (σ.set i (some v)) (δ.set i (.val d)) H ∧ Frm Z ow H (ow.filter fun p => decide (p.1 ≠ i)) H := by
  have sub : ∀ q ∈ A ++ (ow.filter fun p => decide (p.1 ≠ i)).map (·.2), q ∈ A ++ ow.map (·.2) := fun q hq => by
    rcases List.mem_append.mp hq with h | h
    · exact List.mem_append_left _ h
    · obtain ⟨p, hp, rfl⟩ := List.mem_map.mp h
      exact List.mem_append_right _ (List.mem_map_of_mem (List.mem_filter.mp hp).1)
  refine ⟨⟨R.ok, R.ext, by rw [List.length_set, List.length_set]; exact R.len, fun j d' h => ?_, fun j xs h => ?_, fun j p h => R.ows j p (List.mem_filter.mp h).1, fun j k p h1 h2 => R.inj j k p (List.mem_filter.mp h1).1 (List.mem_filter.mp h2).1⟩, fun b o h n m => ⟨h, fun z => m ?_⟩⟩
  · by_cases hj : i = j
    · subst hj
      have hi : i < δ.length := by
        have := (List.getElem?_eq_some_iff.mp h).1
        rwa [List.length_set] at this
      rw [List.getElem?_set_self hi] at h
      cases h
      exact ⟨v, List.getElem?_set_self (by rw [← R.len]; exact hi), r.sub sub⟩
    · rw [List.getElem?_set_ne hj] at h
      obtain ⟨v', h1, h2⟩ := R.val j d' h
      exact ⟨v', by rw [List.getElem?_set_ne hj]; exact h1, h2.sub sub⟩
  · by_cases hj : i = j
    · subst hj
      have hi : i < δ.length := by
        have := (List.getElem?_eq_some_iff.mp h).1
        rwa [List.length_set] at this
      rw [List.getElem?_set_self hi] at h
      cases h
    · rw [List.getElem?_set_ne hj] at h
      obtain ⟨p, vs, h1, h2, h3, h4⟩ := R.own j xs h
      exact ⟨p, vs, List.mem_filter.mpr ⟨h1, decide_eq_true (Ne.symm hj)⟩, by rw [List.getElem?_set_ne hj]; exact h2, h3, h4.sub sub⟩
  · obtain ⟨p, hp, e⟩ := List.mem_map.mp z
    exact List.mem_map.mpr ⟨p, (List.mem_filter.mp hp).1, e⟩
noncomputable def sSet (i : Nat) (F : FE) : GS := fun δ s => (F δ s).map fun p => (.next (δ.set i (.val p.1)), p.2)
theorem ds_set {i : Nat} {x : Str} {pos' : Pos} (hN : X.N.Nodup) (he : DE X e F) (hi : X.N[i]? = some x := by rfl) (hx : Loc X.env.scope x := by first | exact Or.inl rfl | exact Or.inr rfl) (hs : swapsWith e (some (.Name x pos')) pos.line X.env = pure false := by rfl)
    (hf : X.fn x = true ∨ X.env.scope.names.lookup x = some .local := by first | exact .inl rfl | exact .inr rfl | assumption) : DS X (.Assign [.Name x pos'] e pos) (sSet i F) := ⟨fun Z A => PS.imp (ps_set hN hi hx (he Z A) hs hf) fun E σ H x__98 => by
  obtain ⟨ow, δ, s, o, s', R, S, e, q⟩ := x__98
  unfold sSet at e
  cases e1 : F δ s with
  | none => rw [e1] at e; cases e
  | some p =>
    rw [e1] at e
    cases e
    refine ⟨_, ow, δ, s, _, _, R, S, e1, fun v H' x1 S1 r => ?_⟩
    obtain ⟨R', f⟩ := (R.mono x1).set (i := i) r
    exact q _ _ H' R' S1 ((Frm.ext x1).trans f)⟩
noncomputable def sPar (i j : Nat) (FL : FA) : GS := fun δ s => (FL δ s).bind fun p => match p.1 with | [x, y] => some (.next ((δ.set i (.val x)).set j (.val y)), p.2) | _ => none
theorem ds_par {i j : Nat} {x y : Str} {a b : Expr} {px py pt : Pos} {kt k2 pt2} (hN : X.N.Nodup) (hij : i ≠ j) (ha : DA X [a, b] FL) (hw : swappedStores [.Tuple [.Name x px, .Name y py] kt pt] (.Tuple [a, b] k2 pt2) X.env = pure (some [x, y]))
    (hi : X.N[i]? = some x := by rfl) (hj : X.N[j]? = some y := by rfl) (hx : X.env.scope.names.lookup x = some .local := by rfl) (hy : X.env.scope.names.lookup y = some .local := by rfl) (hc : X.calm = true := by rfl)
    (hs : swapsWithSole [.Tuple [.Name x px, .Name y py] kt pt] (.Tuple [a, b] k2 pt2) pos.line X.env = pure false := by rfl) : DS X (.Assign [.Tuple [.Name x px, .Name y py] kt pt] (.Tuple [a, b] k2 pt2) pos) (sPar i j FL) := ⟨fun Z A => PS.imp (ps_par hc hN hi hj hij hx hy (ha Z A) hw hs) fun E σ H x__99 => by
    obtain ⟨ow, δ, s, o, s', R, S, e, q⟩ := x__99
    unfold sPar at e
    cases e1 : FL δ s with
    | none => rw [e1] at e; cases e
    | some p =>
      obtain ⟨ds, s1⟩ := p
      rw [e1] at e
      refine ⟨_, ow, δ, s, ds, s1, R, S, e1, fun vs H' x1 S1 rs => ?_⟩
      rcases ds with _ | ⟨dx, _ | ⟨dy, _ | _⟩⟩
      · cases e
      · cases e
      · cases e
        cases rs with
        | cons r1 rs =>
          cases rs with
          | cons r2 rs =>
            cases rs
            obtain ⟨R1, f1⟩ := (R.mono x1).set (i := i) r1
            obtain ⟨R2, f2⟩ := R1.set (i := j) (r2.frm f1)
            exact ⟨_, _, rfl, q _ _ H' R2 S1 (((Frm.ext x1).trans f1).trans f2)⟩
      · cases e⟩
noncomputable def sRet (F : FE) : GS := fun δ s => (F δ s).map fun p => (.ret p.1, p.2)
theorem ds_ret (he : DE X e F) : DS X (.Return (some e) pos) (sRet F) := ⟨fun Z A => PS.imp (ps_ret (he Z A)) fun E σ H x__100 => by
  obtain ⟨ow, δ, s, o, s', R, S, e, q⟩ := x__100
  unfold sRet at e
  cases e1 : F δ s with
  | none => rw [e1] at e; cases e
  | some p =>
    rw [e1] at e
    cases e
    exact ⟨_, ow, δ, s, _, _, R, S, e1, fun v H' x1 S1 r => q v H' (R.ext.trans x1) S1 (r.sub fun q hq => List.mem_append_left _ hq)⟩⟩
noncomputable def sIf (Ft : FT) (G1 G2 : GS) : GS := fun δ s => (Ft δ s).bind fun p => if p.1 = true then G1 δ p.2 else G2 δ p.2
theorem ds_if (hc : DT X c Ft) (ha : DSs X a G1) (hb : DSs X b G2) : DS X (.If c a b pos) (sIf Ft G1 G2) := ⟨fun Z A => PS.imp (ps_if (hc Z A) (ha Z A) (hb Z A)) fun E σ H x__101 => by
  obtain ⟨ow, δ, s, o, s', R, S, e, q⟩ := x__101
  unfold sIf at e
  cases e1 : Ft δ s with
  | none => rw [e1] at e; cases e
  | some p =>
    obtain ⟨k, s1⟩ := p
    rw [e1] at e
    refine ⟨_, ow, δ, s, k, s1, R, S, e1, fun H1 x1 S1 => ?_⟩
    cases k with
    | true => exact iteT ⟨ow, δ, s1, o, s', R.mono x1, S1, e, q.frm (Frm.ext x1)⟩
    | false => exact iteF ⟨ow, δ, s1, o, s', R.mono x1, S1, e, q.frm (Frm.ext x1)⟩⟩
noncomputable def whileN (Ft : FT) (G : GS) : Nat → GS
  | 0, _, _ => none
  | n + 1, δ, s => (Ft δ s).bind fun p => if p.1 = true then (match G δ p.2 with
      | some (.next δ', s') => whileN Ft G n δ' s'
      | some (.cnt δ', s') => whileN Ft G n δ' s'
      | some (.brk δ', s') => some (.next δ', s')
      | some (.ret d, s') => some (.ret d, s')
      | some (.own d, s') => some (.own d, s')
      | none => none) else some (.next δ, p.2)
noncomputable def fuel : Nat := 1000000000
noncomputable def sWhile (Ft : FT) (G : GS) : GS := whileN Ft G fuel
theorem ds_while (hc : DT X c Ft) (hb : DSs X body G) (hp : PassesOwn (model X.prog X.w) X.A X.env X.xe := by exact PassesOwn.never) : DS X (.While c body [] pos) (sWhile Ft G) := ⟨fun Z A => PS.imp (ps_while hp (hc Z A) (hb Z A)) fun E σ H x__102 => by
  obtain ⟨ow, δ, s, o, s', R, S, e, q⟩ := x__102
  refine ⟨fun n σ H => ∃ ow δ s, RepS X.K X.H₀ Z A ow σ δ H ∧ StateAt Z H s ∧ whileN Ft G n δ s = some (o, s') ∧ postS X Z A ow H s' E o, ⟨fuel, ow, δ, s, R, S, e, q⟩, ?_⟩
  clear e q S R
  rintro n σ H ⟨ow, δ, s, R, S, e, q⟩
  cases n with
  | zero => cases e
  | succ n =>
    unfold whileN at e
    cases e1 : Ft δ s with
    | none => rw [e1] at e; cases e
    | some p =>
      obtain ⟨k, s1⟩ := p
      rw [e1] at e
      refine ⟨_, ow, δ, s, k, s1, R, S, e1, fun H1 x1 S1 => ?_⟩
      cases k with
      | false => cases e; exact iteF (q ow σ H1 (R.mono x1) S1 (Frm.ext x1))
      | true =>
        refine iteT ?_
        refine ⟨fun σ' H' => ∃ ow δ s, RepS X.K X.H₀ Z A ow σ' δ H' ∧ StateAt Z H' s ∧ whileN Ft G n δ s = some (o, s') ∧ postS X Z A ow H' s' E o, fun σ' H' h => ⟨n, Nat.lt_succ_self _, h⟩, ?_⟩
        replace e : (match G δ s1 with
          | some (.next δ', s') => whileN Ft G n δ' s'
          | some (.cnt δ', s') => whileN Ft G n δ' s'
          | some (.brk δ', s') => some (.next δ', s')
          | some (.ret d, s') => some (.ret d, s')
          | some (.own d, s') => some (.own d, s')
          | none => none) = some (o, s') := e
        have q1 := q.frm (Frm.ext x1)
        cases e2 : G δ s1 with
        | none => rw [e2] at e; cases e
        | some r =>
          obtain ⟨o2, s2⟩ := r
          rw [e2] at e
          refine ⟨ow, δ, s1, o2, s2, R.mono x1, S1, e2, ?_⟩
          cases o2 with
          | next δ2 => exact fun ow' σ' H' R' S' f => ⟨ow', δ2, s2, R', S', e, q1.frm f⟩
          | cnt δ2 => exact fun ow' σ' H' R' S' f => ⟨ow', δ2, s2, R', S', e, q1.frm f⟩
          | brk δ2 => cases e; exact q1
          | ret d => cases e; exact q1
          | own d => cases e; exact q1⟩
theorem whileN_mono {Ft : FT} {G : GS} : ∀ {n m : Nat} {δ : Sl} {s : Sx} {r : Out × Sx}, whileN Ft G n δ s = some r → n ≤ m → whileN Ft G m δ s = some r
  | 0, _, _, _, _, h, _ => by cases h
  | n + 1, 0, _, _, _, _, h => absurd h (Nat.not_succ_le_zero _)
  | n + 1, m + 1, δ, s, r, h, hm => by
    unfold whileN at h ⊢
    cases e1 : Ft δ s with
    | none => rw [e1] at h; cases h
    | some p =>
      rw [e1] at h
      obtain ⟨k, s1⟩ := p
      cases k with
      | false => exact h
      | true =>
        simp only [Option.bind_some, if_true] at h ⊢
        cases e2 : G δ s1 with
        | none => rw [e2] at h; cases h
        | some q =>
          obtain ⟨o2, s2⟩ := q
          rw [e2] at h
          cases o2 with
          | next δ2 => exact whileN_mono h (Nat.le_of_succ_le_succ hm)
          | cnt δ2 => exact whileN_mono h (Nat.le_of_succ_le_succ hm)
          | brk δ2 => exact h
          | ret d => exact h
          | own d => exact h

noncomputable def mkFn (n m : Nat) (G : GS) : GF := fun ds s => if ds.length = n then (match G (ds.map .val ++ List.replicate m .non) s with
  | some (.ret d, s') => some (d, s')
  | some (.next _, s') => some (.none, s')
  | _ => none) else none
theorem reps_val {K : PySem.W.Frag} {Z : Zt} {H : Hp} {A : List Addr} {vs : List V} {ds : List D} (r : Reps K Z H A vs ds) {m i : Nat} {d : D} (h : (ds.map Ce.val ++ List.replicate m Ce.non)[i]? = some (.val d)) : ∃ v, (vs.map some ++ List.replicate m none)[i]? = some (some v) ∧ Rep K Z H A v d := by
  by_cases hi : i < ds.length
  · rw [List.getElem?_append_left (by simpa using hi), List.getElem?_map] at h
    cases e : ds[i]? with
    | none => rw [e] at h; cases h
    | some d' =>
      rw [e] at h
      cases h
      obtain ⟨v, h1, h2⟩ := r.get e
      exact ⟨v, by rw [List.getElem?_append_left (by rw [List.length_map, r.length]; exact hi), List.getElem?_map, h1]; rfl, h2⟩
  · rw [List.getElem?_append_right (by simpa using Nat.not_lt.mp hi), List.getElem?_replicate] at h
    split at h <;> cases h
theorem reps_own {ds : List D} {m i : Nat} {xs : List D} (h : (ds.map Ce.val ++ List.replicate m Ce.non)[i]? = some (.own xs)) : False := by
  by_cases hi : i < ds.length
  · rw [List.getElem?_append_left (by simpa using hi), List.getElem?_map] at h
    cases e : ds[i]? with
    | none => rw [e] at h; cases h
    | some d' => rw [e] at h; cases h
  · rw [List.getElem?_append_right (by simpa using Nat.not_lt.mp hi), List.getElem?_replicate] at h
    split at h <;> cases h
theorem mkFn_len {n m : Nat} {G : GS} {ds : List D} {s : Sx} {r : D × Sx} (h : mkFn n m G ds s = some r) : ds.length = n := by
  unfold mkFn at h
  split at h
  · assumption
  · cases h
theorem fnD {P : Program} {w : World} {K : PySem.W.Frag} {mg : Str → Option Value} {base : Heap} {x qual : Str} {st : Stmt} {f : Addr} {fd : FuncData} {N ps : List Str} {k m : Nat} {G : GS} (Fn : Fun K x qual st f fd) (S : FnScope N ps (defScope st)) (hN : N.length = ps.length + m)
    (hbody : ∀ (cdv : Value) (A : Around) (outer : List Env) (s : Shared) (H : Hp) (E : XK), Room k (A.deeper (envOfC qual (defScope st) s.heap.objs.size f cdv)) → DSs (cxOf CX0 P w K mg base N qual (defScope st) f cdv A outer s H E).nox (defBody st) G) :
    FnOk P w K mg base CX0 (k + 1) f fd ps (spD K (mkFn ps.length m G)) := by
  refine Fn.ok S (fun vs H Q E x__103 => ?_) (fun cdv A outer s H vs Q E hr x__104 => ?_)
  · obtain ⟨Z, A, ds, s, d, s', r, _, _, e, _⟩ := x__103
    rw [r.length]; exact mkFn_len e
  · obtain ⟨Z, A0, ds, st0, d, st1, r, hA, hS, e, q⟩ := x__104
    have hl := mkFn_len e
    refine ⟨_, hbody cdv A outer s H E hr Z A0, ?_⟩
    unfold mkFn at e
    rw [if_pos hl] at e
    have hst : L2.start N vs = vs.map some ++ List.replicate m none := by
      unfold L2.start
      rw [hN, r.length, hl, Nat.add_sub_cancel_left]
    rw [hst]
    have R : RepS K H Z A0 [] (vs.map some ++ List.replicate m none) (ds.map .val ++ List.replicate m .non) H := {
      ok := hA
      ext := Ext.refl H
      len := by simp [r.length]
      val := fun i d h => by
        obtain ⟨v, h1, h2⟩ := reps_val r h
        exact ⟨v, h1, by rw [List.map_nil, List.append_nil]; exact h2⟩
      own := fun i xs h => (reps_own h).elim
      ows := fun i p h => nomatch h
      inj := fun i j p h => nomatch h }
    cases e1 : G (ds.map .val ++ List.replicate m .non) st0 with
    | none => rw [e1] at e; cases e
    | some r1 =>
      obtain ⟨o, s1⟩ := r1
      rw [e1] at e
      refine ⟨[], _, st0, o, s1, R, hS, e1, ?_⟩
      cases o with
      | ret d' => cases e; exact fun v H' a b c => q v H' a b c
      | next δ' => cases e; exact fun ow' σ' H' R' S' f => q .non H' R'.ext S' .non
      | brk δ' => cases e
      | own d' => cases e
      | cnt δ' => cases e
end
end L3

namespace L3
open PySem L2 PySem.Spec PyProof.Rows

noncomputable def Src (K : PySem.W.Frag) (Z : Zt) (A : List Addr) (ow : Ow) (J : It) (ds : List D) (H : Hp) : Prop := ∀ ow' H' st, Frm Z ow H ow' H' → StateAt Z H' st → (∀ q ∈ A ++ ow'.map (·.2), ∃ o, H' q = some o) → ∀ i,
  (∀ d, ds[i]? = some d → J.go i H' ∧ ∀ x H3, J.yld i H' x H3 → Ext Z H' H3 ∧ StateAt Z H3 st ∧ Rep K Z H3 (A ++ ow'.map (·.2)) x d) ∧ (ds.length ≤ i → J.stop i H')
noncomputable abbrev FI := Sl → Sx → Option (List D × Sx)
inductive tDIK (K : PySem.W.Frag) (Z : Zt) (A : List Addr) (F : FI) (σ : L2.St) (H : Hp) (R : It → Hp → Prop) : Prop
  | mk (B : Hp) (ow : Ow) (δ : Sl) (s : Sx) (ds : List D) (s' : Sx) (h0 : RepS K B Z A ow σ δ H) (h1 : StateAt Z H s) (h2 : F δ s = some (ds, s')) (h3 : ∀ J H', Ext Z H H' → StateAt Z H' s' → Src K Z A ow J ds H' → R J H')
noncomputable abbrev tDI (X : Cx) (Z : Zt) (A : List Addr) (F : FI) : TI := tDIK X.K Z A F
structure DI (X : Cx) (tg iter : Expr) (F : FI) : Prop where
  go : ∀ Z A, PI X tg iter (tDI X Z A F)
instance {X : Cx} {tg iter : Expr} {F : FI} : CoeFun (DI X tg iter F) (fun _ => ∀ Z A, PI X tg iter (tDI X Z A F)) := ⟨fun h => h.go⟩
theorem PI.imp {X : Cx} {tg iter : Expr} {t t' : TI} (h : PI X tg iter t) (hi : ∀ σ H R, t' σ H R → t σ H R) : PI X tg iter t' := fun pins s σ H R I q => h pins s σ H R I (hi σ H R q)
noncomputable def seqOf : D → Option (List D)
  | .list xs => some xs
  | .tuple xs => some xs
  | _ => none
noncomputable def iSeq (F : FE) : FI := fun δ s => (F δ s).bind fun p => (seqOf p.1).map fun xs => (xs, p.2)
section
variable {X : Cx} {tg iter e e2 : Expr} {F Fa Fb : FE} {FL : FA} {p pos : Pos}
theorem src_list {K : PySem.W.Frag} {Z : Zt} {A : List Addr} {ow : Ow} {H : Hp} {a : Addr} {vs : List V} {ds : List D} (h : H a = some (.lst vs)) (m : ¬ a ∈ A ++ ow.map (·.2)) (n : NotZ Z a) (r : Reps K Z H (A ++ ow.map (·.2)) vs ds) : Src K Z A ow (Itl K a) ds H := fun ow' H' st f S hA i => by
  have h' := (rd_frm h f n m).1
  have r' := r.frm f
  refine ⟨fun d hd => ?_, fun hi => ⟨vs, .of h', by rw [r.length]; exact hi⟩⟩
  obtain ⟨v, h1, h2⟩ := r'.get hd
  exact ⟨⟨vs, v, .of h', h1⟩, fun x H3 x__105 => by
    obtain ⟨e, y⟩ := x__105
    subst e
    have q := y vs (.of h')
    rw [h1] at q
    cases q
    exact ⟨Ext.refl _, S, h2⟩⟩
theorem src_tup {K : PySem.W.Frag} {Z : Zt} {A : List Addr} {ow : Ow} {H : Hp} {a : Addr} {vs : List V} {ds : List D} (h : ∀ ow' H', Frm Z ow H ow' H' → SqT K H' a vs) (r : Reps K Z H (A ++ ow.map (·.2)) vs ds) : Src K Z A ow (Itt K a) ds H := fun ow' H' st f S hA i => by
  have h' := h ow' H' f
  have r' := r.frm f
  refine ⟨fun d hd => ?_, fun hi => ⟨vs, h', by rw [r.length]; exact hi⟩⟩
  obtain ⟨v, h1, h2⟩ := r'.get hd
  exact ⟨⟨vs, v, h', h1⟩, fun x H3 x__106 => by
    obtain ⟨e, y⟩ := x__106
    subst e
    have q := y vs h'
    rw [h1] at q
    cases q
    exact ⟨Ext.refl _, S, h2⟩⟩
theorem pi_seq {l : Expr} {tl : TE} (hl : PE X l tl) : PI X tg l (fun σ H R => tl σ H fun x H1 => ∃ a, x = .ref a ∧ (((∃ xs, SqL X.K H1 a xs) ∧ R (Itl X.K a) H1) ∨ ((∃ xs, SqT X.K H1 a xs) ∧ R (Itt X.K a) H1))) := fun pins s σ H R I h => by
  refine thn (hl pins s σ H _ I h) fun v s1 x__107 => ?_
  obtain ⟨x, H1, I1, r1, a, e, q⟩ := x__107
  subst e
  obtain rfl : v = Value.ref a := r1
  rcases q with ⟨⟨xs, hx⟩, q⟩ | ⟨⟨xs, hx⟩, q⟩
  · obtain ⟨its, rv, pl, _⟩ := I1.list hx
    refine wpAny_pyIter_list pl.isList ?_
    have nf := I1.hok.fresh (Nat.le_refl s1.heap.objs.size)
    exact ⟨_, [s1.heap.objs.size], _, Itl X.K a, H1, rfl, I1.kept (t' := s1.toks) fun b u eb => Heap.get?_push_of_some _ eb, turn_list a _, ⟨_, Heap.get?_push_size _ rfl, rfl, rfl⟩, fun b hb => by
      have eb : b = s1.heap.objs.size := by simpa using hb
      rw [eb]; exact I1.fpOk (Nat.le_refl _) nf, q⟩
  · obtain ⟨its, rv, ⟨o, e1, e2, n, e3⟩, _⟩ := I1.tuple hx
    refine wpAny_pyIter_tuple (items := its.toArray) ⟨o, e1, e2, n, e3⟩ ?_
    have nf := I1.hok.fresh (Nat.le_refl s1.heap.objs.size)
    exact ⟨_, [s1.heap.objs.size], _, Itt X.K a, H1, rfl, I1.kept (t' := s1.toks) fun b u eb => Heap.get?_push_of_some _ eb, turn_tuple a _, ⟨_, Heap.get?_push_size _ rfl, rfl, rfl⟩, fun b hb => by
      have eb : b = s1.heap.objs.size := by simpa using hb
      rw [eb]; exact I1.fpOk (Nat.le_refl _) nf, q⟩
theorem di_seq (h : DE X e F) : DI X tg e (iSeq F) := ⟨fun Z A => PI.imp (pi_seq (h Z A)) fun σ H R x__108 => by
  obtain ⟨B, ow, δ, s, ds, s', RS, S, ee, q⟩ := x__108
  unfold iSeq at ee
  first | refine bnd2 ee fun d s1 e1 ee => ?_ | refine mpp2 ee fun d s1 e1 ee => ?_
  replace ee : ((seqOf d).map fun xs => (xs, s1)) = some (ds, s') := ee
  refine ⟨B, ow, δ, s, d, s1, RS, S, e1, fun v H1 x1 S1 r => ?_⟩
  cases r with
  | lst h n z rs => cases ee; exact ⟨_, rfl, .inl ⟨⟨_, .of h⟩, q _ H1 x1 S1 (src_list h n z rs)⟩⟩
  | tup h n z rs => cases ee; exact ⟨_, rfl, .inr ⟨⟨_, .of h⟩, q _ H1 x1 S1 (src_tup (fun ow' H' f => .of (rd_frm h f z n).1) rs)⟩⟩
  | mod h rs => cases ee; exact ⟨_, rfl, .inr ⟨⟨_, .inr h⟩, q _ H1 x1 S1 (src_tup (fun ow' H' f => .inr h) rs)⟩⟩
  | non => cases ee
  | bl _ => cases ee
  | int _ => cases ee
  | str _ => cases ee
  | st _ => cases ee
  | obj _ _ _ _ _ => cases ee⟩
noncomputable def rng (lo : Int) (n : Nat) : List D := (List.range n).map fun (k : Nat) => .int (lo + (k : Int))
noncomputable def rOk (i : Int) : Bool := decide (-(2 ^ 62) ≤ i) && decide (i < 2 ^ 62)
noncomputable def iRange1 (F : FE) : FI := fun δ s => (F δ s).bind fun p => match p.1 with | .int j => if rOk j = true then some (rng 0 j.toNat, p.2) else none | _ => none
noncomputable def iRange2 (Fa Fb : FE) : FI := fun δ s => (Fa δ s).bind fun p => (Fb δ p.2).bind fun q => match p.1, q.1 with | .int i, .int j => if (rOk i && rOk j) = true then some (rng i (j - i).toNat, q.2) else none | _, _ => none
theorem src_rng {K : PySem.W.Frag} {Z : Zt} {A : List Addr} {ow : Ow} {H : Hp} (lo : Int) (n : Nat) : Src K Z A ow (Itr lo n) (rng lo n) H := fun ow' H' st f S hA i => by
  refine ⟨fun d hd => ?_, fun hi => (show n ≤ i by simpa [rng] using hi)⟩
  unfold rng at hd
  rw [List.getElem?_map] at hd
  first | refine bnd1 hd fun k e hd => ?_ | refine mpp1 hd fun k e hd => ?_
  cases hd
  have hk : i < n ∧ k = i := by
    have h1 := (List.getElem?_eq_some_iff.mp e).1
    rw [List.length_range] at h1
    rw [List.getElem?_range h1] at e
    exact ⟨h1, (Option.some.inj e).symm⟩
  obtain ⟨h1, rfl⟩ := hk
  exact ⟨h1, fun x H3 x__109 => by obtain ⟨e1, e2⟩ := x__109; subst e1 e2; exact ⟨Ext.refl _, S, .int _⟩⟩
theorem di_range1 (hm : X.mg "range" = none) (ha : DE X e F) (hg : Gl X "range" := by rfl) (hs : starEach [e] X.env = [(false, eval e X.env)] := by rfl) : DI X tg (.Call (.Name "range" p) [e] [] pos) (iRange1 F) := ⟨fun Z A => PI.imp (pi_range1 hg hm (pa_cons (ha Z A) pa_nil hs) hs) fun σ H R x__110 => by
    obtain ⟨B, ow, δ, s, ds, s', RS, S, ee, q⟩ := x__110
    unfold iRange1 at ee
    first | refine bnd2 ee fun d s1 e1 ee => ?_ | refine mpp2 ee fun d s1 e1 ee => ?_
    refine ⟨B, ow, δ, s, d, s1, RS, S, e1, fun v H1 x1 S1 r => ?_⟩
    cases r with
    | int j =>
      replace ee : (if rOk j = true then some (rng 0 j.toNat, s1) else none) = some (ds, s') := ee
      split at ee
      · rename_i hj
        cases ee
        unfold rOk at hj
        rw [Bool.and_eq_true] at hj
        exact ⟨j, rfl, of_decide_eq_true hj.1, of_decide_eq_true hj.2, q _ H1 x1 S1 (src_rng 0 j.toNat)⟩
      · cases ee
    | _ => cases ee⟩
theorem di_range2 (hm : X.mg "range" = none) (ha : DE X e Fa) (hb : DE X e2 Fb) (hg : Gl X "range" := by rfl) (hs : starEach [e, e2] X.env = [(false, eval e X.env), (false, eval e2 X.env)] := by rfl) (hs2 : starEach [e2] X.env = [(false, eval e2 X.env)] := by rfl) :
    DI X tg (.Call (.Name "range" p) [e, e2] [] pos) (iRange2 Fa Fb) := ⟨fun Z A => PI.imp (pi_range2 hg hm (pa_cons (ha Z A) (pa_cons (hb Z A) pa_nil hs2) (by rw [hs, hs2])) hs hs2) fun σ H R x__111 => by
    obtain ⟨B, ow, δ, s, ds, s', RS, S, ee, q⟩ := x__111
    unfold iRange2 at ee
    first | refine bnd2 ee fun d s1 e1 ee => ?_ | refine mpp2 ee fun d s1 e1 ee => ?_
    replace ee : ((Fb δ s1).bind fun q => match d, q.1 with | .int i, .int j => if (rOk i && rOk j) = true then some (rng i (j - i).toNat, q.2) else none | _, _ => none) = some (ds, s') := ee
    first | refine bnd2 ee fun d2 s2 e2 ee => ?_ | refine mpp2 ee fun d2 s2 e2 ee => ?_
    refine ⟨B, ow, δ, s, d, s1, RS, S, e1, fun v H1 x1 S1 r => ⟨B, ow, δ, s1, d2, s2, RS.mono x1, S1, e2, fun v2 H2 x2 S2 r2 => ?_⟩⟩
    cases r with
    | int i =>
      cases r2 with
      | int j =>
        replace ee : (if (rOk i && rOk j) = true then some (rng i (j - i).toNat, s2) else none) = some (ds, s') := ee
        split at ee
        · rename_i hj
          cases ee
          simp only [rOk, Bool.and_eq_true] at hj
          exact ⟨i, j, rfl, ⟨of_decide_eq_true hj.1.1, of_decide_eq_true hj.1.2, of_decide_eq_true hj.2.1, of_decide_eq_true hj.2.2⟩, q _ H2 (x1.trans x2) S2 (src_rng i (j - i).toNat)⟩
        · cases ee
      | _ => cases ee
    | _ => cases ee⟩
noncomputable def iZipF (Fa Fb : FE) : FI := fun δ s => (Fa δ s).bind fun p => (Fb δ p.2).bind fun q => (seqOf p.1).bind fun xs => (seqOf q.1).map fun ys => ((xs.zip ys).map fun z => .tuple [z.1, z.2], q.2)
theorem rep_sq {K : PySem.W.Frag} {Z : Zt} {H : Hp} {A : List Addr} {ow : Ow} {v : V} {d : D} {xs : List D} (r : Rep K Z H (A ++ ow.map (·.2)) v d) (e : seqOf d = some xs) :
    ∃ k a vs, v = .ref a ∧ SqK k K H a vs ∧ Reps K Z H (A ++ ow.map (·.2)) vs xs ∧ ∀ ow' H', Frm Z ow H ow' H' → SqK k K H' a vs := by
  cases r with
  | lst h n z rs => cases e; exact ⟨true, _, _, rfl, SqL.of h, rs, fun ow' H' f => SqL.of (rd_frm h f z n).1⟩
  | tup h n z rs => cases e; exact ⟨false, _, _, rfl, SqT.of h, rs, fun ow' H' f => SqT.of (rd_frm h f z n).1⟩
  | mod h rs => cases e; exact ⟨false, _, _, rfl, .inr h, rs, fun ow' H' f => .inr h⟩
  | non => cases e
  | bl _ => cases e
  | int _ => cases e
  | str _ => cases e
  | st _ => cases e
  | obj _ _ _ _ _ => cases e
theorem di_zip {elts : List Expr} {c : Nat} {tp : Pos} (hm : X.mg "zip" = none) (ha : DE X e Fa) (hb : DE X e2 Fb) (hg : Gl X "zip" := by rfl) (hs : starEach [e, e2] X.env = [(false, eval e X.env), (false, eval e2 X.env)] := by rfl) (hs2 : starEach [e2] X.env = [(false, eval e2 X.env)] := by rfl) :
    DI X (.Tuple elts c tp) (.Call (.Name "zip" p) [e, e2] [] pos) (iZipF Fa Fb) := ⟨fun Z A => PI.imp (pi_zip hg hm (pa_cons (ha Z A) (pa_cons (hb Z A) pa_nil hs2) (by rw [hs, hs2])) hs hs2) fun σ H R x__112 => by
    obtain ⟨B, ow, δ, s, ds, s', RS, S, ee, q⟩ := x__112
    unfold iZipF at ee
    first | refine bnd2 ee fun d s1 e1 ee => ?_ | refine mpp2 ee fun d s1 e1 ee => ?_
    replace ee : ((Fb δ s1).bind fun q => (seqOf d).bind fun xs => (seqOf q.1).map fun ys => ((xs.zip ys).map fun z => PyData.tuple [z.1, z.2], q.2)) = some (ds, s') := ee
    first | refine bnd2 ee fun d2 s2 e2 ee => ?_ | refine mpp2 ee fun d2 s2 e2 ee => ?_
    replace ee : ((seqOf d).bind fun xs => (seqOf d2).map fun ys => ((xs.zip ys).map fun z => PyData.tuple [z.1, z.2], s2)) = some (ds, s') := ee
    first | refine bnd1 ee fun xs e3 ee => ?_ | refine mpp1 ee fun xs e3 ee => ?_
    replace ee : ((seqOf d2).map fun ys => ((xs.zip ys).map fun z => PyData.tuple [z.1, z.2], s2)) = some (ds, s') := ee
    first | refine bnd1 ee fun ys e4 ee => ?_ | refine mpp1 ee fun ys e4 ee => ?_
    cases ee
    refine ⟨B, ow, δ, s, d, s1, RS, S, e1, fun v H1 x1 S1 r => ⟨B, ow, δ, s1, d2, s', RS.mono x1, S1, e2, fun v2 H2 x2 S2 r2 => ?_⟩⟩
    obtain ⟨k1, a1, vs1, rfl, sq1, rs1, st1⟩ := rep_sq (r.ext x2) e3
    obtain ⟨k2, a2, vs2, rfl, sq2, rs2, st2⟩ := rep_sq r2 e4
    refine ⟨k1, k2, a1, a2, vs1, vs2, rfl, sq1, sq2, q _ H2 (x1.trans x2) S2 ?_⟩
    intro ow' H' st f S' hA i
    have g1 := st1 ow' H' f
    have g2 := st2 ow' H' f
    refine ⟨fun dd hd => ?_, fun hi => ⟨vs1, vs2, g1, g2, ?_⟩⟩
    · rw [List.getElem?_map] at hd
      first | refine bnd1 hd fun z e5 hd => ?_ | refine mpp1 hd fun z e5 hd => ?_
      cases hd
      rw [List.getElem?_zip_eq_some] at e5
      obtain ⟨u1, h1, q1⟩ := (rs1.frm f).get e5.1
      obtain ⟨u2, h2, q2⟩ := (rs2.frm f).get e5.2
      refine ⟨⟨vs1, vs2, u1, u2, g1, g2, h1, h2⟩, fun x H3 x__113 => ?_⟩
      obtain ⟨p, y1, y2, ex, hp, eH, f1, f2⟩ := x__113
      have z1 := f1 vs1 g1
      have z2 := f2 vs2 g2
      rw [h1] at z1
      rw [h2] at z2
      cases z1
      cases z2
      subst ex eH
      exact ⟨Ext.upd hp, S'.upd hp, .tup upd_same (fresh_not hA hp) (S'.notZ hp) (.cons (q1.ext (Ext.upd hp)) (.cons (q2.ext (Ext.upd hp)) .nil))⟩
    · rw [rs1.length, rs2.length]
      rw [List.length_map, List.length_zip] at hi
      omega⟩
end
end L3

namespace L3
open PySem L2 PySem.Spec PyProof.Rows

inductive Tgt where
  | one (i : Nat) | tup (is : List Nat) | nest (i : Nat) (js : List Nat)
noncomputable def Tgt.slots : Tgt → List Nat
  | .one i => [i]
  | .tup is => is
  | .nest i js => i :: js
noncomputable def setD : List Nat → List D → Sl → Sl
  | i :: is, d :: ds, δ => setD is ds (δ.set i (.val d))
  | _, _, δ => δ
noncomputable def Tgt.run : Tgt → D → Sl → Option Sl
  | .one i, d, δ => some (δ.set i (.val d))
  | .tup is, .tuple ds, δ => if ds.length = is.length then some (setD is ds δ) else none
  | .tup is, .list ds, δ => if ds.length = is.length then some (setD is ds δ) else none
  | .tup _, _, _ => none
  | .nest i js, .tuple [a, b], δ => (seqOf b).bind fun ds => if ds.length = js.length then some (setD js ds (δ.set i (.val a))) else none
  | .nest _ _, _, _ => none
noncomputable def Chg (l : List Nat) (σ σ' : L2.St) : Prop := σ'.length = σ.length ∧ ∀ i, ¬ i ∈ l → σ'[i]? = σ[i]?
inductive tDG (K : PySem.W.Frag) (Z : Zt) (A : List Addr) (T : Tgt) (v : V) (σ : L2.St) (H : Hp) (Q : L2.St → Hp → Prop) : Prop
  | mk (B : Hp) (ow : Ow) (δ : Sl) (d : D) (δ' : Sl) (h0 : RepS K B Z A ow σ δ H) (h1 : Rep K Z H (A ++ ow.map (·.2)) v d) (h2 : T.run d δ = some δ') (h3 : ∀ ow' σ', RepS K B Z A ow' σ' δ' H → Frm Z ow H ow' H → Chg T.slots σ σ' → Q σ' H)
structure DG (X : Cx) (tg : Expr) (T : Tgt) : Prop where
  go : ∀ Z A, PG X tg (tDG X.K Z A T)
instance {X : Cx} {tg : Expr} {T : Tgt} : CoeFun (DG X tg T) (fun _ => ∀ Z A, PG X tg (tDG X.K Z A T)) := ⟨fun h => h.go⟩
theorem PG.imp {X : Cx} {tg : Expr} {t t' : TG} (h : PG X tg t) (hi : ∀ v σ H Q, t' v σ H Q → t v σ H Q) : PG X tg t' := fun pins s σ H v u Q I r q => h pins s σ H v u Q I r (hi v σ H Q q)
theorem RepS.setAll {K : PySem.W.Frag} {B : Hp} {Z : Zt} {A : List Addr} {H : Hp} : ∀ {is : List Nat} {vs : List V} {ds : List D} {ow : Ow} {σ : L2.St} {δ : Sl}, RepS K B Z A ow σ δ H → Reps K Z H (A ++ ow.map (·.2)) vs ds → ds.length = is.length →
    ∀ {es : List Expr} {X : Cx} (Q : L2.St → Hp → Prop), True → True → (∀ ow' σ', RepS K B Z A ow' σ' (setD is ds δ) H → Frm Z ow H ow' H → Chg is σ σ' → σ' = (is.zip vs).foldl (fun σ p => σ.set p.1 (some p.2)) σ → Q σ' H) → Q ((is.zip vs).foldl (fun σ p => σ.set p.1 (some p.2)) σ) H
  | [], vs, ds, ow, σ, δ, R, rs, hl, es, X, Q, _, _, h => by
    have e : ds = [] := List.eq_nil_of_length_eq_zero hl
    subst e
    exact h ow σ R .refl ⟨rfl, fun _ _ => rfl⟩ rfl
  | i :: is, vs, d :: ds, ow, σ, δ, R, rs, hl, es, X, Q, _, _, h => by
    cases rs with
    | @cons v _ vs' _ r rs =>
      obtain ⟨R1, f1⟩ := R.set (i := i) r
      refine RepS.setAll (X := X) (es := es) R1 (rs.frm f1) (by simpa using hl) Q trivial trivial fun ow' σ' R2 f2 c2 e2 => ?_
      refine h ow' σ' R2 (f1.trans f2) ⟨by rw [c2.1, List.length_set], fun j hj => ?_⟩ e2
      have hj' : ¬ j = i ∧ ¬ j ∈ is := by simpa using hj
      rw [c2.2 j hj'.2, List.getElem?_set_ne (Ne.symm hj'.1)]
  | _ :: _, _, [], _, _, _, _, _, hl, _, _, _, _, _, _ => by simp at hl
section
variable {X : Cx} {tg iter elt e : Expr} {es : List Expr} {T : Tgt} {F : FE} {Fi : FI} {Ft : FT} {G : GS} {body : List Stmt} {pos : Pos}
theorem dg_name {i : Nat} {x : Str} (hN : X.N.Nodup) (hi : X.N[i]? = some x := by rfl) (hx : Loc X.env.scope x := by first | exact Or.inl rfl | exact Or.inr rfl) (hf : X.fn x = true ∨ X.env.scope.names.lookup x = some .local := by first | exact .inl rfl | exact .inr rfl | assumption) :
    DG X (.Name x pos) (.one i) := ⟨fun Z A => PG.imp (pg_name hN hi hx hf) fun v σ H Q x__114 => by
  obtain ⟨B, ow, δ, d, δ', R, r, e, q⟩ := x__114
  cases e
  obtain ⟨R1, f1⟩ := R.set (i := i) r
  exact q _ _ R1 f1 ⟨List.length_set, fun j hj => List.getElem?_set_ne (by simpa using Ne.symm (show ¬ j = i by simpa [Tgt.slots] using hj))⟩⟩
noncomputable def gSlots : List Nat → TGs
  | [] => gNil
  | i :: is => gCons (gName i) (gSlots is)
theorem gSlots_of : ∀ {is : List Nat} {vs : List V} {σ : L2.St} {H : Hp} {Q : L2.St → Hp → Prop}, vs.length = is.length → Q ((is.zip vs).foldl (fun σ p => σ.set p.1 (some p.2)) σ) H → gSlots is vs σ H Q
  | [], vs, σ, H, Q, hl, q => ⟨List.eq_nil_of_length_eq_zero hl, by have e := List.eq_nil_of_length_eq_zero hl; subst e; exact q⟩
  | i :: is, v :: vs, σ, H, Q, hl, q => ⟨v, vs, rfl, gSlots_of (by simpa using hl) q⟩
  | _ :: _, [], _, _, _, hl, _ => by simp at hl
theorem pgn_nil : PGs X [] (gSlots []) := pgs_nil
theorem pgn_cons {i : Nat} {is : List Nat} {x : Str} (hN : X.N.Nodup) (h2 : PGs X es (gSlots is)) (hi : X.N[i]? = some x := by rfl) (hx : Loc X.env.scope x := by first | exact Or.inl rfl | exact Or.inr rfl) (hf : X.fn x = true ∨ X.env.scope.names.lookup x = some .local := by first | exact .inl rfl | exact .inr rfl | assumption)
    (hs : (assignEach (.Name x pos :: es) X.env).map (·.2) = assign (.Name x pos) X.env :: (assignEach es X.env).map (·.2) := by rfl) : PGs X (.Name x pos :: es) (gSlots (i :: is)) := pgs_cons (pg_name hN hi hx hf) h2 hs
theorem dg_tup {is : List Nat} {k : Nat} (h : PGs X es (gSlots is)) (hn : (assignEach es X.env).length = is.length := by rfl) (hst : (assignEach es X.env).findIdx? (·.1) = none := by rfl) (hc : X.calm = true := by rfl) : DG X (.Tuple es k pos) (.tup is) := ⟨fun Z A => PG.imp (pg_seqT hc h hn hst) fun v σ H Q x__115 => by
    obtain ⟨B, ow, δ, d, δ', R, r, e, q⟩ := x__115
    cases d with
    | tuple ds =>
      replace e : (if ds.length = is.length then some (setD is ds δ) else none) = some δ' := e
      split at e
      · rename_i hl
        cases e
        obtain ⟨p, vs, rfl, sq, rs⟩ := r.w.tuple
        refine ⟨p, vs, rfl, .inl sq, by rw [rs.length]; exact hl, gSlots_of (by rw [rs.length]; exact hl) ?_⟩
        exact RepS.setAll (X := X) (es := es) R rs hl Q trivial trivial fun ow' σ' R' f' c' _ => q ow' σ' R' f' c'
      · cases e
    | list ds =>
      replace e : (if ds.length = is.length then some (setD is ds δ) else none) = some δ' := e
      split at e
      · rename_i hl
        cases e
        obtain ⟨p, vs, rfl, sq, _, rs⟩ := r.w.list
        refine ⟨p, vs, rfl, .inr sq, by rw [rs.length]; exact hl, gSlots_of (by rw [rs.length]; exact hl) ?_⟩
        exact RepS.setAll (X := X) (es := es) R rs hl Q trivial trivial fun ow' σ' R' f' c' _ => q ow' σ' R' f' c'
      · cases e
    | _ => cases e⟩
noncomputable def sUnp (T : Tgt) (F : FE) : GS := fun δ s => (F δ s).bind fun p => (T.run p.1 δ).map fun δ' => (.next δ', p.2)
theorem ds_asg (he : DE X e F) (hg : DG X tg T) (h1 : List.map (·.2) (assignEach [tg] X.env) = [assign tg X.env] := by rfl) (hs : swapsWithSole [tg] e pos.line X.env = pure false := by rfl) (hw : swappedStores [tg] e X.env = pure none := by rfl) : DS X (.Assign [tg] e pos) (sUnp T F) := ⟨fun Z A => PS.imp (ps_asg (he Z A) (hg Z A) hs hw h1) fun E σ H x__116 => by
  obtain ⟨ow, δ, s, o, s', R, S, e, q⟩ := x__116
  unfold sUnp at e
  first | refine bnd2 e fun d s1 e1 e => ?_ | refine mpp2 e fun d s1 e1 e => ?_
  replace e : ((T.run d δ).map fun δ' => (Out.next δ', s1)) = some (o, s') := e
  cases e2 : T.run d δ with
  | none => rw [e2] at e; cases e
  | some δ2 =>
    rw [e2] at e
    cases e
    exact ⟨_, ow, δ, s, d, s', R, S, e1, fun v H1 x1 S1 r => ⟨_, ow, δ, d, δ2, R.mono x1, r, e2, fun ow' σ' R' f c => q ow' σ' H1 R' S1 ((Frm.ext x1).trans f)⟩⟩⟩
noncomputable def forD (T : Tgt) (G : GS) : List D → GS
  | [], δ, s => some (.next δ, s)
  | d :: ds, δ, s => (T.run d δ).bind fun δ1 => match G δ1 s with
    | some (.next δ', s') => forD T G ds δ' s'
    | some (.cnt δ', s') => forD T G ds δ' s'
    | some (.brk δ', s') => some (.next δ', s')
    | some (.ret r, s') => some (.ret r, s')
    | some (.own r, s') => some (.own r, s')
    | none => none
noncomputable def sFor (Fi : FI) (T : Tgt) (G : GS) : GS := fun δ s => (Fi δ s).bind fun p => forD T G p.1 δ p.2
theorem ds_for (hi : DI X tg iter Fi) (hg : DG X tg T) (hb : DSs X body G) (hp : PassesOwn (model X.prog X.w) X.A X.env X.xe := by exact PassesOwn.never) (hc : X.calm = true := by rfl) (hs : ∀ x, foldedSetIterable iter X.env x = pure x := by intro _; rfl) :
    DS X (.For tg iter body [] pos) (sFor Fi T G) := ⟨fun Z A => PS.imp (ps_for hp hc (hi Z A) (hg Z A) (hb Z A) hs) fun E σ H x__117 => by
  obtain ⟨ow, δ, s, o, s', R, S, e, q⟩ := x__117
  unfold sFor at e
  first | refine bnd2 e fun ds s1 e1 e => ?_ | refine mpp2 e fun ds s1 e1 e => ?_
  replace e : forD T G ds δ s1 = some (o, s') := e
  refine ⟨_, ow, δ, s, ds, s1, R, S, e1, fun J H1 x1 S1 src => ?_⟩
  have q1 := q.frm (Frm.ext x1)
  refine ⟨fun i m σ H => ∃ ow' δ s, m = ds.length - i ∧ i ≤ ds.length ∧ RepS X.K X.H₀ Z A ow' σ δ H ∧ StateAt Z H s ∧ Frm Z ow H1 ow' H ∧ forD T G (ds.drop i) δ s = some (o, s') ∧ postS X Z A ow' H s' E o,
    ⟨ds.length, ow, δ, s1, by simp, Nat.zero_le _, R.mono x1, S1, .refl, by simpa using e, q1⟩, ?_⟩
  rintro i m σ2 H2 ⟨ow2, δ2, s2, rfl, hi, R2, S2, f2, e2, q2⟩
  have sr := src ow2 H2 s2 f2 S2 R2.all i
  by_cases hlt : i < ds.length
  · have hd : ds[i]? = some ds[i] := List.getElem?_eq_getElem hlt
    obtain ⟨go, yl⟩ := sr.1 _ hd
    rw [List.drop_eq_getElem_cons hlt] at e2
    replace e2 : ((T.run ds[i] δ2).bind fun δ1 => match G δ1 s2 with
      | some (.next δ', s') => forD T G (ds.drop (i + 1)) δ' s'
      | some (.cnt δ', s') => forD T G (ds.drop (i + 1)) δ' s'
      | some (.brk δ', s') => some (.next δ', s')
      | some (.ret r, s') => some (.ret r, s')
      | some (.own r, s') => some (.own r, s')
      | none => none) = some (o, s') := e2
    refine .inr ⟨go, fun σ' H' => ∃ ow' δ s, RepS X.K X.H₀ Z A ow' σ' δ H' ∧ StateAt Z H' s ∧ Frm Z ow H1 ow' H' ∧ forD T G (ds.drop (i + 1)) δ s = some (o, s') ∧ postS X Z A ow' H' s' E o,
      fun σ' H' x__118 => (by obtain ⟨ow', δ', s3, a1, a2, a3, a4, a5⟩ := x__118; exact ⟨ds.length - (i + 1), by omega, ow', δ', s3, rfl, hlt, a1, a2, a3, a4, a5⟩), fun x H3 y => ?_⟩
    obtain ⟨x3, S3, r3⟩ := yl x H3 y
    cases e3 : T.run ds[i] δ2 with
    | none => rw [e3] at e2; cases e2
    | some δ3 =>
      rw [e3] at e2
      replace e2 : (match G δ3 s2 with
        | some (.next δ', s') => forD T G (ds.drop (i + 1)) δ' s'
        | some (.cnt δ', s') => forD T G (ds.drop (i + 1)) δ' s'
        | some (.brk δ', s') => some (.next δ', s')
        | some (.ret r, s') => some (.ret r, s')
        | some (.own r, s') => some (.own r, s')
        | none => none) = some (o, s') := e2
      refine ⟨X.H₀, ow2, δ2, ds[i], δ3, R2.mono x3, r3, e3, fun ow4 σ4 R4 f4 _ => ?_⟩
      have q4 := (q2.frm (Frm.ext x3)).frm f4
      have f14 : Frm Z ow H1 ow4 H3 := (f2.trans (Frm.ext x3)).trans f4
      cases e4 : G δ3 s2 with
      | none => rw [e4] at e2; cases e2
      | some r =>
        obtain ⟨o4, s4⟩ := r
        rw [e4] at e2
        refine ⟨ow4, δ3, s2, o4, s4, R4, S3, e4, ?_⟩
        cases o4 with
        | next δ5 => exact fun ow' σ' H' R' S' f => ⟨ow', δ5, s4, R', S', f14.trans f, e2, q4.frm f⟩
        | cnt δ5 => exact fun ow' σ' H' R' S' f => ⟨ow', δ5, s4, R', S', f14.trans f, e2, q4.frm f⟩
        | brk δ5 => cases e2; exact q4
        | ret d => cases e2; exact q4
        | own d => cases e2; exact q4
  · have hi' : i = ds.length := by omega
    subst hi'
    rw [List.drop_length] at e2
    cases e2
    exact .inl ⟨sr.2 (Nat.le_refl _), q2 ow2 σ2 H2 R2 S2 .refl⟩⟩
noncomputable def compDl (k : Nat) (fr : List Nat) (δ : Sl) : Sl := List.replicate k .non ++ fr.map fun j => match δ[j]? with | some (.val d) => .val d | _ => .non
noncomputable def compD (T : Tgt) (Ft : FT) (F : FE) (δc : Sl) : List D → Sx → Option (List D × Sx)
  | [], s => some ([], s)
  | d :: ds, s => (T.run d δc).bind fun δ1 => (Ft δ1 s).bind fun p => if p.1 = true then (F δ1 p.2).bind fun q => (compD T Ft F δc ds q.2).map fun r => (q.1 :: r.1, r.2) else compD T Ft F δc ds p.2
noncomputable def fTrue : FT := fun _ s => some (true, s)
structure DIfs (X : Cx) (ifs : List Expr) (F : FT) : Prop where
  go : ∀ Z A, PIfs X ifs (tDT X Z A F)
instance {X : Cx} {ifs : List Expr} {F : FT} : CoeFun (DIfs X ifs F) (fun _ => ∀ Z A, PIfs X ifs (tDT X Z A F)) := ⟨fun h => h.go⟩
theorem difs_nil : DIfs X [] fTrue := ⟨fun Z A pins s σ H Q I x__119 => by
  obtain ⟨B, ow, δ, st, b, st', R, S, e, q⟩ := x__119
  cases e
  exact pifs_nil pins s σ H Q I (q H (Ext.refl H) S)⟩
noncomputable def fComp (k : Nat) (fr : List Nat) (Fi : FI) (T : Tgt) (Ft : FT) (F : FE) : FO := fun δ s => (Fi δ s).bind fun p => if small p.1 = true then compD T Ft F (compDl k fr δ) p.1 p.2 else none
theorem compDl_val {k : Nat} {fr : List Nat} {δ : Sl} {i : Nat} {d : D} (h : (compDl k fr δ)[i]? = some (.val d)) : ∃ t j, i = k + t ∧ fr[t]? = some j ∧ δ[j]? = some (.val d) := by
  unfold compDl at h
  by_cases hi : i < k
  · rw [List.getElem?_append_left (by simpa using hi), List.getElem?_replicate] at h
    split at h <;> cases h
  · rw [List.getElem?_append_right (by simpa using Nat.not_lt.mp hi), List.length_replicate, List.getElem?_map] at h
    refine ⟨i - k, ?_⟩
    cases e : fr[i - k]? with
    | none => rw [e] at h; cases h
    | some j =>
      rw [e] at h
      refine ⟨j, by omega, rfl, ?_⟩
      simp only [Option.map_some, Option.some.injEq] at h
      split at h
      · rename_i d' e2
        cases h
        exact e2
      · cases h
theorem compDl_own {k : Nat} {fr : List Nat} {δ : Sl} {i : Nat} {xs : List D} (h : (compDl k fr δ)[i]? = some (.own xs)) : False := by
  unfold compDl at h
  by_cases hi : i < k
  · rw [List.getElem?_append_left (by simpa using hi), List.getElem?_replicate] at h
    split at h <;> cases h
  · rw [List.getElem?_append_right (by simpa using Nat.not_lt.mp hi), List.length_replicate, List.getElem?_map] at h
    cases e : fr[i - k]? with
    | none => rw [e] at h; cases h
    | some j =>
      rw [e] at h
      simp only [Option.map_some, Option.some.injEq] at h
      split at h <;> cases h
theorem comp_read {k : Nat} {fr : List Nat} {Z : Zt} {A : List Addr} {ow : Ow} {σ : L2.St} {δ : Sl} {B H1 : Hp} {s1 s' : Sx} {J : It} {ds rs : List D} {Fin : List V → Hp → Prop} (hT : ∀ i ∈ T.slots, i < k) (R : RepS X.K B Z A ow σ δ H1) (S1 : StateAt Z H1 s1) (src : Src X.K Z A ow J ds H1) (hsm : small ds = true)
    (e : compD T Ft F (compDl k fr δ) ds s1 = some (rs, s')) (fin : ∀ ys H2, Ext Z H1 H2 → StateAt Z H2 s' → Reps X.K Z H2 (A ++ ow.map (·.2)) ys rs → ys.length ≤ sizeLine → Fin ys H2) :
    CompW J (tDG X.K Z (A ++ ow.map (·.2)) T) (tDT X Z (A ++ ow.map (·.2)) Ft) (tD X Z (A ++ ow.map (·.2)) F) (compSt k fr σ) H1 Fin := by
  have hd0 : ds.length ≤ sizeLine := of_decide_eq_true hsm
  have RY : ∀ {H2 : Hp}, Ext Z H1 H2 → RepS X.K H1 Z (A ++ ow.map (·.2)) [] (compSt k fr σ) (compDl k fr δ) H2 := fun {H2} x => {
    ok := fun q hq => by
      refine ⟨(R.mono x).all q hq, ?_⟩
      rcases List.mem_append.mp hq with h | h
      · exact (R.ok q h).2
      · obtain ⟨⟨i, p⟩, hp, rfl⟩ := List.mem_map.mp h
        exact (R.ows i p hp).2.2.1
    ext := x
    len := by simp [compDl, compSt]
    val := fun i d h => by
      obtain ⟨t, j, rfl, h1, h2⟩ := compDl_val h
      obtain ⟨v, h3, h4⟩ := (R.mono x).val j d h2
      refine ⟨v, ?_, by rw [List.map_nil, List.append_nil]; exact h4⟩
      unfold compSt
      rw [List.getElem?_append_right (by simp), List.length_replicate, Nat.add_sub_cancel_left, List.getElem?_map, h1]
      show some ((σ[j]?).getD none) = _
      rw [h3]; rfl
    own := fun i xs h => (compDl_own h).elim
    ows := fun i p h => nomatch h
    inj := fun i j p h => nomatch h }
  refine ⟨fun i m ys H2 => ∃ s2 r1 r2, m = ds.length - i ∧ i ≤ ds.length ∧ ys.length ≤ i ∧ Ext Z H1 H2 ∧ StateAt Z H2 s2 ∧ Reps X.K Z H2 (A ++ ow.map (·.2)) ys r1 ∧ rs = r1 ++ r2 ∧ compD T Ft F (compDl k fr δ) (ds.drop i) s2 = some (r2, s'),
    ⟨ds.length, s1, [], rs, by simp, Nat.zero_le _, Nat.le_refl _, Ext.refl _, S1, .nil, rfl, by simpa using e⟩, ?_⟩
  rintro i m ys H2 ⟨s2, r1, r2, rfl, hi, hy, x2, S2, rep, rfl, e2⟩
  have sr := src ow H2 s2 (Frm.ext x2) S2 (R.mono x2).all i
  by_cases hlt : i < ds.length
  · have hd : ds[i]? = some ds[i] := List.getElem?_eq_getElem hlt
    obtain ⟨go, yl⟩ := sr.1 _ hd
    rw [List.drop_eq_getElem_cons hlt] at e2
    replace e2 : ((T.run ds[i] (compDl k fr δ)).bind fun δ1 => (Ft δ1 s2).bind fun p => if p.1 = true then (F δ1 p.2).bind fun q => (compD T Ft F (compDl k fr δ) (ds.drop (i + 1)) q.2).map fun r => (q.1 :: r.1, r.2) else compD T Ft F (compDl k fr δ) (ds.drop (i + 1)) p.2) = some (r2, s') := e2
    refine .inr ⟨go, by omega, fun x H3 y => ?_⟩
    obtain ⟨x3, S3, r3⟩ := yl x H3 y
    cases e3 : T.run ds[i] (compDl k fr δ) with
    | none => rw [e3] at e2; cases e2
    | some δ3 =>
      rw [e3] at e2
      replace e2 : ((Ft δ3 s2).bind fun p => if p.1 = true then (F δ3 p.2).bind fun q => (compD T Ft F (compDl k fr δ) (ds.drop (i + 1)) q.2).map fun r => (q.1 :: r.1, r.2) else compD T Ft F (compDl k fr δ) (ds.drop (i + 1)) p.2) = some (r2, s') := e2
      refine ⟨H1, [], compDl k fr δ, ds[i], δ3, RY (x2.trans x3), by rw [List.map_nil, List.append_nil]; exact r3, e3, fun ow4 σ4 R4 f4 c4 => ⟨⟨c4.1, fun j v hj => ?_⟩, ?_⟩⟩
      · by_cases hs : j ∈ T.slots
        · rw [compSt_own (hT j hs)] at hj; cases hj
        · rw [c4.2 j hs]; exact hj
      · cases e4 : Ft δ3 s2 with
        | none => rw [e4] at e2; cases e2
        | some p =>
          obtain ⟨b, s4⟩ := p
          rw [e4] at e2
          refine ⟨H1, ow4, δ3, s2, b, s4, R4, S3, e4, fun H5 x5 S5 => ?_⟩
          cases b with
          | false =>
            replace e2 : compD T Ft F (compDl k fr δ) (ds.drop (i + 1)) s4 = some (r2, s') := e2
            exact iteF ⟨ds.length - (i + 1), by omega, s4, r1, r2, rfl, hlt, by omega, (x2.trans x3).trans x5, S5, rep.ext (x3.trans x5), rfl, e2⟩
          | true =>
            replace e2 : ((F δ3 s4).bind fun q => (compD T Ft F (compDl k fr δ) (ds.drop (i + 1)) q.2).map fun r => (q.1 :: r.1, r.2)) = some (r2, s') := e2
            refine iteT ?_
            first | refine bnd2 e2 fun dy s5 e5 e2 => ?_ | refine mpp2 e2 fun dy s5 e5 e2 => ?_
            replace e2 : ((compD T Ft F (compDl k fr δ) (ds.drop (i + 1)) s5).map fun r => (dy :: r.1, r.2)) = some (r2, s') := e2
            first | refine bnd1 e2 fun r e6 e2 => ?_ | refine mpp1 e2 fun r e6 e2 => ?_
            cases e2
            refine ⟨H1, ow4, δ3, s4, dy, s5, R4.mono x5, S5, e5, fun yv H6 x6 S6 ry => ⟨ds.length - (i + 1), by omega, s5, r1 ++ [dy], r.1, rfl, hlt, by rw [List.length_append, List.length_singleton]; omega, ((x2.trans x3).trans x5).trans x6, S6, ?_, by simp, e6⟩⟩
            exact (rep.ext ((x3.trans x5).trans x6)).append (.cons (ry.sub fun q hq => List.mem_append_left _ hq) .nil)
  · have hi' : i = ds.length := by omega
    subst hi'
    rw [List.drop_length] at e2
    cases e2
    exact .inl ⟨sr.2 (Nat.le_refl _), fin ys H2 x2 S2 (by rw [List.append_nil]; exact rep) (Nat.le_trans hy hd0)⟩

theorem fresh_move {Z : Zt} {H : Hp} {A : List Addr} {p : Addr} {o : HO} (hp : H p = none) : ∀ q u, H q = some u → ¬ q ∈ A → NotZ Z q → upd H p o q = some u ∧ ¬ q ∈ p :: A := fun q u h n _ =>
  ⟨by rw [upd_ne (ne_of_none h hp)]; exact h, fun m => (List.mem_cons.mp m).elim (fun e => ne_of_none h hp e) n⟩
theorem Rep.fresh {K : PySem.W.Frag} {Z : Zt} {H : Hp} {A : List Addr} {p : Addr} {o : HO} (hp : H p = none) {v : V} {d : D} (r : Rep K Z H A v d) : Rep K Z (upd H p o) (p :: A) v d := r.move (fresh_move hp)
theorem Reps.fresh {K : PySem.W.Frag} {Z : Zt} {H : Hp} {A : List Addr} {p : Addr} {o : HO} {vs : List V} {ds : List D} (hp : H p = none) (r : Reps K Z H A vs ds) : Reps K Z (upd H p o) (p :: A) vs ds := r.move (fresh_move hp)
inductive tDFK (K : PySem.W.Frag) (Z : Zt) (A : List Addr) (F : FO) (σ : L2.St) (H : Hp) (Q : VK) : Prop
  | mk (B : Hp) (ow : Ow) (δ : Sl) (s : Sx) (ds : List D) (s' : Sx) (h0 : RepS K B Z A ow σ δ H) (h1 : StateAt Z H s) (h2 : F δ s = some (ds, s')) (h3 : ∀ p vs H', Ext Z H H' → StateAt Z H' s' → H p = none → H' p = some (.lst vs) → Reps K Z H' (p :: (A ++ ow.map (·.2))) vs ds → Q (.ref p) H')
noncomputable abbrev tDF (X : Cx) (Z : Zt) (A : List Addr) (F : FO) : TE := tDFK X.K Z A F
structure DF (X : Cx) (e : Expr) (F : FO) : Prop where
  go : ∀ Z A, PE X e (tDF X Z A F)
instance {X : Cx} {e : Expr} {F : FO} : CoeFun (DF X e F) (fun _ => ∀ Z A, PE X e (tDF X Z A F)) := ⟨fun h => h.go⟩
theorem DF.de {Fo : FO} (h : DF X e Fo) : DE X e (asL Fo) := ⟨fun Z A => PE.imp (h Z A) fun σ H Q x__120 => by
  obtain ⟨B, ow, δ, s, d, s', R, S, ee, q⟩ := x__120
  unfold asL at ee
  first | refine bnd1 ee fun p e1 ee => ?_ | refine mpp1 ee fun p e1 ee => ?_
  cases ee
  exact ⟨B, ow, δ, s, p.1, p.2, R, S, e1, fun p vs H' x1 S1 n h r => q _ H' x1 S1 (.lst h (fresh_not R.all n) (S.notZ n) (r.sub fun q hq => List.mem_cons_of_mem _ hq))⟩⟩
theorem df_comp {k : Nat} {fr : List Nat} {scope : Scope} {cl : List (Str × Addr)} {N : List Str} {ifs : List Expr} (ok : CompOk X scope cl N k fr) (hT : ∀ i ∈ T.slots, i < k) (hi : DI X tg iter Fi)
    (hg : ∀ C s H ex, DG (compCx X scope cl N C s H ex) tg T) (ht : ∀ C s H ex, DIfs (compCx X scope cl N C s H ex) ifs Ft) (he : ∀ C s H ex, DE (compCx X scope cl N C s H ex) elt F)
    (hc : X.calm = true := by rfl) (hs : ∀ x, foldedSetIterable iter X.env x = pure x := by intro _; rfl) : DF X (.ListComp elt [⟨tg, iter, ifs, 0⟩] scope pos) (fComp k fr Fi T Ft F) := ⟨fun Z A pins s σ H Q I x__121 => by
  obtain ⟨B, ow, δ, st, ds, st', R, S, e, q⟩ := x__121
  unfold fComp at e
  first | refine bnd2 e fun src s1 e1 e => ?_ | refine mpp2 e fun src s1 e1 e => ?_
  replace e : (if small src = true then compD T Ft F (compDl k fr δ) src s1 else none) = some (ds, st') := e
  split at e
  · rename_i hsm
    refine pe_comp (g := tDG X.K Z (A ++ ow.map (·.2)) T) (tt := tDT X Z (A ++ ow.map (·.2)) Ft) (te := tD X Z (A ++ ow.map (·.2)) F) ok hc (hi Z A) (fun C s H ex => hg C s H ex Z _) (fun C s H ex => ht C s H ex Z _) (fun C s H ex => he C s H ex Z _) hs pins s σ H Q I
      ⟨B, ow, δ, st, src, s1, R, S, e1, fun J H1 x1 S1 sr => comp_read hT (R.mono x1) S1 sr hsm e fun ys H2 x2 S2 rs hl => ⟨hl, fun p hp => ?_⟩⟩
    have hp1 : H p = none := by
      cases e9 : H p with
      | none => rfl
      | some o =>
        have nz : NotZ Z p := S2.notZ hp
        rw [(x1.trans x2) p o e9 nz] at hp
        cases hp
    exact q p ys _ ((x1.trans x2).trans (Ext.upd hp)) (S2.upd hp) hp1 upd_same (rs.fresh hp)
  · cases e⟩
end
end L3

namespace L3
open PySem L2 PySem.Spec PyProof.Rows
section
variable {X : Cx} {a b e : Expr} {es : List Expr} {F Fa Fb : FE} {FL : FA} {x : Str} {p pos : Pos}
noncomputable def tru : D → Option Bool
  | .none => some false | .bool k => some k | .int i => some (i != 0) | .list xs => some (!xs.isEmpty) | .tuple xs => some (!xs.isEmpty) | _ => none
noncomputable def asT (F : FE) : FT := fun δ s => (F δ s).bind fun p => (tru p.1).map fun k => (k, p.2)
theorem isEmpty_reps {K : PySem.W.Frag} {Z : Zt} {H : Hp} {A : List Addr} {vs : List V} {ds : List D} (r : Reps K Z H A vs ds) : vs.isEmpty = ds.isEmpty := by
  cases r <;> rfl
theorem dt_tru (ha : DW X a F) (he : ∀ whole, isTrue a X.env whole = (do let v ← whole; standAt a.pos; holding [v] (truthy v)) := by intro _; rfl) : DT X a (asT F) := ⟨fun Z A => PT.imp (pt_truth (ha Z A) he) fun σ H Q x__122 => by
  obtain ⟨B, ow, δ, s, k, s', R, S, e, q⟩ := x__122
  unfold asT at e
  cases e1 : F δ s with
  | none => rw [e1] at e; cases e
  | some p =>
    obtain ⟨d, s1⟩ := p
    rw [e1] at e
    refine ⟨B, ow, δ, s, d, s1, R, S, e1, fun v H1 x1 S1 r => ?_⟩
    cases d with
    | none => cases e; rw [r.none]; exact ⟨_, rfl, q H1 x1 S1⟩
    | bool i => cases e; rw [r.bool]; exact ⟨_, rfl, q H1 x1 S1⟩
    | int i => cases e; rw [r.int]; exact ⟨_, rfl, q H1 x1 S1⟩
    | list ds =>
      cases e
      obtain ⟨p, vs, rfl, sq, _, rs⟩ := r.list
      exact ⟨_, .inl ⟨vs, sq, by rw [isEmpty_reps rs]⟩, q H1 x1 S1⟩
    | tuple ds =>
      cases e
      obtain ⟨p, vs, rfl, sq, rs⟩ := r.tuple
      exact ⟨_, .inr (.inl ⟨vs, sq, by rw [isEmpty_reps rs]⟩), q H1 x1 S1⟩
    | str _ => cases e
    | dict _ => cases e⟩
noncomputable def gCatL : G2 := fun a b => match a, b with | .list xs, .list ys => if small (xs ++ ys) = true then some (.list (xs ++ ys)) else none | _, _ => none
theorem RepW.lst {K : PySem.W.Frag} {Z : Zt} {H : Hp} {A : List Addr} {v : V} {ds : List D} (r : RepW K Z H A v (.list ds)) : ∃ p vs, v = .ref p ∧ H p = some (.lst vs) ∧ NotZ Z p ∧ Reps K Z H A vs ds := by
  rcases r with r | ⟨p, vs, ds, e1, e2, e3, e4, e5⟩
  · cases r with
    | lst h n z q => exact ⟨_, _, rfl, h, z, q⟩
  · cases e2; exact ⟨p, vs, e1, e3, e4, e5⟩
theorem dcat : DOp X (binaryOp .Add) gCatL := DOp.of op_cat fun Z A H st x y dx dy d Q S hA rx ry e q => by
  unfold gCatL at e
  split at e
  · split at e
    · rename_i hs
      cases e
      obtain ⟨p1, v1, rfl, h1, _, r1⟩ := rx.lst
      obtain ⟨p2, v2, rfl, h2, _, r2⟩ := ry.lst
      have hl := of_decide_eq_true hs
      rw [List.length_append] at hl
      refine ⟨p1, p2, v1, v2, rfl, rfl, h1, h2, by rw [r1.length, r2.length]; exact hl, fun p hp => ?_⟩
      exact q _ _ (Ext.upd hp) (S.upd hp) (.lst upd_same (fresh_not hA hp) (S.notZ hp) ((r1.append r2).ext (Ext.upd hp)))
    · cases e
  · cases e
noncomputable def gAdd : G2 := fun a b => (gAddI a b).or (gCatL a b)
theorem dadd : DOp X (binaryOp .Add) gAdd := DOp.or dadd_int dcat
theorem spD_none {K : PySem.W.Frag} {vs : List V} {H : Hp} {Q : VK} {E : XK} (h : spD K (fun _ _ => none) vs H Q E) : False := by
  obtain ⟨_, _, _, _, _, _, _, _, _, e, _⟩ := h
  cases e
inductive Cal (P : Program) (w : World) (K : PySem.W.Frag) (mg : Str → Option Value) (base : Heap) (x : Str) (ps : List Str) (k : Nat) (g : GF) : Prop
  | mk (f : Addr) (fd : FuncData) (h0 : FnOk P w K mg base CX0 k f fd ps (spD K g)) (h1 : mg x = some (.ref f)) (h2 : PySem.W.keepIn K (.ref f) = true) (h3 : Binds K fd ps [])
theorem de_cal {gf : GF} {k k' : Nat} {ps : List Str} (C : Cal X.prog X.w X.K X.mg X.base x ps k gf) (hr : Room k' X.A) (ha : DA X (e :: es) FL) (hk : k ≤ k' := by decide) (hg : Gl X x := by rfl) (hdb : (x == ("__debug__" : Str)) = false := by decide)
    (he : starEach (e :: es) X.env = (false, eval e X.env) :: starEach es X.env := by rfl) (hpl : (backTo pos (starEach es X.env)).any (·.1) = false := by rfl) : DE X (.Call (.Name x p) (e :: es) [] pos) (fCall gf FL) := by
  obtain ⟨f, fd, G, hm, hk', hb⟩ := C
  exact de_call G (hr.mono hk) hm hk' hb ha hg hdb he hpl
theorem lookup_kind {names : List (Str × NameKind)} {x : Str} {k : NameKind} (h : names.lookup x = some k) : ∃ y ∈ names, y.2 = k := by
  induction names with
  | nil => cases h
  | cons y r ih =>
    rw [List.lookup_cons] at h
    split at h
    · cases h; exact ⟨y, List.mem_cons_self, rfl⟩
    · obtain ⟨z, hz, e⟩ := ih h
      exact ⟨z, List.mem_cons_of_mem _ hz, e⟩
theorem compOk0 {scope : Scope} {N : List Str} {k : Nat} (kind : scope.kind = .function) (nocell : ∀ y ∈ scope.names, y.2 ≠ .cell) (nofree : ∀ y ∈ scope.names, y.2 ≠ .free) (names : ∀ y ∈ scope.names, y.2 = .local → scope.names.lookup y.1 = some .local) (len : N.length = k) : CompOk X scope [] N k [] where
  kind := kind
  nocell := nocell
  names := names
  clos := closureFor_none nofree
  sub := fun x c h => nomatch h
  has := fun x h => by
    have e : (relabel scope X.env).names = scope.names := by
      unfold relabel
      refine map_eq_self fun y hy => ?_
      obtain ⟨n, kk⟩ := y
      have := nofree _ hy
      cases kk <;> first | rfl | exact absurd rfl this
    rw [e] at h
    rcases h with h | h
    · obtain ⟨y, hy, ey⟩ := lookup_kind h; exact absurd ey (nocell y hy)
    · obtain ⟨y, hy, ey⟩ := lookup_kind h; exact absurd ey (nofree y hy)
  len := by rw [len]; rfl
  free := fun t j x h => nomatch h
end
end L3

namespace L3
open PySem L2 PySem.Spec PyProof.Rows
theorem ct_ne : ¬ (("cells" : Str) = "turn") := by decide +kernel
theorem key_ne : ¬ ((Sum.inr ("cells" : Str) : Key) = Sum.inr ("turn" : Str)) := fun e => ct_ne (Sum.inr.inj e)
theorem st_turn (c : Addr) (t : Int) : valV (stDict c t) (Sum.inr "turn" : Key) = some (.int t) := by
  unfold stDict
  rw [valV_neg key_ne, valV_pos rfl]
theorem st_cells (c : Addr) (t : Int) : valV (stDict c t) (Sum.inr "cells" : Key) = some (.ref c) := by
  unfold stDict
  rw [valV_pos rfl]
theorem st_put (c : Addr) (t u : Int) : putK (stDict c t) (Sum.inr "turn" : Key) (.int u) = stDict c u := by
  have e : ((stDict c t).any fun kv => decide (kv.1 = (Sum.inr "turn" : Key))) = true := by rw [valV_any, st_turn]; rfl
  unfold putK
  rw [if_pos e]
  unfold stDict
  simp only [List.map_cons, List.map_nil, if_neg key_ne, if_true]
section
variable {X : Cx}
theorem call_divmodB : CallR X (.builtin "divmod") (fun xs H Q => ∃ i j, xs = [.int i, .int j] ∧ divOk i j = true ∧ ∀ p, H p = none → Q (.ref p) (upd H p (.tup [.int (i.fdiv j), .int (i.fmod j)]))) := by
  intro pins s σ H xs us Q I r h
  obtain ⟨i, j, rfl, hd, q⟩ := h
  obtain ⟨u, w', rfl, ⟨t, rfl⟩, ⟨t', rfl⟩⟩ := vals2 r
  have hd' : (decide (j ≠ 0) && decide (j.natAbs.log2 < 9000)) = true := hd
  rw [Bool.and_eq_true] at hd'
  refine divmod_int (of_decide_eq_true hd'.1) ?_ (.inl (PyProof.noPylong_of_log2 (of_decide_eq_true hd'.2)))
  have hn : H s.heap.objs.size = none := I.hok.fresh (Nat.le_refl _)
  refine ⟨.ref s.heap.objs.size, _, ?_, rfl, q _ hn⟩
  refine I.laid (fun b o e => Heap.get?_push_of_some _ e) (Nat.le_refl _) ⟨by show 2 ≤ sizeLine; decide, [.int (i.fdiv j) s.toks, .int (i.fmod j) (s.toks + 1)], .cons ⟨_, rfl⟩ (.cons ⟨_, rfl⟩ .nil), ?_⟩
  exact ⟨_, Heap.get?_push_size s.heap rfl, rfl, 0, rfl⟩
end
noncomputable def mix1 (cell t : Int) : Int := ((cell.fmod 2147483629 + t * t * 7919 + 11) * 48271).fmod 2147483647
noncomputable def mix2 (cell t : Int) : Int := (mix1 cell t * mix1 cell t).fmod 2147483587
noncomputable def mix (cell t many : Int) : Int := ((((mix2 cell t + t * 104729) * 39373).fmod 2147483629).fdiv 64).fmod many
noncomputable def takeOk (s : Sx) (many : Int) : Bool := decide (0 < many) && decide (many.natAbs.log2 < 9000) && decide (0 ≤ s.2) && decide (s.2 < 1000000) && decide (0 < s.1.length) && decide (s.1.length ≤ 1000)
noncomputable def plcOf (s : Sx) : Nat := ((s.2 + 1).fmod s.1.length).toNat
noncomputable def celOf (s : Sx) : Int := s.1.getD (plcOf s) 0
noncomputable def takeF (s : Sx) (many : Int) : D × Sx :=
  if 1000000000000000000 ≤ celOf s then (.int ((celOf s).fmod many), (s.1.set (plcOf s) ((celOf s).fdiv many), s.2 + 1))
  else (.int (mix (celOf s) (s.2 + 1) many), (s.1, s.2 + 1))
noncomputable def g__law_take : GF := fun ds s => match ds with
  | [.dict [], .int many] => if takeOk s many = true then some (takeF s many) else none
  | _ => none
noncomputable def Good (n : Nat) (s : Sx) : Prop := 0 < s.1.length ∧ s.1.length ≤ 63 ∧ 0 ≤ s.2 ∧ s.2 + n < 1000000
theorem Good.mono {n m : Nat} {s : Sx} (h : Good n s) (hm : m ≤ n) : Good m s := ⟨h.1, h.2.1, h.2.2.1, by have := h.2.2.2; omega⟩
theorem take_spec {s : Sx} {many : Int} {n : Nat} (h : Good (n + 1) s) (h1 : 0 < many) (h2 : many < 2 ^ 100) : ∃ r s', g__law_take [.dict [], .int many] s = some (.int r, s') ∧ 0 ≤ r ∧ r < many ∧ Good n s' := by
  obtain ⟨a, b, c, d⟩ := h
  have e : takeOk s many = true := by
    unfold takeOk
    have : many.natAbs.log2 < 9000 := by
      have hm : many.natAbs ≠ 0 := by omega
      rw [Nat.log2_lt hm]
      calc many.natAbs < 2 ^ 100 := by omega
        _ ≤ 2 ^ 9000 := Nat.pow_le_pow_right (by decide) (by decide)
    simp only [Bool.and_eq_true, decide_eq_true_eq]
    exact ⟨⟨⟨⟨⟨h1, this⟩, c⟩, by omega⟩, a⟩, by omega⟩
  have e2 : g__law_take [.dict [], .int many] s = some (takeF s many) := by
    show (if takeOk s many = true then some (takeF s many) else none) = _
    rw [if_pos e]
  rw [e2]
  unfold takeF
  split
  · refine ⟨_, _, rfl, ?_, ?_, ?_⟩
    · rw [Int.fmod_eq_emod_of_nonneg _ (Int.le_of_lt h1)]; exact Int.emod_nonneg _ (by omega)
    · rw [Int.fmod_eq_emod_of_nonneg _ (Int.le_of_lt h1)]; exact Int.emod_lt_of_pos _ h1
    · exact ⟨by simpa using a, by simpa using b, by show 0 ≤ s.2 + 1; omega, by show s.2 + 1 + (n : Int) < 1000000; omega⟩
  · refine ⟨_, _, rfl, ?_, ?_, ?_⟩
    · unfold mix; rw [Int.fmod_eq_emod_of_nonneg _ (Int.le_of_lt h1)]; exact Int.emod_nonneg _ (by omega)
    · unfold mix; rw [Int.fmod_eq_emod_of_nonneg _ (Int.le_of_lt h1)]; exact Int.emod_lt_of_pos _ h1
    · exact ⟨a, b, by show 0 ≤ s.2 + 1; omega, by show s.2 + 1 + (n : Int) < 1000000; omega⟩
noncomputable def Bt (n : Nat) (i : Int) : Prop := i.natAbs < 2 ^ n
theorem Bt.mono {n m : Nat} {i : Int} (h : Bt n i) (hm : n ≤ m) : Bt m i := Nat.lt_of_lt_of_le h (Nat.pow_le_pow_right (by decide) hm)
theorem Bt.mul {n m : Nat} {i j : Int} (h : Bt n i) (h2 : Bt m j) : Bt (n + m) (i * j) := by
  unfold Bt at *
  rw [Int.natAbs_mul, Nat.pow_add]
  exact Nat.mul_lt_mul'' h h2
theorem Bt.add {n m : Nat} {i j : Int} (h : Bt n i) (h2 : Bt m j) : Bt (max n m + 1) (i + j) := by
  have h1' := h.mono (Nat.le_max_left n m)
  have h2' := h2.mono (Nat.le_max_right n m)
  unfold Bt at *
  have := Int.natAbs_add_le i j
  rw [Nat.pow_succ]; omega
theorem Bt.neg {n : Nat} {i : Int} (h : Bt n i) : Bt n (-i) := by unfold Bt at *; rwa [Int.natAbs_neg]
theorem Bt.sub {n m : Nat} {i j : Int} (h : Bt n i) (h2 : Bt m j) : Bt (max n m + 1) (i - j) := by rw [Int.sub_eq_add_neg]; exact h.add h2.neg
theorem Bt.lit {n : Nat} {i : Int} (h : decide (i.natAbs < 2 ^ n) = true) : Bt n i := by unfold Bt; exact of_decide_eq_true h
theorem Bt.fmod {n : Nat} {i j : Int} (hj : 0 < j) (h : Bt n j) : Bt n (i.fmod j) := by
  unfold Bt at *
  rw [Int.fmod_eq_emod_of_nonneg _ (Int.le_of_lt hj)]
  have := Int.emod_nonneg i (show j ≠ 0 by omega)
  have := Int.emod_lt_of_pos i hj
  omega
theorem Bt.ok {n m : Nat} {i j : Int} (h : Bt n i) (h2 : Bt m j) (hs : n + m ≤ 134217728) : mulOk i j = true := by
  refine decide_eq_true (Nat.le_trans (Nat.add_le_add ?_ ?_) hs)
  · exact PySem.intBits_le_iff.mpr h
  · exact PySem.intBits_le_iff.mpr h2
theorem Bt.div {n : Nat} {i j : Int} (h : Bt n j) (h0 : j ≠ 0) (hn : n ≤ 9000) : divOk i j = true := by
  unfold divOk
  simp only [Bool.and_eq_true, decide_eq_true_eq]
  refine ⟨h0, ?_⟩
  rw [Nat.log2_lt (by omega)]
  exact Nat.lt_of_lt_of_le h (Nat.pow_le_pow_right (by decide) hn)
noncomputable def G_mixed : GS := sSeq (sSet 6 (f2 gModI (f2 gMulI (f2 gAddI (f2 gAddI (f2 gModI (fVar 4) (fC (.int 2147483629))) (f2 gMulI (f2 gMulI (fVar 2) (fVar 2)) (fC (.int 7919)))) (fC (.int 11))) (fC (.int 48271))) (fC (.int 2147483647))))
  (sSeq (sSet 6 (f2 gModI (f2 gMulI (fVar 6) (fVar 6)) (fC (.int 2147483587))))
  (sRet (f2 gModI (f2 gDivI (f2 gModI (f2 gMulI (f2 gAddI (fVar 6) (f2 gMulI (fVar 2) (fC (.int 104729)))) (fC (.int 39373))) (fC (.int 2147483629))) (fC (.int 64))) (fVar 1))))
theorem mixed_run {cell t many : Int} {s : Sx} (h0 : 0 ≤ t) (h1 : t ≤ 1000000) (hm : 0 < many) : G_mixed [.non, .val (.int many), .val (.int t), .non, .val (.int cell), .non, .non] s = some (.ret (.int (mix cell t many)), s) := by
  have b1 : Bt 20 t := by unfold Bt; omega
  have b2 : Bt 31 (cell.fmod 2147483629) := Bt.fmod (by decide) (.lit (by decide))
  have b3 : Bt 31 (mix1 cell t) := Bt.fmod (by decide) (.lit (by decide))
  have b4 : Bt 31 (mix2 cell t) := Bt.fmod (by decide) (.lit (by decide))
  have m1 : mulOk t t = true := b1.ok b1 (by decide)
  have m2 : mulOk (t * t) 7919 = true := (b1.mul b1).ok (n := 40) (m := 13) (.lit (by decide)) (by decide)
  have b5 : Bt 60 (cell.fmod 2147483629 + t * t * 7919 + 11) := ((b2.add ((b1.mul b1).mul (.lit (n := 13) (by decide)))).add (.lit (n := 4) (by decide))).mono (by decide)
  have m3 : mulOk (cell.fmod 2147483629 + t * t * 7919 + 11) 48271 = true := b5.ok (m := 16) (.lit (by decide)) (by decide)
  have m4 : mulOk (mix1 cell t) (mix1 cell t) = true := b3.ok b3 (by decide)
  have m5 : mulOk t 104729 = true := b1.ok (m := 17) (.lit (by decide)) (by decide)
  have m6 : mulOk (mix2 cell t + t * 104729) 39373 = true := (b4.add (b1.mul (.lit (n := 17) (by decide)))).ok (m := 16) (.lit (by decide)) (by decide)
  have d1 : divOk (((mix2 cell t + t * 104729) * 39373).fmod 2147483629) 64 = true := Bt.div (n := 7) (.lit (by decide)) (by decide) (by decide)
  have n1 : decide (many ≠ 0) = true := decide_eq_true (by omega)
  have e1 : ∀ (δ : Sl), δ[4]? = some (.val (.int cell)) → δ[2]? = some (.val (.int t)) → sSet 6 (f2 gModI (f2 gMulI (f2 gAddI (f2 gAddI (f2 gModI (fVar 4) (fC (.int 2147483629))) (f2 gMulI (f2 gMulI (fVar 2) (fVar 2)) (fC (.int 7919)))) (fC (.int 11))) (fC (.int 48271))) (fC (.int 2147483647))) δ s = some (.next (δ.set 6 (.val (.int (mix1 cell t)))), s) := fun δ h4 h2 => by
    simp [sSet, f2, fVar, fC, h4, h2, gModI, gMulI, gAddI, gI, m1, m2, m3, mix1]
  have e2 : ∀ (δ : Sl), δ[6]? = some (.val (.int (mix1 cell t))) → sSet 6 (f2 gModI (f2 gMulI (fVar 6) (fVar 6)) (fC (.int 2147483587))) δ s = some (.next (δ.set 6 (.val (.int (mix2 cell t)))), s) := fun δ h6 => by
    simp [sSet, f2, fVar, fC, h6, gModI, gMulI, gI, m4, mix2]
  have e3 : ∀ (δ : Sl), δ[6]? = some (.val (.int (mix2 cell t))) → δ[2]? = some (.val (.int t)) → δ[1]? = some (.val (.int many)) → sRet (f2 gModI (f2 gDivI (f2 gModI (f2 gMulI (f2 gAddI (fVar 6) (f2 gMulI (fVar 2) (fC (.int 104729)))) (fC (.int 39373))) (fC (.int 2147483629))) (fC (.int 64))) (fVar 1)) δ s = some (.ret (.int (mix cell t many)), s) := fun δ h6 h2 h1 => by
    have n2 : ¬ many = 0 := by omega
    simp [sRet, f2, fVar, fC, h6, h2, h1, gModI, gMulI, gAddI, gDivI, gI, m5, m6, d1, n2, mix]
  unfold G_mixed sSeq
  rw [e1 _ rfl rfl]
  show (match sSet 6 _ _ s with | some (.next δ', s') => _ | r => r) = _
  rw [e2 _ rfl]
  exact e3 _ rfl rfl rfl
noncomputable def beginCells (ns : List Int) : List Int := if ns = [] then [7] else ns
noncomputable def spBegin (K : PySem.W.Frag) : Sp := fun vs H Q _ => ∃ a ns, vs = [.ref a] ∧ SqL K H a (ns.map V.int) ∧ ns.length ≤ 63 ∧
  ∀ st c H', (∀ b o, H b = some o → H' b = some o) → H' st = some (.dK (stDict c 0)) → H' c = some (.lst ((beginCells ns).map V.int)) → Q (.ref st) H'
end L3
namespace L3
open PySem L2 PySem.Spec PyProof.Rows
theorem DSs.any {X : Cx} {sts : List Stmt} {G : GS} (h : DSs X sts G) : PSs X sts (fun E σ H => ∃ Z A, tDS X Z A G E σ H) := fun pins s σ H D I x__123 => (by obtain ⟨Z, A, q⟩ := x__123; exact h Z A pins s σ H D I q)
theorem DS.at0 {X : Cx} {st : Stmt} {G : GS} (h : DS X st G) : PS X st (tDS X none [] G) := h none []
theorem reps_ints (K : PySem.W.Frag) (Z : Zt) (H : Hp) (A : List Addr) : ∀ ns : List Int, Reps K Z H A (ns.map V.int) (ns.map PyData.int)
  | [] => .nil
  | n :: r => .cons (.int n) (reps_ints K Z H A r)
theorem ints_of_reps {K : PySem.W.Frag} {Z : Zt} {H : Hp} {A : List Addr} : ∀ {ns : List Int} {vs : List V}, Reps K Z H A vs (ns.map PyData.int) → vs = ns.map V.int
  | [], _, .nil => rfl
  | n :: r, _, .cons h t => by cases h; rw [ints_of_reps t]; rfl
theorem lay_ints : ∀ ns : List Int, PyData.canLayAll0 (ns.map PyData.int) = true
  | [] => by simp [PyData.canLayAll0]
  | n :: r => by simp [PyData.canLayAll0, PyData.canLay0, lay_ints r]
theorem depth_ints : ∀ ns : List Int, PyData.depthAll (ns.map PyData.int) = 0
  | [] => by simp [PyData.depthAll]
  | n :: r => by simp [PyData.depthAll, PyData.depth, depth_ints r]
theorem shaped_ints (ns : List Int) : SeqAt.shaped (.list (ns.map PyData.int)) = true := by
  simp [SeqAt.shaped, PyData.canLay0, PyData.depth, lay_ints, depth_ints]
theorem shaped_nil : SeqAt.shaped (.list []) = true := by simp [SeqAt.shaped, PyData.canLay0, PyData.depth, PyData.canLayAll0, PyData.depthAll]
theorem eqv_nil (ns : List Int) : PyData.eqv (.list (ns.map PyData.int)) (.list []) = decide (ns = []) := by
  cases ns <;> simp [PyData.eqv, PyData.eqvAll]
noncomputable def G_seven : GS := sIf (asB (f2 gEq (fVar 1) (eLst aNil))) (sSet 1 (eLst (aCons (fC (.int 7)) aNil))) sNext
theorem seven_run (ns : List Int) (s : Sx) (c : Ce) : G_seven [c, .val (.list (ns.map PyData.int))] s = some (.next [c, .val (.list ((beginCells ns).map PyData.int))], s) := by
  have e1 : small [] = true := by decide
  have e2 : small [PyData.int 7] = true := by decide
  simp only [G_seven, sIf, asB, f2, fVar, eLst, aNil, aCons, fC, List.getElem?_cons_succ, List.getElem?_cons_zero, Option.bind_some, Option.map_some, e1, if_true, gEq, shaped_ints, shaped_nil, Bool.and_self, eqv_nil]
  by_cases h : ns = []
  · subst h
    simp [sSet, eLst, aCons, aNil, fC, e2, beginCells]
  · simp [h, sNext, beginCells]
end L3
namespace L3
open PySem L2 PySem.Spec PyProof.Rows
noncomputable def spLaw (K : PySem.W.Frag) : Sp := fun vs H Q _ => ∃ (a : Addr) (ns : List Int), vs = [.ref a] ∧ SqL K H a (ns.map V.int) ∧ ns.length ≤ 63 ∧ ∀ H', Q (.bl true) H'
theorem begin_len (ns : List Int) (h : ns.length ≤ 63) : 0 < (beginCells ns).length ∧ (beginCells ns).length ≤ 63 := by
  unfold beginCells
  split
  · exact ⟨by decide, by decide⟩
  · rename_i hn
    exact ⟨by cases ns with | nil => exact absurd rfl hn | cons a r => simp, h⟩
end L3

namespace L3
open PySem L2 PySem.Spec PyProof.Rows
theorem forD_run {T : Tgt} {G : GS} (I : Nat → Sl → Sx → Prop) : ∀ (ds : List D) (δ : Sl) (s : Sx), I ds.length δ s →
    (∀ k d δ s, d ∈ ds → I (k + 1) δ s → ∃ δ1 δ' s', T.run d δ = some δ1 ∧ G δ1 s = some (.next δ', s') ∧ I k δ' s') → ∃ δ' s', forD T G ds δ s = some (.next δ', s') ∧ I 0 δ' s'
  | [], δ, s, h, _ => ⟨δ, s, rfl, h⟩
  | d :: ds, δ, s, h, step => by
    obtain ⟨δ1, δ2, s2, e1, e2, h2⟩ := step ds.length d δ s List.mem_cons_self h
    obtain ⟨δ3, s3, e3, h3⟩ := forD_run I ds δ2 s2 h2 fun k d' δ s hd => step k d' δ s (List.mem_cons_of_mem _ hd)
    refine ⟨δ3, s3, ?_, h3⟩
    show ((T.run d δ).bind fun δ1 => _) = _
    rw [e1]
    show (match G δ1 s with | some (.next δ', s') => forD T G ds δ' s' | some (.cnt δ', s') => forD T G ds δ' s' | some (.brk δ', s') => some (.next δ', s') | some (.ret r, s') => some (.ret r, s') | some (.own r, s') => some (.own r, s') | none => none) = _
    rw [e2]
    exact e3
theorem euclid {Ft : FT} {G : GS} {s : Sx} (mk : Nat → Nat → Sl) (t0 : ∀ a, Ft (mk a 0) s = some (false, s)) (t1 : ∀ a b, 0 < b → Ft (mk a b) s = some (true, s)) (g : ∀ a b, 0 < b → G (mk a b) s = some (.next (mk b (a % b)), s)) :
    ∀ (k a b : Nat), b < 2 ^ k → whileN Ft G (2 * k + 1) (mk a b) s = some (.next (mk (Nat.gcd a b) 0), s) := by
  have zero : ∀ n a, whileN Ft G (n + 1) (mk a 0) s = some (.next (mk a 0), s) := fun n a => by
    unfold whileN
    rw [t0]; rfl
  have one : ∀ n a b, 0 < b → whileN Ft G (n + 1) (mk a b) s = whileN Ft G n (mk b (a % b)) s := fun n a b hb => by
    rw [whileN.eq_2, t1 a b hb]
    show (match G (mk a b) s with | some (.next δ', s') => whileN Ft G n δ' s' | some (.cnt δ', s') => whileN Ft G n δ' s' | some (.brk δ', s') => some (.next δ', s') | some (.ret d, s') => some (.ret d, s') | some (.own d, s') => some (.own d, s') | none => none) = _
    rw [g a b hb]
  intro k
  induction k with
  | zero =>
    intro a b hb
    have e : b = 0 := by simpa using hb
    subst e
    rw [zero, Nat.gcd_zero_right]
  | succ k ih =>
    intro a b hb
    by_cases h0 : b = 0
    · subst h0; rw [show 2 * (k + 1) + 1 = (2 * k + 2) + 1 by omega, zero, Nat.gcd_zero_right]
    · have hb0 : 0 < b := by omega
      rw [show 2 * (k + 1) + 1 = (2 * k + 2) + 1 by omega, one _ _ _ hb0]
      by_cases h1 : a % b = 0
      · rw [h1, show 2 * k + 2 = (2 * k + 1) + 1 by omega, zero]
        have : Nat.gcd a b = b := by rw [Nat.gcd_comm, Nat.gcd_rec, h1, Nat.gcd_zero_left]
        rw [this]
      · have hr : 0 < a % b := by omega
        rw [show 2 * k + 2 = (2 * k + 1) + 1 by omega, one _ _ _ hr, ih]
        · have e1 : Nat.gcd a b = Nat.gcd b (a % b) := by rw [Nat.gcd_comm a b, Nat.gcd_rec b a, Nat.gcd_comm]
          have e2 : Nat.gcd b (a % b) = Nat.gcd (a % b) (b % (a % b)) := by rw [Nat.gcd_comm b (a % b), Nat.gcd_rec (a % b) b, Nat.gcd_comm]
          rw [e1, e2]
        · have l1 : a % b < b := Nat.mod_lt _ hb0
          have l2 : b % (a % b) < a % b := Nat.mod_lt _ hr
          have l3 : a % b + b % (a % b) ≤ b := by
            have := Nat.div_add_mod b (a % b)
            have h1 : 1 ≤ b / (a % b) := Nat.div_pos (Nat.le_of_lt l1) hr
            have h2 : a % b * 1 ≤ a % b * (b / (a % b)) := Nat.mul_le_mul_left _ h1
            omega
          rw [Nat.pow_succ] at hb
          omega
theorem euclidF {Ft : FT} {G : GS} {s : Sx} (mk : Nat → Nat → Sl) (t0 : ∀ a, Ft (mk a 0) s = some (false, s)) (t1 : ∀ a b, 0 < b → Ft (mk a b) s = some (true, s)) (g : ∀ a b, 0 < b → G (mk a b) s = some (.next (mk b (a % b)), s))
    {k a b : Nat} (hb : b < 2 ^ k) (hk : k ≤ 100000) : sWhile Ft G (mk a b) s = some (.next (mk (Nat.gcd a b) 0), s) := whileN_mono (euclid mk t0 t1 g k a b hb) (by unfold fuel; omega)

noncomputable def sgn (b : Int) : Int := if b < 0 then -1 else 1
noncomputable def numT (t b : Int) : Int := (sgn b * t).fdiv (Int.gcd t b)
noncomputable def numB (t b : Int) : Int := (sgn b * b).fdiv (Int.gcd t b)
noncomputable def num (t b : Int) : D := .tuple [.int (numT t b), .int (numB t b)]
theorem fdiv_neg_sgn (t g : Int) : t.fdiv (-g) = (-t).fdiv g := by
  have := Int.neg_fdiv_neg (-t) g
  rw [Int.neg_neg] at this
  exact this
theorem gcd_pos {t b : Int} (hb : b ≠ 0) : 0 < (Int.gcd t b : Int) := by
  have : 0 < Int.gcd t b := Int.gcd_pos_of_ne_zero_right t hb
  omega
theorem num_parts {t b : Int} (hb : b ≠ 0) : ∃ t' b', t = (Int.gcd t b : Int) * t' ∧ b = (Int.gcd t b : Int) * b' ∧ numT t b = sgn b * t' ∧ numB t b = sgn b * b' ∧ Int.gcd t' b' = 1 := by
  obtain ⟨t', e1⟩ := Int.gcd_dvd_left (a := t) (b := b)
  obtain ⟨b', e2⟩ := Int.gcd_dvd_right (a := t) (b := b)
  have hg := gcd_pos (t := t) hb
  refine ⟨t', b', e1, e2, ?_, ?_, ?_⟩
  · unfold numT
    have : sgn b * t = (Int.gcd t b : Int) * (sgn b * t') := by
      calc sgn b * t = sgn b * ((Int.gcd t b : Int) * t') := by rw [← e1]
        _ = (Int.gcd t b : Int) * (sgn b * t') := by rw [← Int.mul_assoc, ← Int.mul_assoc, Int.mul_comm (sgn b)]
    rw [this, Int.mul_fdiv_cancel_left _ (by omega)]
  · unfold numB
    have : sgn b * b = (Int.gcd t b : Int) * (sgn b * b') := by
      calc sgn b * b = sgn b * ((Int.gcd t b : Int) * b') := by rw [← e2]
        _ = (Int.gcd t b : Int) * (sgn b * b') := by rw [← Int.mul_assoc, ← Int.mul_assoc, Int.mul_comm (sgn b)]
    rw [this, Int.mul_fdiv_cancel_left _ (by omega)]
  · have h := Int.gcd_mul_left (Int.gcd t b : Int) t' b'
    rw [← e1, ← e2] at h
    have hgn : 0 < Int.gcd t b := by omega
    have h2 : ((Int.gcd t b : Int)).natAbs = Int.gcd t b := by omega
    rw [h2] at h
    exact Nat.eq_of_mul_eq_mul_left hgn (by rw [Nat.mul_one]; exact h.symm)
end L3
namespace L3
open PySem L2 PySem.Spec PyProof.Rows
theorem sgn_abs (b : Int) : (sgn b).natAbs = 1 := by unfold sgn; split <;> rfl
theorem numB_pos {t b : Int} (hb : b ≠ 0) : 0 < numB t b := by
  obtain ⟨t', b', e1, e2, e3, e4, e5⟩ := num_parts (t := t) hb
  have hg := gcd_pos (t := t) hb
  rw [e4]
  generalize (Int.gcd t b : Int) = g at *
  subst e2
  unfold sgn
  split
  · rename_i h
    have : b' < 0 := by
      by_cases q : b' < 0
      · exact q
      · exact absurd h (Int.not_lt.mpr (Int.mul_nonneg (Int.le_of_lt hg) (Int.not_lt.mp q)))
    omega
  · rename_i h
    have : b' ≠ 0 := fun z => by subst z; exact hb (Int.mul_zero _)
    have : 0 ≤ b' := by
      by_cases q : b' < 0
      · exact absurd (Int.mul_neg_of_pos_of_neg hg q) h
      · exact Int.not_lt.mp q
    omega
theorem num_gcd {t b : Int} (hb : b ≠ 0) : Int.gcd (numT t b) (numB t b) = 1 := by
  obtain ⟨t', b', e1, e2, e3, e4, e5⟩ := num_parts (t := t) hb
  rw [e3, e4, Int.gcd_mul_left, e5, sgn_abs]
theorem abs_if (i : Int) : (if i < 0 then -i else i) = (i.natAbs : Int) := by split <;> omega
theorem fmod_nat (a b : Nat) : ((a : Int)).fmod (b : Int) = ((a % b : Nat) : Int) := by
  rw [Int.fmod_eq_emod_of_nonneg _ (Int.natCast_nonneg b)]; rfl
theorem Bt.gcd {n : Nat} {a b : Int} (h : Bt n b) (hb : b ≠ 0) : Bt n (Int.gcd a b : Int) := by
  unfold Bt at *
  have h1 : Int.gcd a b ∣ b.natAbs := Nat.gcd_dvd_right a.natAbs b.natAbs
  have := Nat.le_of_dvd (by omega) h1
  omega
theorem Bt.fdiv {n : Nat} {a b : Int} (h : Bt n a) : Bt n (a.fdiv b) := Nat.lt_of_le_of_lt (PySem.natAbs_fdiv_le a b) h
theorem Bt.sgn {n : Nat} {a b : Int} (h : Bt n a) : Bt n (L3.sgn b * a) := by unfold Bt at *; rw [Int.natAbs_mul, sgn_abs, Nat.one_mul]; exact h
theorem Bt.numT {n : Nat} {t b : Int} (h : Bt n t) : Bt n (L3.numT t b) := Bt.fdiv h.sgn
theorem Bt.numB {n : Nat} {t b : Int} (h : Bt n b) : Bt n (L3.numB t b) := Bt.fdiv h.sgn
end L3

namespace L3
open PySem L2 PySem.Spec PyProof.Rows
section
variable {X : Cx} {e : Expr} {Fa F : FE} {x : Str} {p pos apos cpos : Pos}
noncomputable def bitsOf (i : Int) : Int := (Builtin.Int.intBits i : Int)
noncomputable def gBits : G1 := fun d => match d with | .int i => some (.int (bitsOf i)) | _ => none
theorem mt_bits : MtR X "int.bit_length" (fun x xs H Q => ∃ i, x = .int i ∧ xs = [] ∧ Q (.int (bitsOf i)) H) := by
  intro pins s σ H x xs v us Q I rx rv ⟨i, e1, e2, q⟩
  subst e1 e2
  cases rv
  obtain ⟨t, rfl⟩ := rx
  exact call_int_bit_length ⟨.int _, H, I.tok _, ⟨_, rfl⟩, q⟩
theorem de_bits (ha : DW X e Fa) (hbase : attributeBase e "bit_length" X.env (eval e X.env) = eval e X.env := by rfl) (hline : (apos.endLine == cpos.line) = true := by rfl) : DE X (.Call (.Attribute e "bit_length" apos) [] [] cpos) (f1 gBits Fa) := ⟨fun Z A => PE.imp (pe_bm0 PySem.F.plainAttrs_int slot_int_bit_length type_int_bit_length mt_bits (ha Z A) hbase hline) fun σ H Q x__124 => by
    obtain ⟨B, ow, δ, s, d, s', R, S, e, q⟩ := x__124
    unfold f1 at e
    first | refine bnd2 e fun dx s1 e1 e => ?_ | refine mpp2 e fun dx s1 e1 e => ?_
    cases dx <;> first | (cases e; done) | skip
    cases e
    refine ⟨B, ow, δ, s, _, _, R, S, e1, fun v H' x1 S1 r => ?_⟩
    cases r.int
    exact ⟨rfl, _, rfl, rfl, q _ H' x1 S1 (.int _)⟩⟩
theorem de_modI {i : Int} {t : Nat} (hm : X.mg x = some (.int i t)) (hg : Gl X x := by rfl) (hdb : (x == ("__debug__" : Str)) = false := by decide) : DE X (.Name x pos) (fC (.int i)) :=
  de_const (pe_glob (v := .int i) hg hm ⟨t, rfl⟩ hdb) fun _ _ _ _ => .int i
end
end L3

namespace L3
open PySem L2 PySem.Spec PyProof.Rows
theorem dvd_of_cop {a b c : Int} (h : a ∣ b * c) (hc : Int.gcd a b = 1) : a ∣ c := by
  have h' : a.natAbs ∣ b.natAbs * c.natAbs := by rw [← Int.natAbs_mul]; exact Int.natAbs_dvd_natAbs.mpr h
  exact Int.natAbs_dvd_natAbs.mp (Nat.Coprime.dvd_of_dvd_mul_left hc h')
theorem num_unique {T B p q : Int} (hB : B ≠ 0) (hq : 0 < q) (hc : Int.gcd p q = 1) (h : p * B = T * q) : numT T B = p ∧ numB T B = q := by
  obtain ⟨t', b', e1, e2, e3, e4, e5⟩ := num_parts (t := T) hB
  have hg := gcd_pos (t := T) hB
  have hp := numB_pos (t := T) hB
  have hn := num_gcd (t := T) hB
  -- p * numB = numT * q
  have hx : p * numB T B = numT T B * q := by
    rw [e3, e4]
    have hgz : (Int.gcd T B : Int) ≠ 0 := by omega
    have h1 : (Int.gcd T B : Int) * (p * b') = (Int.gcd T B : Int) * (t' * q) := by
      have : p * ((Int.gcd T B : Int) * b') = ((Int.gcd T B : Int) * t') * q := by rw [← e1, ← e2]; exact h
      rw [Int.mul_left_comm, this, Int.mul_assoc]
    have h2 := Int.eq_of_mul_eq_mul_left hgz h1
    rw [Int.mul_left_comm, h2, Int.mul_assoc]
  have d1 : numB T B ∣ q := by
    have hd : numB T B ∣ numT T B * q := ⟨p, by rw [← hx, Int.mul_comm]⟩
    exact dvd_of_cop hd (by rw [Int.gcd_comm]; exact hn)
  have d2 : q ∣ numB T B := by
    have hd : q ∣ p * numB T B := ⟨numT T B, by rw [hx, Int.mul_comm]⟩
    exact dvd_of_cop hd (by rw [Int.gcd_comm]; exact hc)
  have eq : numB T B = q := Int.dvd_antisymm (Int.le_of_lt hp) (Int.le_of_lt hq) d1 d2
  refine ⟨?_, eq⟩
  rw [eq] at hx
  exact (Int.eq_of_mul_eq_mul_right (by omega) hx).symm
theorem num_eq {T B p q : Int} (hB : B ≠ 0) (hq : 0 < q) (hc : Int.gcd p q = 1) (h : p * B = T * q) : num T B = .tuple [.int p, .int q] := by
  obtain ⟨e1, e2⟩ := num_unique hB hq hc h
  unfold num; rw [e1, e2]
theorem num_cross {T B : Int} (hB : B ≠ 0) : numT T B * B = T * numB T B := by
  obtain ⟨t', b', e1, e2, e3, e4, e5⟩ := num_parts (t := T) hB
  rw [e3, e4]
  generalize (Int.gcd T B : Int) = g at *
  subst e1 e2
  simp only [Int.mul_assoc, Int.mul_comm, Int.mul_left_comm]
theorem gcd1_mul {a b c : Int} (h1 : Int.gcd a b = 1) (h2 : Int.gcd a c = 1) : Int.gcd a (b * c) = 1 := by
  unfold Int.gcd at *
  rw [Int.natAbs_mul]
  exact Nat.Coprime.mul_right h1 h2
theorem gcd1_mul_left {a b c : Int} (h1 : Int.gcd a c = 1) (h2 : Int.gcd b c = 1) : Int.gcd (a * b) c = 1 := by
  rw [Int.gcd_comm]; exact gcd1_mul (by rw [Int.gcd_comm]; exact h1) (by rw [Int.gcd_comm]; exact h2)
theorem gcd1_dvd {a b a' b' : Int} (h : Int.gcd a b = 1) (ha : a' ∣ a) (hb : b' ∣ b) : Int.gcd a' b' = 1 := by
  unfold Int.gcd at *
  exact Nat.Coprime.coprime_dvd_left (Int.natAbs_dvd_natAbs.mpr ha) (Nat.Coprime.coprime_dvd_right (Int.natAbs_dvd_natAbs.mpr hb) h)
theorem numT_dvd {t b : Int} (hb : b ≠ 0) : numT t b ∣ t := by
  obtain ⟨t', b', e1, e2, e3, e4, e5⟩ := num_parts (t := t) hb
  rw [e3]
  refine ⟨(Int.gcd t b : Int) * sgn b, ?_⟩
  have : sgn b * sgn b = 1 := by unfold sgn; split <;> rfl
  calc t = (Int.gcd t b : Int) * t' := e1
    _ = (sgn b * sgn b) * ((Int.gcd t b : Int) * t') := by rw [this, Int.one_mul]
    _ = sgn b * t' * ((Int.gcd t b : Int) * sgn b) := by simp only [Int.mul_assoc, Int.mul_comm, Int.mul_left_comm]
theorem numB_dvd {t b : Int} (hb : b ≠ 0) : numB t b ∣ b := by
  obtain ⟨t', b', e1, e2, e3, e4, e5⟩ := num_parts (t := t) hb
  rw [e4]
  refine ⟨(Int.gcd t b : Int) * sgn b, ?_⟩
  have : sgn b * sgn b = 1 := by unfold sgn; split <;> rfl
  calc b = (Int.gcd t b : Int) * b' := e2
    _ = (sgn b * sgn b) * ((Int.gcd t b : Int) * b') := by rw [this, Int.one_mul]
    _ = sgn b * b' * ((Int.gcd t b : Int) * sgn b) := by simp only [Int.mul_assoc, Int.mul_comm, Int.mul_left_comm]
theorem sum_num {a b c d : Int} (hb : 0 < b) (hd : 0 < d) (h1 : Int.gcd a b = 1) (h2 : Int.gcd c d = 1) :
    numT (a * (d.fdiv (Int.gcd b d)) + c * (b.fdiv (Int.gcd b d))) (Int.gcd b d) = numT (a * d + c * b) (b * d) ∧
    b.fdiv (Int.gcd b d) * (d.fdiv (Int.gcd b d)) * numB (a * (d.fdiv (Int.gcd b d)) + c * (b.fdiv (Int.gcd b d))) (Int.gcd b d) = numB (a * d + c * b) (b * d) := by
  have hg : 0 < (Int.gcd b d : Int) := gcd_pos (by omega)
  obtain ⟨b', e1⟩ := Int.gcd_dvd_left (a := b) (b := d)
  obtain ⟨d', e2⟩ := Int.gcd_dvd_right (a := b) (b := d)
  have f1 : b.fdiv (Int.gcd b d) = b' := by
    conv => lhs; arg 1; rw [e1]
    exact Int.mul_fdiv_cancel_left _ (by omega)
  have f2 : d.fdiv (Int.gcd b d) = d' := by
    conv => lhs; arg 1; rw [e2]
    exact Int.mul_fdiv_cancel_left _ (by omega)
  have cop : Int.gcd b' d' = 1 := by
    have h := Int.gcd_mul_left (Int.gcd b d : Int) b' d'
    rw [← e1, ← e2] at h
    have h3 : ((Int.gcd b d : Int)).natAbs = Int.gcd b d := by omega
    rw [h3] at h
    have hgn : 0 < Int.gcd b d := by omega
    exact Nat.eq_of_mul_eq_mul_left hgn (by rw [Nat.mul_one]; exact h.symm)
  rw [f1, f2]
  generalize hgg : (Int.gcd b d : Int) = g at *
  have hbp : 0 < b' := by
    rw [e1] at hb
    exact Int.pos_of_mul_pos_right hb hg
  have hdp : 0 < d' := by
    rw [e2] at hd
    exact Int.pos_of_mul_pos_right hd hg
  have hgn : g ≠ 0 := by omega
  have nb := numB_pos (t := a * d' + c * b') hgn
  have nc := num_gcd (t := a * d' + c * b') hgn
  have nx := num_cross (T := a * d' + c * b') hgn
  have ab' : Int.gcd a b' = 1 := gcd1_dvd h1 (Int.dvd_refl _) ⟨g, by rw [e1, Int.mul_comm]⟩
  have cd' : Int.gcd c d' = 1 := gcd1_dvd h2 (Int.dvd_refl _) ⟨g, by rw [e2, Int.mul_comm]⟩
  have tb : Int.gcd (a * d' + c * b') b' = 1 := by
    rw [Int.gcd_add_mul_right_left]
    exact gcd1_mul_left ab' (by rw [Int.gcd_comm]; exact cop)
  have td : Int.gcd (a * d' + c * b') d' = 1 := by
    rw [Int.add_comm, Int.gcd_add_mul_right_left]
    exact gcd1_mul_left cd' cop
  have tdv : numT (a * d' + c * b') g ∣ a * d' + c * b' := numT_dvd hgn
  have res := num_unique (T := a * d + c * b) (B := b * d) (p := numT (a * d' + c * b') g) (q := b' * d' * numB (a * d' + c * b') g)
    (Int.mul_ne_zero (by omega) (by omega)) (Int.mul_pos (Int.mul_pos hbp hdp) nb)
    (gcd1_mul (gcd1_mul (gcd1_dvd tb tdv (Int.dvd_refl _)) (gcd1_dvd td tdv (Int.dvd_refl _))) nc) (by
      have hT : a * d + c * b = g * (a * d' + c * b') := by
        rw [e1, e2, Int.mul_add]
        simp only [Int.mul_assoc, Int.mul_comm, Int.mul_left_comm]
      have hB : b * d = g * (g * (b' * d')) := by
        rw [e1, e2]
        simp only [Int.mul_assoc, Int.mul_comm, Int.mul_left_comm]
      rw [hT, hB]
      generalize a * d' + c * b' = t at *
      calc numT t g * (g * (g * (b' * d'))) = (numT t g * g) * (g * (b' * d')) := by rw [Int.mul_assoc]
        _ = (t * numB t g) * (g * (b' * d')) := by rw [nx]
        _ = g * t * (b' * d' * numB t g) := by simp only [Int.mul_assoc, Int.mul_comm, Int.mul_left_comm])
  exact ⟨res.1.symm, res.2.symm⟩
theorem mul_num {a b c d : Int} (hb : 0 < b) (hd : d ≠ 0) (h1 : Int.gcd a b = 1) (h2 : Int.gcd c d = 1) :
    numT a d * numT c b = numT (a * c) (b * d) ∧ numB a d * numB c b = numB (a * c) (b * d) := by
  have hb0 : b ≠ 0 := by omega
  have p1 := numB_pos (t := a) hd
  have p2 := numB_pos (t := c) hb0
  have c1 := num_gcd (t := a) hd
  have c2 := num_gcd (t := c) hb0
  have x1 := num_cross (T := a) hd
  have x2 := num_cross (T := c) hb0
  have k1 : Int.gcd (numT a d) (numB c b) = 1 := gcd1_dvd h1 (numT_dvd hd) (numB_dvd hb0)
  have k2 : Int.gcd (numT c b) (numB a d) = 1 := gcd1_dvd h2 (numT_dvd hb0) (numB_dvd hd)
  have res := num_unique (T := a * c) (B := b * d) (p := numT a d * numT c b) (q := numB a d * numB c b)
    (Int.mul_ne_zero hb0 hd) (Int.mul_pos p1 p2) (gcd1_mul_left (gcd1_mul c1 k1) (gcd1_mul k2 c2)) (by
      calc numT a d * numT c b * (b * d) = (numT a d * d) * (numT c b * b) := by simp only [Int.mul_assoc, Int.mul_comm, Int.mul_left_comm]
        _ = (a * numB a d) * (c * numB c b) := by rw [x1, x2]
        _ = a * c * (numB a d * numB c b) := by simp only [Int.mul_assoc, Int.mul_comm, Int.mul_left_comm])
  exact ⟨res.1.symm, res.2.symm⟩
theorem gEq_int (i j : Int) : gEq (.int i) (.int j) = some (.bool (decide (i = j))) := by
  simp [gEq, SeqAt.shaped, PyData.canLay0, PyData.depth, PyData.eqv, Bool.beq_eq_decide_eq]
theorem gNe_int (i j : Int) : gNe (.int i) (.int j) = some (.bool (!decide (i = j))) := by
  simp [gNe, SeqAt.shaped, PyData.canLay0, PyData.depth, PyData.eqv, Bool.beq_eq_decide_eq]
theorem gNe_bool (i j : Bool) : gNe (.bool i) (.bool j) = some (.bool (!(i == j))) := by
  simp [gNe, SeqAt.shaped, PyData.canLay0, PyData.depth, PyData.eqv]
theorem small2 (a b : D) : small [a, b] = true := decide_eq_true (by show 2 ≤ sizeLine; decide)
theorem atI0 (a : D) (l : List D) : L2.atI (a :: l) 0 = some a := by
  simp [L2.atI, ixN]
theorem atI1 (a b : D) (l : List D) : L2.atI (a :: b :: l) 1 = some b := by
  have : (1 : Int) < ((a :: b :: l).length : Int) := by simp only [List.length_cons]; omega
  unfold L2.atI ixN
  rw [if_pos (by decide), if_pos this]; rfl
theorem bt_lt {n : Nat} {i : Int} (h0 : -(2 ^ n) < i) (h1 : i < 2 ^ n) : Bt n i := by
  unfold Bt
  have : ((2 ^ n : Nat) : Int) = 2 ^ n := by simp
  omega
theorem sSeq_next {G1 G2 : GS} {δ δ' : Sl} {s s' : Sx} (h : G1 δ s = some (.next δ', s')) : sSeq G1 G2 δ s = G2 δ' s' := by unfold sSeq; rw [h]
theorem sSeq_ret {G1 G2 : GS} {δ : Sl} {d : D} {s s' : Sx} (h : G1 δ s = some (.ret d, s')) : sSeq G1 G2 δ s = some (.ret d, s') := by unfold sSeq; rw [h]
theorem sWhile_done {Ft : FT} {G : GS} {δ : Sl} {s s' : Sx} (h : Ft δ s = some (false, s')) : sWhile Ft G δ s = some (.next δ, s') :=
  whileN_mono (n := 1) (by unfold whileN; rw [h]; rfl) (by unfold fuel; omega)
theorem bits_le {n : Nat} {i : Int} (h : Bt n i) : bitsOf i ≤ n := by
  unfold bitsOf
  have := PySem.intBits_le_iff.mpr h
  omega
noncomputable def Num (n : Nat) (d : D) (p q : Int) : Prop := d = .tuple [.int p, .int q] ∧ 0 < q ∧ Int.gcd p q = 1 ∧ Bt n p ∧ Bt n q
theorem Num.mono {n m : Nat} {d : D} {p q : Int} (h : Num n d p q) (hm : n ≤ m) : Num m d p q := ⟨h.1, h.2.1, h.2.2.1, h.2.2.2.1.mono hm, h.2.2.2.2.mono hm⟩
theorem Num.num {n : Nat} {T B : Int} (hB : B ≠ 0) (h1 : Bt n T) (h2 : Bt n B) : Num n (num T B) (numT T B) (numB T B) := ⟨rfl, numB_pos hB, num_gcd hB, h1.numT, h2.numB⟩
end L3

namespace L3
open PySem L2 PySem.Spec PyProof.Rows

section
variable {K : PySem.W.Frag} {B : Hp} {Z : Zt} {A : List Addr} {ow : Ow} {σ : L2.St} {δ : Sl} {H H' : Hp} {i : Nat} {p : Addr}
theorem RepS.setOwn {s : Sx} {vs : List V} {ds : List D} (R : RepS K B Z A ow σ δ H) (S : StateAt Z H s) (x : Ext Z H H') (hp : H p = none) (h : H' p = some (.lst vs)) (r : Reps K Z H' (p :: (A ++ ow.map (·.2))) vs ds) :
    RepS K B Z A ((i, p) :: ow.filter fun q => decide (q.1 ≠ i)) (σ.set i (some (.ref p))) (δ.set i (.own ds)) H' ∧ Frm Z ow H ((i, p) :: ow.filter fun q => decide (q.1 ≠ i)) H' := by
  have nz : NotZ Z p := S.notZ hp
  have bp : B p = none := by
    cases e : B p with
    | none => rfl
    | some o => rw [R.ext p o e nz] at hp; cases hp
  have pA : ¬ p ∈ A := fun m => by obtain ⟨⟨o, e⟩, _⟩ := R.ok p m; rw [hp] at e; cases e
  have pO : ¬ p ∈ ow.map (·.2) := fun m => by
    obtain ⟨⟨j, q⟩, hq, rfl⟩ := List.mem_map.mp m
    obtain ⟨_, ⟨o, e⟩, _⟩ := R.ows j q hq
    rw [hp] at e; cases e
  have F : Frm Z ow H ((i, p) :: ow.filter fun q => decide (q.1 ≠ i)) H' := fun b o e n m => ⟨x b o e n, fun z => by
    rcases List.mem_cons.mp z with z | z
    · rw [z] at e; simp only at e; rw [hp] at e; cases e
    · obtain ⟨q, hq, e2⟩ := List.mem_map.mp z
      exact m (List.mem_map.mpr ⟨q, (List.mem_filter.mp hq).1, e2⟩)⟩
  refine ⟨⟨fun q hq => ⟨let ⟨o, e⟩ := (R.ok q hq).1; ⟨o, x q o e (R.ok q hq).2⟩, (R.ok q hq).2⟩, R.ext.trans x, by rw [List.length_set, List.length_set]; exact R.len, fun j d' e => ?_, fun j xs e => ?_, fun j q hq => ?_, fun j k q h1 h2 => ?_⟩, F⟩
  · by_cases hj : i = j
    · subst hj
      have hi : i < δ.length := by have := (List.getElem?_eq_some_iff.mp e).1; rwa [List.length_set] at this
      rw [List.getElem?_set_self hi] at e; cases e
    · rw [List.getElem?_set_ne hj] at e
      obtain ⟨v', h1, h2⟩ := R.val j d' e
      exact ⟨v', by rw [List.getElem?_set_ne hj]; exact h1, h2.frm F⟩
  · by_cases hj : i = j
    · subst hj
      have hi : i < δ.length := by have := (List.getElem?_eq_some_iff.mp e).1; rwa [List.length_set] at this
      rw [List.getElem?_set_self hi] at e; cases e
      refine ⟨p, vs, List.mem_cons_self, List.getElem?_set_self (by rw [← R.len]; exact hi), h, r.sub fun q hq => ?_⟩
      rcases List.mem_append.mp hq with hq | hq
      · exact List.mem_cons_of_mem _ (List.mem_append_left _ hq)
      · rcases List.mem_cons.mp hq with hq | hq
        · rw [hq]; exact List.mem_cons_self
        · obtain ⟨q', hq', e2⟩ := List.mem_map.mp hq
          exact List.mem_cons_of_mem _ (List.mem_append_right _ (List.mem_map.mpr ⟨q', (List.mem_filter.mp hq').1, e2⟩))
    · rw [List.getElem?_set_ne hj] at e
      obtain ⟨q, ws, h1, h2, h3, h4⟩ := R.own j xs e
      exact ⟨q, ws, List.mem_cons_of_mem _ (List.mem_filter.mpr ⟨h1, decide_eq_true (Ne.symm hj)⟩), by rw [List.getElem?_set_ne hj]; exact h2, x q _ h3 (R.ows j q h1).2.2.1, h4.frm F⟩
  · rcases List.mem_cons.mp hq with hq | hq
    · cases hq; exact ⟨bp, ⟨_, h⟩, nz, pA⟩
    · obtain ⟨a, ⟨o, b⟩, c, d⟩ := R.ows j q (List.mem_filter.mp hq).1
      exact ⟨a, ⟨o, x q _ b c⟩, c, d⟩
  · rcases List.mem_cons.mp h1 with h1 | h1 <;> rcases List.mem_cons.mp h2 with h2 | h2
    · cases h1; cases h2; rfl
    · cases h1; exact absurd (List.mem_map.mpr ⟨(k, p), (List.mem_filter.mp h2).1, rfl⟩) pO
    · cases h2; exact absurd (List.mem_map.mpr ⟨(j, p), (List.mem_filter.mp h1).1, rfl⟩) pO
    · exact R.inj j k q (List.mem_filter.mp h1).1 (List.mem_filter.mp h2).1
theorem RepS.change {vs : List V} {xs ds : List D} (R : RepS K B Z A ow σ δ H) (ho : δ[i]? = some (.own xs)) (hi : (i, p) ∈ ow) (hs : σ[i]? = some (some (.ref p))) (r : Reps K Z H (A ++ ow.map (·.2)) vs ds) :
    RepS K B Z A ow σ (δ.set i (.own ds)) (upd H p (.lst vs)) ∧ Frm Z ow H ow (upd H p (.lst vs)) := by
  obtain ⟨bp, _, nz, pA⟩ := R.ows i p hi
  have F : Frm Z ow H ow (upd H p (.lst vs)) := fun b o e n m => ⟨by
    rw [upd_ne (fun z => m (by rw [z]; exact List.mem_map.mpr ⟨(i, p), hi, rfl⟩))]; exact e, m⟩
  refine ⟨⟨fun q hq => ⟨?_, (R.ok q hq).2⟩, fun b o e n => ?_, by rw [List.length_set]; exact R.len, fun j d' e => ?_, fun j ys e => ?_, fun j q hq => ?_, R.inj⟩, F⟩
  · obtain ⟨o, e⟩ := (R.ok q hq).1
    exact ⟨o, by rw [upd_ne (fun z => pA (by rw [← z]; exact hq))]; exact e⟩
  · have : b ≠ p := fun z => by rw [z, bp] at e; cases e
    rw [upd_ne this]; exact R.ext b o e n
  · by_cases hj : i = j
    · subst hj
      rw [List.getElem?_set_self (List.getElem?_eq_some_iff.mp ho).1] at e; cases e
    · rw [List.getElem?_set_ne hj] at e
      obtain ⟨v', h1, h2⟩ := R.val j d' e
      exact ⟨v', h1, h2.frm F⟩
  · by_cases hj : i = j
    · subst hj
      rw [List.getElem?_set_self (List.getElem?_eq_some_iff.mp ho).1] at e; cases e
      exact ⟨p, vs, hi, hs, upd_same, r.frm F⟩
    · rw [List.getElem?_set_ne hj] at e
      obtain ⟨q, ws, h1, h2, h3, h4⟩ := R.own j ys e
      have : q ≠ p := fun z => hj (R.inj i j p hi (z ▸ h1))
      exact ⟨q, ws, h1, h2, by rw [upd_ne this]; exact h3, h4.frm F⟩
  · obtain ⟨a, ⟨o, b⟩, c, d⟩ := R.ows j q hq
    refine ⟨a, ?_, c, d⟩
    by_cases z : q = p
    · rw [z]; exact ⟨_, upd_same⟩
    · exact ⟨o, by rw [upd_ne z]; exact b⟩
theorem StateAt.chg {s : Sx} {o : HO} (S : StateAt Z H s) (n : NotZ Z p) : StateAt Z (L2.upd H p o) s := fun a c e =>
  ⟨by rw [upd_ne (Ne.symm (n a c e).1)]; exact (S a c e).1, by rw [upd_ne (Ne.symm (n a c e).2)]; exact (S a c e).2⟩
theorem RepS.freeze {xs : List D} (R : RepS K B Z A ow σ δ H) (ho : δ[i]? = some (.own xs)) :
    ∃ ow', RepS K B Z A ow' σ (δ.set i (.val (.list xs))) H ∧ Frm Z ow H ow' H := by
  obtain ⟨p, vs, h1, h2, h3, h4⟩ := R.own i xs ho
  have r : Rep K Z H (A ++ (ow.filter fun q => decide (q.1 ≠ i)).map (·.2)) (.ref p) (.list xs) := by
    refine .lst h3 (fun m => ?_) (R.ows i p h1).2.2.1 (h4.sub fun q hq => ?_)
    · rcases List.mem_append.mp m with m | m
      · exact (R.ows i p h1).2.2.2 m
      · obtain ⟨⟨j, q⟩, hq, e⟩ := List.mem_map.mp m
        have hq' := List.mem_filter.mp hq
        cases e
        exact of_decide_eq_true hq'.2 (R.inj j i q hq'.1 h1)
    · rcases List.mem_append.mp hq with m | m
      · exact List.mem_append_left _ m
      · obtain ⟨q', hq', e⟩ := List.mem_map.mp m
        exact List.mem_append_right _ (List.mem_map.mpr ⟨q', (List.mem_filter.mp hq').1, e⟩)
  have sub : ∀ q ∈ A ++ (ow.filter fun p => decide (p.1 ≠ i)).map (·.2), q ∈ A ++ ow.map (·.2) := fun q hq => by
    rcases List.mem_append.mp hq with h | h
    · exact List.mem_append_left _ h
    · obtain ⟨p, hp, rfl⟩ := List.mem_map.mp h
      exact List.mem_append_right _ (List.mem_map_of_mem (List.mem_filter.mp hp).1)
  refine ⟨ow.filter fun q => decide (q.1 ≠ i), ⟨R.ok, R.ext, by rw [List.length_set]; exact R.len, fun j d' e => ?_, fun j ys e => ?_, fun j q hq => R.ows j q (List.mem_filter.mp hq).1, fun j k q a b => R.inj j k q (List.mem_filter.mp a).1 (List.mem_filter.mp b).1⟩, fun b o h n m => ⟨h, fun z => m ?_⟩⟩
  · by_cases hj : i = j
    · subst hj
      rw [List.getElem?_set_self (List.getElem?_eq_some_iff.mp ho).1] at e; cases e
      exact ⟨_, h2, r⟩
    · rw [List.getElem?_set_ne hj] at e
      obtain ⟨v', a, b⟩ := R.val j d' e
      exact ⟨v', a, b.sub sub⟩
  · by_cases hj : i = j
    · subst hj
      rw [List.getElem?_set_self (List.getElem?_eq_some_iff.mp ho).1] at e; cases e
    · rw [List.getElem?_set_ne hj] at e
      obtain ⟨q, ws, a, b, c, d⟩ := R.own j ys e
      exact ⟨q, ws, List.mem_filter.mpr ⟨a, decide_eq_true (Ne.symm hj)⟩, b, c, d.sub sub⟩
  · obtain ⟨q, hq, e⟩ := List.mem_map.mp z
    exact List.mem_map.mpr ⟨q, (List.mem_filter.mp hq).1, e⟩
end

section
variable {X : Cx} {st : Stmt} {sts : List Stmt} {e e2 ie : Expr} {es : List Expr} {F Fa Fb Fi : FE} {Fo Fo2 : FO} {FL : FA} {G : GS} {x : Str} {i j : Nat} {p pos px apos cpos tpos : Pos}
theorem df_lst (h : DA X es FL) : DF X (.List es pos) (fun δ s => (FL δ s).bind fun p => if small p.1 = true then some (p.1, p.2) else none) := ⟨fun Z A => PE.imp (pe_lst (h Z A)) fun σ H Q x__125 => by
  obtain ⟨B, ow, δ, s, d, s', R, S, e, q⟩ := x__125
  first | refine bnd1 e fun p e1 e => ?_ | refine mpp1 e fun p e1 e => ?_
  replace e : (if small p.1 = true then some (p.1, p.2) else none) = some (d, s') := e
  split at e
  · rename_i hs
    cases e
    refine ⟨B, ow, δ, s, _, _, R, S, e1, fun vs H1 x1 S1 rs => ⟨?_, fun p hp => q p vs _ (x1.trans (Ext.upd hp)) (S1.upd hp) ?_ upd_same (rs.fresh hp)⟩⟩
    · rw [rs.length]; exact of_decide_eq_true hs
    · cases e9 : H p with
      | none => rfl
      | some o => rw [x1 p o e9 (S1.notZ hp)] at hp; cases hp
  · cases e⟩
noncomputable def oLst (FL : FA) : FO := fun δ s => (FL δ s).bind fun p => if small p.1 = true then some (p.1, p.2) else none
theorem none_of_ext {Z : Zt} {H H1 : Hp} {s : Sx} {p : Addr} (x1 : Ext Z H H1) (S1 : StateAt Z H1 s) (hp : H1 p = none) : H p = none := by
  cases e9 : H p with
  | none => rfl
  | some o => rw [x1 p o e9 (S1.notZ hp)] at hp; cases hp
theorem df_lst' (h : DA X es FL) : DF X (.List es pos) (oLst FL) := df_lst h
noncomputable def oList (Fa : FE) : FO := fun δ s => (Fa δ s).bind fun p => (seqOf p.1).map fun xs => (xs, p.2)
theorem df_list (hv : bootBuiltins x = some (.type "list")) (hm : X.mg x = none) (ha : DW X e Fa) (hg : Gl X x := by rfl) (hn : x ≠ "__name__" := by decide) (hdb : (x == ("__debug__" : Str)) = false := by decide)
    (hs : starEach [e] X.env = (false, eval e X.env) :: starEach [] X.env := by rfl) : DF X (.Call (.Name x p) [e] [] pos) (oList Fa) := ⟨fun Z A => PE.imp (pe_callTy call_list_of hg hm hv (pa_cons (ha Z A) pa_nil hs) hn hdb hs rfl) fun σ H Q x__126 => by
    obtain ⟨B, ow, δ, s, ds, s', R, S, e, q⟩ := x__126
    unfold oList at e
    first | refine bnd2 e fun d s1 e1 e => ?_ | refine mpp2 e fun d s1 e1 e => ?_
    replace e : ((seqOf d).map fun xs => (xs, s1)) = some (ds, s') := e
    refine ⟨B, ow, δ, s, d, s1, R, S, e1, fun v H1 x1 S1 r => ?_⟩
    cases d with
    | list xs =>
      cases e
      obtain ⟨p, vs, ev, sq, _, rs⟩ := r.list
      exact ⟨p, vs, by rw [ev], .inl sq, fun l hl => q l vs _ (x1.trans (Ext.upd hl)) (S1.upd hl) (none_of_ext x1 S1 hl) upd_same (rs.fresh hl)⟩
    | tuple xs =>
      cases e
      obtain ⟨p, vs, ev, sq, rs⟩ := r.tuple
      exact ⟨p, vs, by rw [ev], .inr sq, fun l hl => q l vs _ (x1.trans (Ext.upd hl)) (S1.upd hl) (none_of_ext x1 S1 hl) upd_same (rs.fresh hl)⟩
    | _ => cases e⟩
noncomputable def o2 (g : D → D → Option (List D)) (Fa Fb : FE) : FO := fun δ s => (Fa δ s).bind fun p => (Fb δ p.2).bind fun q => (g p.1 q.1).map fun d => (d, q.2)
theorem df_op {op : Operator} {r : R2} {g : D → D → Option (List D)} (ho : OpR X (binaryOp op) r) (ha : DW X e Fa) (hb : DW X e2 Fb)
    (hr : ∀ (Z : Zt) (A : List Addr) (H : Hp) (x y : V) (dx dy : D) (ds : List D) (Q : VK), RepW X.K Z H A x dx → RepW X.K Z H A y dy → g dx dy = some ds → (∀ p vs, H p = none → Reps X.K Z H A vs ds → Q (.ref p) (upd H p (.lst vs))) → r x y H Q) :
    DF X (.BinOp e op e2 pos) (o2 g Fa Fb) := ⟨fun Z A => PE.imp (pe_op ho (ha Z A) (hb Z A)) fun σ H Q x__127 => by
  obtain ⟨B, ow, δ, s, ds, s', R, S, e, q⟩ := x__127
  unfold o2 at e
  first | refine bnd2 e fun dx s1 e1 e => ?_ | refine mpp2 e fun dx s1 e1 e => ?_
  replace e : ((Fb δ s1).bind fun q => (g dx q.1).map fun d => (d, q.2)) = some (ds, s') := e
  first | refine bnd2 e fun dy s2 e2 e => ?_ | refine mpp2 e fun dy s2 e2 e => ?_
  replace e : ((g dx dy).map fun d => (d, s2)) = some (ds, s') := e
  cases e3 : g dx dy with
  | none => rw [e3] at e; cases e
  | some d' =>
    rw [e3] at e
    cases e
    refine ⟨B, ow, δ, s, dx, s1, R, S, e1, fun v H1 x1 S1 r1 => ⟨B, ow, δ, s1, dy, s', R.mono x1, S1, e2, fun u H2 x2 S2 r2 => ?_⟩⟩
    exact hr Z _ H2 v u dx dy ds Q (r1.ext x2) r2 e3 fun p vs hp rs => q p vs _ ((x1.trans x2).trans (Ext.upd hp)) (S2.upd hp) (none_of_ext (x1.trans x2) S2 hp) upd_same (rs.fresh hp)⟩
noncomputable def lRep : D → D → Option (List D) := fun a b => match a, b with
  | .list xs, .int k => if (decide (-(2 ^ 63) ≤ k) && decide (k < 2 ^ 63) && decide (xs.length * k.toNat ≤ sizeLine)) = true then some (List.replicate k.toNat xs).flatten else none
  | _, _ => none
theorem df_rep (ha : DW X e Fa) (hb : DW X e2 Fb) : DF X (.BinOp e .Mult e2 pos) (o2 lRep Fa Fb) := df_op op_rep ha hb fun Z A H x y dx dy ds Q rx ry e q => by
  unfold lRep at e
  split at e
  · split at e
    · rename_i hs
      cases e
      simp only [Bool.and_eq_true, decide_eq_true_eq] at hs
      obtain ⟨p1, v1, rfl, h1, _, r1⟩ := rx.lst
      have ey := ry.int
      exact ⟨p1, _, v1, rfl, ey, h1, hs.1.1, hs.1.2, by rw [r1.length]; exact hs.2, fun p hp => q p _ hp (r1.rep _)⟩
    · cases e
  · cases e
noncomputable def cutD (xs : List D) (lo hi : Option Int) : List D := (xs.drop (HT.sIx xs.length 0 lo)).take (HT.sIx xs.length xs.length hi - HT.sIx xs.length 0 lo)
theorem Reps.cut {K : PySem.W.Frag} {Z : Zt} {H : Hp} {A : List Addr} {vs : List V} {ds : List D} {lo hi : Option Int} (r : Reps K Z H A vs ds) : Reps K Z H A (cutV vs lo hi) (cutD ds lo hi) := by
  unfold cutV cutD
  rw [r.length]
  exact (r.drop _).take _
noncomputable abbrev FP := Sl → Sx → Option (Option Int × Sx)
inductive tDPK (K : PySem.W.Frag) (Z : Zt) (A : List Addr) (F : FP) (σ : L2.St) (H : Hp) (Q : Option Int → Hp → Prop) : Prop
  | mk (B : Hp) (ow : Ow) (δ : Sl) (s : Sx) (o : Option Int) (s' : Sx) (h0 : RepS K B Z A ow σ δ H) (h1 : StateAt Z H s) (h2 : F δ s = some (o, s')) (h3 : ∀ H', Ext Z H H' → StateAt Z H' s' → Q o H')
noncomputable abbrev tDP (X : Cx) (Z : Zt) (A : List Addr) (F : FP) : TO := tDPK X.K Z A F
structure DP (X : Cx) (e : Option Expr) (F : FP) : Prop where
  go : ∀ Z A, PO X e (tDP X Z A F)
instance {X : Cx} {e : Option Expr} {F : FP} : CoeFun (DP X e F) (fun _ => ∀ Z A, PO X e (tDP X Z A F)) := ⟨fun h => h.go⟩
theorem PO.imp {e : Option Expr} {t t' : TO} (h : PO X e t) (hi : ∀ σ H Q, t' σ H Q → t σ H Q) : PO X e t' := fun pins s σ H Q I q => h pins s σ H Q I (hi σ H Q q)
noncomputable def sSetO (i : Nat) (Fo : FO) : GS := fun δ s => (Fo δ s).map fun p => (.next (δ.set i (.own p.1)), p.2)
theorem ds_setO {pos' : Pos} (hN : X.N.Nodup) (he : DF X e Fo) (hi : X.N[i]? = some x := by rfl) (hx : Loc X.env.scope x := by first | exact Or.inl rfl | exact Or.inr rfl) (hs : swapsWith e (some (.Name x pos')) pos.line X.env = pure false := by rfl)
    (hf : X.fn x = true ∨ X.env.scope.names.lookup x = some .local := by first | exact .inl rfl | exact .inr rfl | assumption) : DS X (.Assign [.Name x pos'] e pos) (sSetO i Fo) := ⟨fun Z A => PS.imp (ps_set hN hi hx (he Z A) hs hf) fun E σ H x__128 => by
  obtain ⟨ow, δ, s, o, s', R, S, e, q⟩ := x__128
  unfold sSetO at e
  first | refine bnd1 e fun p e1 e => ?_ | refine mpp1 e fun p e1 e => ?_
  cases e
  refine ⟨_, ow, δ, s, _, _, R, S, e1, fun p vs H' x1 S1 n h r => ?_⟩
  obtain ⟨R', f⟩ := R.setOwn (i := i) S x1 n h r
  exact q _ _ H' R' S1 f⟩
noncomputable def sFrz (i : Nat) : GS := fun δ s => match δ[i]? with | some (.own xs) => some (.next (δ.set i (.val (.list xs))), s) | _ => some (.next δ, s)
theorem ds_frz (i : Nat) (h : DS X st G) : DS X st (sSeq (sFrz i) G) := ⟨fun Z A => PS.imp (h Z A) fun E σ H x__129 => by
  obtain ⟨ow, δ, s, o, s', R, S, e, q⟩ := x__129
  unfold sSeq sFrz at e
  cases e1 : δ[i]? with
  | none => rw [e1] at e; exact ⟨ow, δ, s, o, s', R, S, e, q⟩
  | some c =>
    rw [e1] at e
    cases c with
    | own xs =>
      obtain ⟨ow', R', f⟩ := R.freeze e1
      exact ⟨ow', _, s, o, s', R', S, e, q.frm f⟩
    | non => exact ⟨ow, δ, s, o, s', R, S, e, q⟩
    | val d => exact ⟨ow, δ, s, o, s', R, S, e, q⟩⟩
noncomputable def sApp (i : Nat) (F : FE) : GS := fun δ s => (F δ s).bind fun q => match δ[i]? with | some (.own xs) => if decide (xs.length < sizeLine) = true then some (.next (δ.set i (.own (xs ++ [q.1]))), q.2) else none | _ => none
theorem ds_app (hv : PE X (.Name x px) (tVar i)) (he : DE X e F) (hbase : attributeBase (.Name x px) "append" X.env (eval (.Name x px) X.env) = eval (.Name x px) X.env := by rfl)
    (hfew : ((backTo cpos (starEach [e] X.env)).all (fun x => !x.1) && (backToKw cpos (keywordEach [] X.env)).all (fun x => x.1.isSome) && decide ([e].length + ([] : List Keyword).length + (if ([] : List Keyword).isEmpty then 0 else 1) < 30)) = true := by rfl)
    (hline : (apos.endLine == cpos.line) = true := by rfl) (hs : starEach [e] X.env = (false, eval e X.env) :: starEach [] X.env := by rfl)
    (hsw : swapsWith (.Call (.Attribute (.Name x px) "append" apos) [e] [] cpos) none pos.line X.env = pure false := by rfl) : DS X (.Expr (.Call (.Attribute (.Name x px) "append" apos) [e] [] cpos) pos) (sApp i F) := ⟨fun Z A => PS.imp (ps_expr (pe_bm PySem.F.plainAttrs_list PySem.F.slot_list_append PySem.F.type_list_append mt_append hv (pa_cons (he Z A) pa_nil hs) hbase hfew hline hs rfl) hsw) fun E σ H x__130 => by
    obtain ⟨ow, δ, s, o, s', R, S, e, q⟩ := x__130
    unfold sApp at e
    first | refine bnd2 e fun d s1 e1 e => ?_ | refine mpp2 e fun d s1 e1 e => ?_
    try simp only [Option.bind_some] at e
    split at e
    · rename_i xs ho
      split at e
      · rename_i hl
        cases e
        obtain ⟨a, vs, h1, h2, h3, h4⟩ := R.own i xs ho
        refine ⟨_, h2, .inl ⟨rfl, _, SqL.of h3⟩, ⟨_, ow, δ, s, d, _, R, S, e1, fun v H1 x1 S1 r => ?_⟩⟩
        have h3' := x1 _ _ h3 (R.ows i a h1).2.2.1
        refine ⟨a, vs, v, rfl, rfl, h3', by rw [h4.length]; exact of_decide_eq_true hl, ?_⟩
        obtain ⟨R', f⟩ := (R.mono x1).change ho h1 h2 ((h4.ext x1).append (.cons r .nil))
        exact q _ _ _ R' (S1.chg (R.ows i a h1).2.2.1) ((Frm.ext x1).trans f)
      · cases e
    · cases e⟩
noncomputable def sPop (i : Nat) : GS := fun δ s => match δ[i]? with | some (.own xs) => if xs.isEmpty = true then none else some (.next (δ.set i (.own xs.dropLast)), s) | _ => none
theorem pop_read {Z : Zt} {A : List Addr} {ow : Ow} {σ : L2.St} {δ : Sl} {B H : Hp} {s : Sx} {xs : List D} {Q : VK} (R : RepS X.K B Z A ow σ δ H) (S : StateAt Z H s) (ho : δ[i]? = some (.own xs)) (hne : ¬ xs.isEmpty = true)
    (q : ∀ v d H', xs.getLast? = some d → Rep X.K Z H' (A ++ ow.map (·.2)) v d → RepS X.K B Z A ow σ (δ.set i (.own xs.dropLast)) H' → StateAt Z H' s → Frm Z ow H ow H' → Q v H') : tBM0 X.K "list" rPop (tVar i) σ H Q := by
  obtain ⟨a, vs, h1, h2, h3, h4⟩ := R.own i xs ho
  refine ⟨_, h2, .inl ⟨rfl, _, SqL.of h3⟩, ?_⟩
  have hlen := h4.length
  have hx : xs.length ≠ 0 := fun z => hne (by simpa using z)
  obtain ⟨d, hd⟩ : ∃ d, xs[xs.length - 1]? = some d := ⟨_, List.getElem?_eq_getElem (by omega)⟩
  obtain ⟨v, hv, rv⟩ := h4.get hd
  obtain ⟨R', f⟩ := R.change ho h1 h2 h4.dropLast
  exact ⟨a, vs, v, rfl, rfl, h3, by rw [hlen]; exact hv, q v d _ (by rw [List.getLast?_eq_getElem?]; exact hd) (rv.frm f) R' (S.chg (R.ows i a h1).2.2.1) f⟩
theorem ds_pop (hv : PE X (.Name x px) (tVar i)) (hbase : attributeBase (.Name x px) "pop" X.env (eval (.Name x px) X.env) = eval (.Name x px) X.env := by rfl) (hline : (apos.endLine == cpos.line) = true := by rfl)
    (hsw : swapsWith (.Call (.Attribute (.Name x px) "pop" apos) [] [] cpos) none pos.line X.env = pure false := by rfl) : DS X (.Expr (.Call (.Attribute (.Name x px) "pop" apos) [] [] cpos) pos) (sPop i) := ⟨fun Z A => PS.imp (ps_expr (pe_bm0 PySem.F.plainAttrs_list PySem.F.slot_list_pop PySem.F.type_list_pop mt_pop hv hbase hline) hsw) fun E σ H x__131 => by
    obtain ⟨ow, δ, s, o, s', R, S, e, q⟩ := x__131
    unfold sPop at e
    split at e
    · rename_i xs ho
      split at e
      · cases e
      · rename_i hne
        cases e
        exact pop_read R S ho hne fun v d H' _ _ R' S' f => q _ _ _ R' S' f
    · cases e⟩
noncomputable def putAt (xs : List D) (d v : D) : Option (List D) := match d with | .int k => (ixN xs.length k).map fun j => xs.set j v | _ => none
noncomputable def sPut (i : Nat) (Fi F : FE) : GS := fun δ s => (F δ s).bind fun v => (Fi δ v.2).bind fun d => match δ[i]? with | some (.own xs) => (putAt xs d.1 v.1).map fun ys => (.next (δ.set i (.own ys)), d.2) | _ => none
theorem ds_put (hv : PE X (.Name x px) (tVar i)) (hi : DW X ie Fi) (he : DE X e F)
    (ha : ∀ v, assign (.Subscript (.Name x px) ie tpos) X.env v = (do
      let ov ← holding [v] (eval (.Name x px) X.env)
      let iv ← holding [v, ov] (eval ie X.env)
      standAt tpos
      holding [v, ov, iv] (setItem ov iv v)
      release [v, ov, iv] []) := by intros; rfl)
    (hs : swapsWithSole [.Subscript (.Name x px) ie tpos] e pos.line X.env = pure false := by rfl) (hw : swappedStores [.Subscript (.Name x px) ie tpos] e X.env = pure none := by rfl)
    (h1 : (assignEach [.Subscript (.Name x px) ie tpos] X.env).map (·.2) = [assign (.Subscript (.Name x px) ie tpos) X.env] := by rfl) : DS X (.Assign [.Subscript (.Name x px) ie tpos] e pos) (sPut i Fi F) := ⟨fun Z A => PS.imp (ps_asg (he Z A) (pg_sub hv (hi Z A) set_list ha) hs hw h1) fun E σ H x__132 => by
    obtain ⟨ow, δ, s, o, s', R, S, e, q⟩ := x__132
    unfold sPut at e
    first | refine bnd2 e fun d s1 e1 e => ?_ | refine mpp2 e fun d s1 e1 e => ?_
    try simp only [Option.bind_some] at e
    first | refine bnd2 e fun k s2 e2 e => ?_ | refine mpp2 e fun k s2 e2 e => ?_
    try simp only [Option.bind_some] at e
    split at e
    · rename_i xs ho
      first | refine bnd1 e fun ys e3 e => ?_ | refine mpp1 e fun ys e3 e => ?_
      cases e
      obtain ⟨a, vs, h1, h2, h3, h4⟩ := R.own i xs ho
      have nz := (R.ows i a h1).2.2.1
      refine ⟨_, ow, δ, s, d, s1, R, S, e1, fun v H1 x1 S1 r => ⟨_, h2, ⟨_, ow, δ, s1, k, _, R.mono x1, S1, e2, fun u H2 x2 S2 r2 => ?_⟩⟩⟩
      unfold putAt at e3
      split at e3
      · rename_i kk
        cases e4 : ixN xs.length kk with
        | none => rw [e4] at e3; cases e3
        | some j =>
          rw [e4] at e3
          cases e3
          have eu := r2.int
          obtain ⟨R', f⟩ := ((R.mono x1).mono x2).change ho h1 h2 (((h4.ext x1).ext x2).set (r.ext x2) j)
          exact ⟨a, vs, kk, j, rfl, eu, x2 _ _ (x1 _ _ h3 nz) nz, by rw [h4.length]; exact e4, q _ _ _ R' (S2.chg nz) ((Frm.ext (x1.trans x2)).trans f)⟩
      · cases e3
    · cases e⟩
end
end L3

namespace HT
open PySem PySem.Spec PyProof.Rows L2
section
variable {prog : Program} {w : World} {A : Around} {E : Value → Shared → Prop} {s : Shared}
end
end HT

namespace L3
open PySem L2 PySem.Spec PyProof.Rows
section
variable {X : Cx} {e e2 e3 ie : Expr} {F Fa Fb Fc Fi : FE} {Fo : FO} {x : Str} {i j : Nat} {p pos px apos cpos tpos : Pos}
theorem RepW.tup {K : PySem.W.Frag} {Z : Zt} {H : Hp} {A : List Addr} {v : V} {ds : List D} (r : RepW K Z H A v (.tuple ds)) : Rep K Z H A v (.tuple ds) := by
  rcases r with r | ⟨_, _, _, _, e2, _⟩
  · exact r
  · cases e2
noncomputable def gMulA : G2 := fun a b => (gMulI a b).or ((lRep a b).map PyData.list)
theorem drep : DOp X (binaryOp .Mult) (fun a b => (lRep a b).map PyData.list) := DOp.of op_rep fun Z A H st x y dx dy d Q S hA rx ry e q => by
  replace e : (lRep dx dy).map PyData.list = some d := e
  first | refine bnd1 e fun ds e1 e => ?_ | refine mpp1 e fun ds e1 e => ?_
  cases e
  unfold lRep at e1
  split at e1
  · split at e1
    · rename_i hs
      cases e1
      simp only [Bool.and_eq_true, decide_eq_true_eq] at hs
      obtain ⟨p1, v1, rfl, h1, _, r1⟩ := rx.lst
      have ey := ry.int
      exact ⟨p1, _, v1, rfl, ey, h1, hs.1.1, hs.1.2, by rw [r1.length]; exact hs.2, fun p hp => q _ _ (Ext.upd hp) (S.upd hp) (.lst upd_same (fresh_not hA hp) (S.notZ hp) ((r1.rep _).ext (Ext.upd hp)))⟩
    · cases e1
  · cases e1
theorem dmula : DOp X (binaryOp .Mult) gMulA := DOp.or dmul_int drep
end
end L3

namespace L3
open PySem L2 PySem.Spec PyProof.Rows
noncomputable def clOf (cells : List (Str × Addr)) : List (Str × NameKind) → List (Str × Addr) → List (Str × Addr)
  | [], cs => cs
  | y :: r, cs => clOf cells r (if y.2 == NameKind.free then (y.1, (cells.lookup y.1).getD 0) :: cs else cs)
theorem closureFor_cl {env : Env} {scope : Scope} (h : ∀ y ∈ scope.names, y.2 = .free → ∃ c, env.cells.lookup y.1 = some c) : closureFor scope env = pure (clOf env.cells scope.names []) := by
  unfold closureFor
  generalize scope.names = names at h
  have key : ∀ (names : List (Str × NameKind)) (cs : List (Str × Addr)), (∀ y ∈ names, y.2 = .free → ∃ c, env.cells.lookup y.1 = some c) →
      (forIn names cs fun (x : Str × NameKind) (r : List (Str × Addr)) => (if (x.2 == NameKind.free) = true then do let a ← cellOf env x.1; pure (ForInStep.yield ((x.1, a) :: r)) else pure (ForInStep.yield r) : Sem _)) = pure (clOf env.cells names cs) := by
    intro names
    induction names with
    | nil => intro cs _; rfl
    | cons y r ih =>
      intro cs hy
      rw [List.forIn_cons]
      obtain ⟨n, k⟩ := y
      by_cases hk : k = .free
      · subst hk
        obtain ⟨c, hc⟩ := hy (n, .free) List.mem_cons_self rfl
        have e : cellOf env n = pure c := by unfold cellOf; simp only at hc; rw [hc]
        simp only [beq_self_eq_true, if_true, e, pure_bind]
        rw [ih _ fun y hm => hy y (List.mem_cons_of_mem _ hm)]
        simp only at hc
        simp [clOf, hc]
      · have hb : (k == NameKind.free) = false := by simpa using hk
        simp only [hb, Bool.false_eq_true, if_false, pure_bind]
        rw [ih _ fun y hm => hy y (List.mem_cons_of_mem _ hm)]
        simp [clOf, hb]
  have := key names [] h
  simpa using this
theorem clOf_mem {cells : List (Str × Addr)} : ∀ {names : List (Str × NameKind)} {cs : List (Str × Addr)} {n : Str} {c : Addr}, (n, c) ∈ clOf cells names cs → (n, c) ∈ cs ∨ ((n, NameKind.free) ∈ names ∧ c = (cells.lookup n).getD 0)
  | [], _, _, _, h => .inl h
  | y :: r, cs, n, c, h => by
    unfold clOf at h
    rcases clOf_mem h with h1 | ⟨h1, h2⟩
    · split at h1
      · rename_i hk
        rcases List.mem_cons.mp h1 with e | h1
        · obtain ⟨y1, y2⟩ := y
          cases e
          have : y2 = .free := by simpa using hk
          subst this
          exact .inr ⟨List.mem_cons_self, rfl⟩
        · exact .inl h1
      · exact .inl h1
    · exact .inr ⟨List.mem_cons_of_mem _ h1, h2⟩
theorem clOf_keep {cells : List (Str × Addr)} : ∀ {names : List (Str × NameKind)} {cs : List (Str × Addr)} {q : Str × Addr}, q ∈ cs → q ∈ clOf cells names cs
  | [], _, _, h => h
  | y :: r, cs, q, h => by
    unfold clOf
    refine clOf_keep ?_
    split
    · exact List.mem_cons_of_mem _ h
    · exact h
theorem clOf_has {cells : List (Str × Addr)} : ∀ {names : List (Str × NameKind)} {cs : List (Str × Addr)} {n : Str}, (n, NameKind.free) ∈ names → ∃ c, (n, c) ∈ clOf cells names cs
  | [], _, _, h => nomatch h
  | y :: r, cs, n, h => by
    rcases List.mem_cons.mp h with e | h
    · subst e
      unfold clOf
      exact ⟨(cells.lookup n).getD 0, clOf_keep (by simp)⟩
    · unfold clOf
      exact clOf_has h
theorem lookup_mem {α : Type} : ∀ {l : List (Str × α)} {x : Str} {c : α}, l.lookup x = some c → (x, c) ∈ l
  | [], _, _, h => nomatch h
  | (y, d) :: r, x, c, h => by
    rw [List.lookup_cons] at h
    split at h
    · rename_i e
      cases h
      rw [eq_of_beq e]; exact List.mem_cons_self
    · exact List.mem_cons_of_mem _ (lookup_mem h)
theorem lookup_some_of_mem {α : Type} : ∀ {l : List (Str × α)} {x : Str} {c : α}, (x, c) ∈ l → ∃ d, l.lookup x = some d
  | [], _, _, h => nomatch h
  | (y, d) :: r, x, c, h => by
    rw [List.lookup_cons]
    split
    · exact ⟨_, rfl⟩
    · rename_i e
      rcases List.mem_cons.mp h with z | z
      · cases z; simp at e
      · exact lookup_some_of_mem z
noncomputable def compChk (sc : Scope) (N0 : List Str) (scope : Scope) (N : List Str) (k : Nat) (fr : List Nat) : Bool :=
  decide (scope.kind = .function) && decide (sc.kind = .function) && scope.names.all (fun y => decide (y.2 ≠ .cell)) && scope.names.all (fun y => !decide (y.2 = .local) || decide (scope.names.lookup y.1 = some .local)) &&
  scope.names.all (fun y => !decide (y.2 = .free) || decide (sc.names.lookup y.1 = some .cell)) && decide (N.length = k + fr.length) &&
  (List.range fr.length).all fun t => match fr[t]?, N[k + t]? with | some j, some x => decide (N0[j]? = some x) && decide (scope.names.lookup x = some .free) | _, _ => false
theorem relabel_lookup {scope : Scope} {env : Env} : ∀ {names : List (Str × NameKind)} {x : Str} {k : NameKind}, (∀ y ∈ names, y.2 = .free → env.scope.kind = .function ∧ env.scope.names.lookup y.1 = some .cell) → names.lookup x = some k →
    (names.map fun (n, k) => if (k == .free && env.scope.kind == .function && env.kindOf n == some .cell) then (n, NameKind.cell) else (n, k)).lookup x = some (if k = .free then .cell else k)
  | [], _, _, _, h => nomatch h
  | (n, k') :: r, x, k, hf, h => by
    rw [List.lookup_cons] at h
    rw [List.map_cons]
    by_cases hk : k' = .free
    · subst hk
      obtain ⟨h1, h2⟩ := hf (n, .free) List.mem_cons_self rfl
      have e : (NameKind.free == NameKind.free && env.scope.kind == .function && env.kindOf n == some .cell) = true := by
        simp only [beq_self_eq_true, Bool.true_and, Bool.and_eq_true, beq_iff_eq]
        exact ⟨h1, h2⟩
      simp only [e, if_true]
      rw [List.lookup_cons]
      cases ex : x == n with
      | true => rw [ex] at h; cases h; rfl
      | false => rw [ex] at h; exact relabel_lookup (scope := scope) (fun y hy => hf y (List.mem_cons_of_mem _ hy)) h
    · have e : (k' == NameKind.free && env.scope.kind == .function && env.kindOf n == some .cell) = false := by simp [hk]
      simp only [e, Bool.false_eq_true, if_false]
      rw [List.lookup_cons]
      cases ex : x == n with
      | true => rw [ex] at h; cases h; simp [hk]
      | false => rw [ex] at h; exact relabel_lookup (scope := scope) (fun y hy => hf y (List.mem_cons_of_mem _ hy)) h
theorem relabel_none {env : Env} : ∀ {names : List (Str × NameKind)} {x : Str}, names.lookup x = none →
    (names.map fun (n, k) => if (k == .free && env.scope.kind == .function && env.kindOf n == some .cell) then (n, NameKind.cell) else (n, k)).lookup x = none
  | [], _, _ => rfl
  | (n, k') :: r, x, h => by
    rw [List.lookup_cons] at h
    rw [List.map_cons]
    cases ex : x == n with
    | true => rw [ex] at h; cases h
    | false =>
      rw [ex] at h
      have ih := relabel_none (env := env) (names := r) h
      by_cases hk : (k' == NameKind.free && env.scope.kind == .function && env.kindOf n == some .cell) = true
      · simp only [hk, if_true, List.lookup_cons, ex]; exact ih
      · simp only [hk, Bool.false_eq_true, if_false, List.lookup_cons, ex]; exact ih
theorem compOkC {X : Cx} {sc : Scope} {N0 : List Str} {scope : Scope} {N : List Str} {k : Nat} {fr : List Nat} (hsc : X.env.scope = sc) (hN : X.N = N0) (h : compChk sc N0 scope N k fr = true) (hc : ∀ x, X.env.scope.names.lookup x = some .cell → ∃ c, X.env.cells.lookup x = some c) :
    CompOk X scope (clOf X.env.cells scope.names []) N k fr := by
  subst hsc hN
  simp only [compChk, Bool.and_eq_true, decide_eq_true_eq, List.all_eq_true, Bool.or_eq_true, Bool.not_eq_true', decide_eq_false_iff_not] at h
  obtain ⟨⟨⟨⟨⟨⟨h1, h2⟩, h3⟩, h4⟩, h5⟩, h6⟩, h7⟩ := h
  have hfree : ∀ y ∈ scope.names, y.2 = .free → X.env.scope.names.lookup y.1 = some .cell := fun y hy e => (h5 y hy).elim (fun z => absurd e z) id
  have hcl : ∀ y ∈ scope.names, y.2 = .free → ∃ c, X.env.cells.lookup y.1 = some c := fun y hy e => hc _ (hfree y hy e)
  have hmem : ∀ x, (x, NameKind.free) ∈ scope.names → ∃ c, (clOf X.env.cells scope.names []).lookup x = some c := fun x hx => by
    obtain ⟨c, h⟩ := clOf_has (cells := X.env.cells) (cs := []) hx
    exact lookup_some_of_mem h
  have lab : ∀ x kd, scope.names.lookup x = some kd → (relabel scope X.env).names.lookup x = some (if kd = .free then .cell else kd) := fun x kd hx =>
    relabel_lookup (scope := scope) (env := X.env) (fun y hy e => ⟨h2, hfree y hy e⟩) hx
  refine ⟨h1, h3, fun y hy e => (h4 y hy).elim (fun z => absurd e z) id, closureFor_cl hcl, fun x c hx => ?_, fun x hx => ?_, h6, fun t j x ht hx => ?_⟩
  · rcases clOf_mem (lookup_mem hx) with h | ⟨h, e⟩
    · exact nomatch h
    · obtain ⟨c', hc'⟩ := hcl _ h rfl
      simp only at hc'
      rw [e, hc']; rfl
  · cases e : scope.names.lookup x with
    | none =>
      have := relabel_none (env := X.env) e
      rcases hx with hx | hx
      · rw [show (relabel scope X.env).names.lookup x = none from this] at hx; cases hx
      · rw [show (relabel scope X.env).names.lookup x = none from this] at hx; cases hx
    | some kd =>
      have hl := lab x kd e
      have hm := lookup_mem e
      by_cases hk : kd = .free
      · subst hk; exact hmem x hm
      · rw [if_neg hk] at hl
        have nc := h3 _ hm
        rcases hx with hx | hx
        · rw [hl] at hx; cases hx; exact absurd rfl nc
        · rw [hl] at hx; cases hx; exact absurd rfl hk
  · have htl : t < fr.length := (List.getElem?_eq_some_iff.mp ht).1
    have h8 := h7 t (List.mem_range.mpr htl)
    rw [ht, hx] at h8
    simp only [Bool.and_eq_true, decide_eq_true_eq] at h8
    obtain ⟨h9, h10⟩ := h8
    have hm := lookup_mem h10
    have hcell := hfree _ hm rfl
    simp only at hcell
    refine ⟨h9, .inr (.inl hcell), hmem x hm, .inl ?_, fun z => by rw [hcell] at z; cases z⟩
    have := lab x _ h10
    rw [if_pos rfl] at this
    exact this
mutual
noncomputable def noList : D → Bool
  | .list _ => false
  | .dict _ => false
  | .tuple ds => noLists ds
  | _ => true
noncomputable def noLists : List D → Bool
  | [] => true
  | d :: ds => noList d && noLists ds
end
theorem Reps.off {K : PySem.W.Frag} {Z : Zt} {H : Hp} {A B : List Addr} (hB : ∀ q ∈ B, ∃ vs, H q = some (.lst vs)) {vs : List V} {ds : List D} (r : Reps K Z H A vs ds) : noLists ds = true → Reps K Z H (A ++ B) vs ds :=
  Reps.rec (motive_1 := fun v d _ => noList d = true → Rep K Z H (A ++ B) v d) (motive_2 := fun vs ds _ => noLists ds = true → Reps K Z H (A ++ B) vs ds) (fun _ => .non) (fun b _ => .bl b) (fun i _ => .int i) (fun x _ => .str x)
    (fun h n z _ r e => .tup h (fun m => (List.mem_append.mp m).elim n fun m => by obtain ⟨vs, hv⟩ := hB _ m; rw [h] at hv; cases hv) z (r e)) (fun _ _ _ _ _ e => absurd e Bool.false_ne_true) (fun h _ r e => .mod h (r e)) (fun _ e => absurd e Bool.false_ne_true)
    (fun _ _ _ _ _ _ e => absurd e Bool.false_ne_true) (fun _ => .nil) (fun _ _ r t e => .cons (r ((Bool.and_eq_true _ _).mp e).1) (t ((Bool.and_eq_true _ _).mp e).2)) r
theorem Rep.off {K : PySem.W.Frag} {Z : Zt} {H : Hp} {A B : List Addr} (hB : ∀ q ∈ B, ∃ vs, H q = some (.lst vs)) {v : V} {d : D} (r : Rep K Z H A v d) (e : noList d = true) : Rep K Z H (A ++ B) v d := Reps.head (Reps.off hB (.cons r .nil) (by rw [noLists, e]; rfl))
inductive tDVK (K : PySem.W.Frag) (Z : Zt) (A : List Addr) (F : FE) (σ : L2.St) (H : Hp) (Q : VK) : Prop
  | mk (B : Hp) (ow : Ow) (δ : Sl) (s : Sx) (d : D) (s' : Sx) (h0 : RepS K B Z A ow σ δ H) (h1 : StateAt Z H s) (h2 : F δ s = some (d, s')) (h3 : ∀ v H', Ext Z H H' → StateAt Z H' s' → Rep K Z H' A v d → Q v H')
noncomputable abbrev tDV (X : Cx) (Z : Zt) (A : List Addr) (F : FE) : TE := tDVK X.K Z A F
structure DV (X : Cx) (e : Expr) (F : FE) : Prop where
  go : ∀ Z A, PE X e (tDV X Z A F)
instance {X : Cx} {e : Expr} {F : FE} : CoeFun (DV X e F) (fun _ => ∀ Z A, PE X e (tDV X Z A F)) := ⟨fun h => h.go⟩
inductive tDVAK (K : PySem.W.Frag) (Z : Zt) (A : List Addr) (F : FA) (σ : L2.St) (H : Hp) (Q : List V → Hp → Prop) : Prop
  | mk (B : Hp) (ow : Ow) (δ : Sl) (s : Sx) (ds : List D) (s' : Sx) (h0 : RepS K B Z A ow σ δ H) (h1 : StateAt Z H s) (h2 : F δ s = some (ds, s')) (h3 : ∀ vs H', Ext Z H H' → StateAt Z H' s' → Reps K Z H' A vs ds → Q vs H')
noncomputable abbrev tDVA (X : Cx) (Z : Zt) (A : List Addr) (F : FA) : TA := tDVAK X.K Z A F
structure DVA (X : Cx) (es : List Expr) (F : FA) : Prop where
  go : ∀ Z A, PA X es (tDVA X Z A F)
instance {X : Cx} {es : List Expr} {F : FA} : CoeFun (DVA X es F) (fun _ => ∀ Z A, PA X es (tDVA X Z A F)) := ⟨fun h => h.go⟩
section
variable {X : Cx} {e e2 ie : Expr} {es : List Expr} {F Fa Fi : FE} {FL : FA} {x : Str} {i : Nat} {p pos px tpos : Pos}
theorem DE.v (h : DE X e F) : DV X e F := ⟨fun Z A => PE.imp (h Z A) fun σ H Q x__133 => (by obtain ⟨B, ow, δ, s, d, s', R, S, ee, q⟩ := x__133; exact ⟨B, ow, δ, s, d, s', R, S, ee, fun v H' a b c => q v H' a b (c.sub fun q hq => List.mem_append_left _ hq)⟩)⟩
noncomputable def fVarW (i : Nat) : FE := fun δ s => match δ[i]? with | some (.val d) => some (d, s) | some (.own xs) => some (.list xs, s) | _ => none
theorem dw_of {e : Expr} (h : PE X e (tVar i)) : DW X e (fVarW i) := ⟨fun Z A => PE.imp h fun σ H Q x__134 => by
  obtain ⟨B, ow, δ, s, d, s', R, S, ee, q⟩ := x__134
  unfold fVarW at ee
  split at ee
  · rename_i d' hd
    cases ee
    obtain ⟨v, h1, h2⟩ := R.val i _ hd
    exact ⟨v, h1, q v H (Ext.refl H) S h2.w⟩
  · rename_i xs hd
    cases ee
    obtain ⟨p, vs, h1, h2, h3, h4⟩ := R.own i xs hd
    exact ⟨_, h2, q _ H (Ext.refl H) S (.inr ⟨p, vs, _, rfl, rfl, h3, (R.ows i p h1).2.2.1, h4⟩)⟩
  · cases ee⟩
theorem dvw (i : Nat) {x : Str} (hN : X.N[i]? = some x := by rfl) (hv : Vis X.env.scope x := by first | exact Or.inl rfl | exact Or.inr (Or.inl rfl) | exact Or.inr (Or.inr rfl)) (hd : (x == ("__debug__" : Str)) = false := by decide)
    (hcd : (x == ("__classdict__" : Str)) = false := by decide) : DW X (.Name x pos) (fVarW i) := dw_of (pv i hN hv hd hcd)
end
end L3

namespace L3
open PySem L2 PySem.Spec PyProof.Rows
mutual
inductive Cn : Expr → D → Prop
  | int {i : Int} {j : Nat} {p : Pos} : Cn (.Constant (.int i) j p) (.int i)
  | bl {b : Bool} {j : Nat} {p : Pos} : Cn (.Constant (.bool b) j p) (.bool b)
  | non {j : Nat} {p : Pos} : Cn (.Constant .none j p) .none
  | str {x : Str} {j : Nat} {p : Pos} : Cn (.Constant (.str x) j p) (.str x)
  | neg {a : Expr} {i : Int} {p : Pos} : Cn a (.int i) → Cn (.UnaryOp .USub a p) (.int (-i))
  | tup {es : List Expr} {ds : List D} {c : Nat} {p : Pos} : small ds = true → Cns es ds → Cn (.Tuple es c p) (.tuple ds)
  | lst {es : List Expr} {ds : List D} {p : Pos} : small ds = true → Cns es ds → Cn (.List es p) (.list ds)
inductive Cns : List Expr → List D → Prop
  | nil : Cns [] []
  | cons {e : Expr} {d : D} {es : List Expr} {ds : List D} : Cn e d → Cns es ds → Cns (e :: es) (d :: ds)
end
structure Cst (K : PySem.W.Frag) (mg : Str → Option Value) (x : Str) (d : D) : Prop where
  de : ∀ {X : Cx} {pos : Pos}, X.K = K → X.mg = mg → Gl X x → DE X (.Name x pos) (fC d)
theorem de_con {X : Cx} {x : Str} {d : D} {pos : Pos} (c : Cst X.K X.mg x d) (hg : Gl X x := by rfl) : DE X (.Name x pos) (fC d) := c.de rfl rfl hg
theorem star_cst {e : Expr} {d : D} {es : List Expr} {env : Env} (h : Cn e d) : starEach (e :: es) env = (false, eval e env) :: starEach es env := by
  cases h <;> rfl
section
variable {X : Cx}
theorem DE.as {e : Expr} {F G : FE} (h : DE X e F) (he : ∀ δ s r, G δ s = some r → F δ s = some r) : DE X e G := ⟨fun Z A => PE.imp (h Z A) fun σ H Q x__135 => (by obtain ⟨B, ow, δ, s, d, s', R, S, ee, q⟩ := x__135; exact ⟨B, ow, δ, s, d, s', R, S, he _ _ _ ee, q⟩)⟩
theorem de_cst {e : Expr} {d : D} (h : Cn e d) : DE X e (fC d) :=
  Cn.rec (motive_1 := fun e d _ => DE X e (fC d)) (motive_2 := fun es ds _ => DA X es (fun _ s => some (ds, s))) de_int de_bl de_non de_str
    (fun _ h => (de_neg h.w).as fun δ s r hr => by cases hr; rfl) (fun hs _ h => (de_tup h).as fun δ s r hr => by cases hr; unfold eTup; simp [hs]) (fun hs _ h => (de_lst h).as fun δ s r hr => by cases hr; unfold eLst; simp [hs])
    da_nil (fun h _ d t => da_cons d t (star_cst h)) h
end
end L3

namespace L3
open PySem L2 PySem.Spec PyProof.Rows
theorem compD_pure {T : Tgt} {Ft : FT} {F : FE} {δc : Sl} {f : D → D} {s : Sx} : ∀ (ds : List D), (∀ d ∈ ds, ∃ δ1, T.run d δc = some δ1 ∧ Ft δ1 s = some (true, s) ∧ F δ1 s = some (f d, s)) → compD T Ft F δc ds s = some (ds.map f, s)
  | [], _ => rfl
  | d :: ds, h => by
    obtain ⟨δ1, e1, e2, e3⟩ := h d List.mem_cons_self
    have ih := compD_pure ds fun d hd => h d (List.mem_cons_of_mem _ hd)
    unfold compD
    rw [e1]
    simp only [Option.bind_some, e2, if_true, e3, ih, Option.map_some, List.map_cons]
theorem compD_gen {T : Tgt} {Ft : FT} {F : FE} {δc : Sl} (P : D → Prop) (c : Nat) (step : ∀ n s d, Good (n + c) s → ∃ δ1 x s', T.run d δc = some δ1 ∧ Ft δ1 s = some (true, s) ∧ F δ1 s = some (x, s') ∧ P x ∧ Good n s') :
    ∀ (ds : List D) (n : Nat) (s : Sx), Good (n + c * ds.length) s → ∃ xs s', compD T Ft F δc ds s = some (xs, s') ∧ (∀ x ∈ xs, P x) ∧ xs.length = ds.length ∧ Good n s'
  | [], n, s, h => ⟨[], s, rfl, (fun _ z => nomatch z), rfl, by simpa using h⟩
  | d :: ds, n, s, h => by
    obtain ⟨δ1, x, s1, e1, e2, e3, hx, g1⟩ := step (n + c * ds.length) s d (h.mono (by rw [List.length_cons, Nat.mul_add]; omega))
    obtain ⟨xs, s2, e4, hxs, hl, g2⟩ := compD_gen P c step ds n s1 g1
    refine ⟨x :: xs, s2, ?_, ?_, by simp [hl], g2⟩
    · unfold compD
      rw [e1]
      simp only [Option.bind_some, e2, if_true, e3, e4, Option.map_some]
    · intro y hy
      rcases List.mem_cons.mp hy with rfl | hy
      · exact hx
      · exact hxs y hy
theorem bools_map (l : List D) (f : D → Bool) : bools (l.map fun d => .bool (f d)) = some (l.map f) := by
  induction l with
  | nil => rfl
  | cons a r ih => simp [bools, ih]
theorem small_le {l : List D} (h : l.length ≤ 1000) : small l = true := decide_eq_true (Nat.le_trans h (by decide))
theorem atI_nat {l : List D} {n : Nat} {d : D} (h : l[n]? = some d) : L2.atI l (n : Int) = some d := by
  have hl := (List.getElem?_eq_some_iff.mp h).1
  unfold L2.atI ixN
  rw [if_pos (by omega), if_pos (by omega), Int.toNat_natCast]
  exact h
theorem atI_last {l : List D} (h : l ≠ []) : L2.atI l (-1) = some (l.getLast h) := by
  have hl : 0 < l.length := List.length_pos_iff.mpr h
  unfold L2.atI ixN
  rw [if_neg (by decide), if_pos (by omega)]
  show l[(-1 + (l.length : Int)).toNat]? = _
  rw [show (-1 + (l.length : Int)).toNat = l.length - 1 by omega, List.getElem?_eq_getElem (by omega), List.getLast_eq_getElem]
noncomputable def IsN (n : Nat) (d : D) : Prop := ∃ p q, Num n d p q
theorem IsN.mono {n m : Nat} {d : D} (h : IsN n d) (hm : n ≤ m) : IsN m d := by obtain ⟨p, q, h⟩ := h; exact ⟨p, q, h.mono hm⟩
noncomputable def zD : D := .tuple [.int 0, .int 1]
noncomputable def isZ : D → Bool
  | .tuple [.int p, .int _] => decide (p = 0)
  | _ => false
theorem isZ_num {n : Nat} {d : D} {p q : Int} (h : Num n d p q) : isZ d = decide (p = 0) := by obtain ⟨rfl, _⟩ := h; rfl
theorem gEq_pair (a b c d : Int) : gEq (.tuple [.int a, .int b]) (.tuple [.int c, .int d]) = some (.bool (decide (a = c) && decide (b = d))) := by
  simp [gEq, SeqAt.shaped, PyData.canLay0, PyData.canLayAll0, PyData.depth, PyData.depthAll, PyData.eqv, PyData.eqvAll, Bool.beq_eq_decide_eq]
theorem num_ix0 {n : Nat} {d : D} {p q : Int} (h : Num n d p q) : gIx d (.int 0) = some (.int p) := by obtain ⟨rfl, _⟩ := h; simp [gIx, atI0]
noncomputable def AllN (n : Nat) (l : List D) : Prop := ∀ d ∈ l, IsN n d
theorem lay_nums {n : Nat} : ∀ {l : List D}, AllN n l → PyData.canLayAll0 l = true ∧ PyData.depthAll l ≤ 1
  | [], _ => by simp [PyData.canLayAll0, PyData.depthAll]
  | d :: l, h => by
    obtain ⟨h1, h2⟩ := lay_nums (l := l) fun x hx => h x (List.mem_cons_of_mem _ hx)
    obtain ⟨p, q, rfl, _⟩ := h d List.mem_cons_self
    refine ⟨by simp [PyData.canLayAll0, PyData.canLay0, h1], ?_⟩
    simp [PyData.depthAll, PyData.depth]
    omega
theorem shaped_list {n : Nat} {l : List D} (h : AllN n l) : SeqAt.shaped (.list l) = true := by
  obtain ⟨h1, h2⟩ := lay_nums h
  simp [SeqAt.shaped, PyData.canLay0, PyData.depth, h1]
  omega
theorem eqv_nums {n : Nat} : ∀ {l : List D}, AllN n l → PyData.eqvAll l l = true
  | [], _ => by simp [PyData.eqvAll]
  | d :: l, h => by
    have ih := eqv_nums (l := l) fun x hx => h x (List.mem_cons_of_mem _ hx)
    obtain ⟨p, q, rfl, _⟩ := h d List.mem_cons_self
    simp [PyData.eqvAll, PyData.eqv, ih]
theorem gNe_list_self {n : Nat} {l : List D} (h : AllN n l) : gNe (.list l) (.list l) = some (.bool false) := by
  simp [gNe, shaped_list h, PyData.eqv, eqv_nums h]
theorem eqvAll_nil (l : List D) : PyData.eqvAll l [] = l.isEmpty := by cases l <;> simp [PyData.eqvAll]
theorem gNe_list_nil {n : Nat} {l : List D} (h : AllN n l) : gNe (.list l) (.list []) = some (.bool (!l.isEmpty)) := by
  simp [gNe, shaped_list h, shaped_nil, PyData.eqv, eqvAll_nil]
noncomputable def trimLen (l : List D) : Nat → Nat
  | 0 => 0
  | n + 1 => if isZ (l.getD n zD) then trimLen l n else n + 1
noncomputable def trimD (l : List D) : List D := l.take (trimLen l l.length)
theorem AllN.take {n : Nat} {l : List D} (h : AllN n l) (k : Nat) : AllN n (l.take k) := fun d hd => h d (List.mem_of_mem_take hd)
theorem AllN.drop {n : Nat} {l : List D} (h : AllN n l) (k : Nat) : AllN n (l.drop k) := fun d hd => h d (List.mem_of_mem_drop hd)
theorem AllN.mono {n m : Nat} {l : List D} (h : AllN n l) (hm : n ≤ m) : AllN m l := fun d hd => (h d hd).mono hm
end L3

namespace L3
open PySem L2 PySem.Spec PyProof.Rows
noncomputable def lookF (f : Str) : List (D × D) → Option D
  | (.str n, d) :: r => if f = n then some d else lookF f r
  | _ => none
theorem Reps.field {K : PySem.W.Frag} {Z : Zt} {H : Hp} {A : List Addr} {f : Str} {d : D} : ∀ {ns : List Str} {vs : List V} {ds : List D}, Reps K Z H A vs ds → lookF f ((ns.map PyData.str).zip ds) = some d → ∃ v, (ns.zip vs).lookup f = some v ∧ Rep K Z H A v d
  | [], _, _, _, h => by simp [lookF] at h
  | n :: ns, _, _, .nil, h => by simp [lookF] at h
  | n :: ns, _, _, .cons (v := v) r t, h => by
    simp only [List.map_cons, List.zip_cons_cons, lookF] at h
    rw [List.zip_cons_cons, List.lookup_cons]
    split at h
    · rename_i e
      cases h
      subst e
      exact ⟨v, by simp, r⟩
    · rename_i e
      obtain ⟨v', h1, h2⟩ := Reps.field t h
      have : (f == n) = false := by simpa using e
      exact ⟨v', by rw [this]; exact h1, h2⟩
theorem RepW.object {K : PySem.W.Frag} {Z : Zt} {H : Hp} {A : List Addr} {v : V} {e c : Str} {fs : List (D × D)} (r : RepW K Z H A v (.dict ((.str e, .str c) :: fs))) :
    ∃ (p C dx : Addr) (ns : List Str) (vs : List V) (ds : List D), v = .ref p ∧ PySem.W.nsIn K mainGlobals c = some (some (.ref C)) ∧ H p = some (.ins C dx (ns.zip vs)) ∧ Reps K Z H A vs ds ∧ fs = (ns.map PyData.str).zip ds := by
  rcases r with r | ⟨_, _, _, _, e2, _⟩
  · cases r with
    | obj k h n z q => exact ⟨_, _, _, _, _, _, rfl, k, h, q, rfl⟩
  · cases e2
inductive CstV (K : PySem.W.Frag) (mg : Str → Option Value) (x : Str) (d : D) : Prop
  | mk (v : V) (u : Value) (h0 : mg x = some u) (h1 : RelV v u) (h2 : ∀ Z H A, Rep K Z H A v d)
inductive IsM (K : PySem.W.Frag) (c m q : Str) (st : Stmt) : Prop
  | mk (C : Addr) (f : Addr) (fd : FuncData) (h0 : PySem.W.nsIn K mainGlobals c = some (some (.ref C))) (h1 : Cls K C) (h2 : Meth K C m f) (h3 : Fun K m q st f fd)
inductive IsI (K : PySem.W.Frag) (mg : Str → Option Value) (c q : Str) (st : Stmt) (fs : List Str) : Prop
  | mk (C : Addr) (f : Addr) (fd : FuncData) (h0 : PySem.W.nsIn K mainGlobals c = some (some (.ref C))) (h1 : mg c = some (.ref C)) (h2 : Mk K C f) (h3 : Cls K C) (h4 : (∀ x ∈ fs, NoAttr K C x)) (h5 : Fun K "__init__" q st f fd)
section
variable {X : Cx} {e o : Expr} {es : List Expr} {Fa Fo : FE} {FL : FA} {f x m : Str} {p pos apos : Pos}
inductive FCal (K : PySem.W.Frag) (c f : Str) : Prop
  | mk (C : Addr) (h0 : PySem.W.nsIn K mainGlobals c = some (some (.ref C))) (h1 : Cls K C) (h2 : NoAttr K C f)
inductive MCal (P : Program) (w : World) (K : PySem.W.Frag) (mg : Str → Option Value) (base : Heap) (c m : Str) (k : Nat) (g : GF) : Prop
  | mk (C : Addr) (f : Addr) (fd : FuncData) (ps : List Str) (h0 : PySem.W.nsIn K mainGlobals c = some (some (.ref C))) (h1 : Cls K C) (h2 : Meth K C m f) (h3 : FnOk P w K mg base CX0 k f fd ps (spD K g)) (h4 : Binds K fd ps [])
noncomputable def spI (K : PySem.W.Frag) (C : Addr) (ns : List Str) (gI : List D → Option (List D)) : Sp := fun vs H Q _ => ∃ Z A p dx ws ds fds, vs = .ref p :: ws ∧ H p = some (.ins C dx []) ∧ NotZ Z p ∧ Reps K Z H (p :: A) ws ds ∧ gI ds = some fds ∧
  ∀ fvs H', (∀ b o, H b = some o → b ≠ p → H' b = some o) → H' p = some (.ins C dx (ns.zip fvs)) → Reps K Z H' (p :: A) fvs fds → Q .non H'
inductive KCal (P : Program) (w : World) (K : PySem.W.Frag) (mg : Str → Option Value) (base : Heap) (c : Str) (k : Nat) (ns : List Str) (gI : List D → Option (List D)) : Prop
  | mk (C : Addr) (f : Addr) (fd : FuncData) (ps : List Str) (h0 : PySem.W.nsIn K mainGlobals c = some (some (.ref C))) (h1 : mg c = some (.ref C)) (h2 : Mk K C f) (h3 : FnOk P w K mg base CX0 k f fd ps (spI K C ns gI)) (h4 : Binds K fd ps [])
end
end L3

namespace L3
open PySem L2 PySem.Spec PyProof.Rows
section
variable {X : Cx} {e : Expr} {F : FE} {p pos : Pos}
end
end L3

namespace L3
open PySem L2 PySem.Spec PyProof.Rows
section
variable {X : Cx} {tg e : Expr} {F : FE} {p pos p2 pos2 : Pos}
end
end L3

namespace L3
open PySem L2 PySem.Spec PyProof.Rows
section
variable {X : Cx} {e : Expr} {sts : List Stmt} {f x : Str} {p pos px ap : Pos}
end
section
variable {P : Program} {w : World} {K : PySem.W.Frag} {mg : Str → Option Value} {base : Heap}
end
end L3
namespace L3
end L3

namespace L3
open PySem L2 PySem.Spec PyProof.Rows
noncomputable def enc (r : Rat) : D := .tuple [.int r.num, .int (r.den : Int)]
theorem den_int (r : Rat) : ((r.den : Nat) : Int) ≠ 0 := by have := r.den_nz; omega
theorem num_enc {T B : Int} (hB : B ≠ 0) : num T B = enc (Rat.divInt T B) := by
  refine num_eq hB (by have := (Rat.divInt T B).den_nz; omega) (Rat.divInt T B).reduced ?_
  exact (Rat.divInt_eq_divInt_iff (den_int _) hB).mp (Rat.num_divInt_den _)
noncomputable def Sz (n : Nat) (r : Rat) : Prop := Bt n r.num ∧ Bt n (r.den : Int)
theorem Sz.mono {n m : Nat} {r : Rat} (h : Sz n r) (hm : n ≤ m) : Sz m r := ⟨h.1.mono hm, h.2.mono hm⟩
theorem Sz.num {n : Nat} {r : Rat} (h : Sz n r) : Num n (enc r) r.num r.den := ⟨rfl, by have := r.den_nz; omega, r.reduced, h.1, h.2⟩
theorem Sz.isN {n : Nat} {r : Rat} (h : Sz n r) : IsN n (enc r) := ⟨_, _, h.num⟩
theorem IsN.enc {n : Nat} {d : D} (h : IsN n d) : ∃ r, d = L3.enc r ∧ Sz n r := by
  obtain ⟨p, q, rfl, hq, hg, b1, b2⟩ := h
  have hqn : ((q.toNat : Nat) : Int) = q := by omega
  refine ⟨⟨p, q.toNat, by omega, ?_⟩, ?_, ?_⟩
  · have : q.toNat = q.natAbs := by omega
    rw [this]; exact hg
  · show _ = PyData.tuple [.int p, .int ((q.toNat : Nat) : Int)]
    rw [hqn]
  · exact ⟨b1, by show Bt n ((q.toNat : Nat) : Int); rw [hqn]; exact b2⟩
theorem enc_zero : enc 0 = zD := rfl
theorem isZ_enc (r : Rat) : isZ (enc r) = decide (r = 0) := by
  show decide (r.num = 0) = _
  exact decide_eq_decide.mpr Rat.num_eq_zero
theorem add_enc (a b : Rat) : num (a.num * b.den + b.num * a.den) (a.den * b.den) = enc (a + b) := by
  rw [num_enc (Int.mul_ne_zero (den_int a) (den_int b)), ← Rat.divInt_add_divInt _ _ (den_int a) (den_int b), Rat.num_divInt_den, Rat.num_divInt_den]
theorem sub_enc (a b : Rat) : num (a.num * b.den - b.num * a.den) (a.den * b.den) = enc (a - b) := by
  rw [num_enc (Int.mul_ne_zero (den_int a) (den_int b)), ← Rat.divInt_sub_divInt _ _ (den_int a) (den_int b), Rat.num_divInt_den, Rat.num_divInt_den]
theorem mul_enc (a b : Rat) : num (a.num * b.num) (a.den * b.den) = enc (a * b) := by
  rw [num_enc (Int.mul_ne_zero (den_int a) (den_int b)), ← Rat.divInt_mul_divInt, Rat.num_divInt_den, Rat.num_divInt_den]
theorem div_enc (a b : Rat) (hb : b ≠ 0) : num (a.num * b.den) (a.den * b.num) = enc (a / b) := by
  have hn : b.num ≠ 0 := fun z => hb (Rat.num_eq_zero.mp z)
  rw [num_enc (Int.mul_ne_zero (den_int a) hn), ← Rat.divInt_mul_divInt, Rat.num_divInt_den, ← Rat.inv_def, Rat.div_def]
noncomputable def Fit (M B : Nat) (r : Rat) : Prop := ∃ z : Int, r * (M : Rat) = (z : Rat) ∧ z.natAbs ≤ B
theorem Fit.mono {M B B' : Nat} {r : Rat} (h : Fit M B r) (hb : B ≤ B') : Fit M B' r := by obtain ⟨z, e, l⟩ := h; exact ⟨z, e, Nat.le_trans l hb⟩
theorem Fit.zero (M B : Nat) : Fit M B 0 := ⟨0, by grind, Nat.zero_le _⟩
theorem Fit.add {M B B' : Nat} {a b : Rat} (h : Fit M B a) (h' : Fit M B' b) : Fit M (B + B') (a + b) := by
  obtain ⟨z, e, l⟩ := h
  obtain ⟨y, e', l'⟩ := h'
  refine ⟨z + y, by rw [Rat.intCast_add]; grind, ?_⟩
  have := Int.natAbs_add_le z y
  omega
theorem Fit.neg {M B : Nat} {a : Rat} (h : Fit M B a) : Fit M B (-a) := by
  obtain ⟨z, e, l⟩ := h
  exact ⟨-z, by rw [Rat.intCast_neg]; grind, by omega⟩
theorem Fit.sub {M B B' : Nat} {a b : Rat} (h : Fit M B a) (h' : Fit M B' b) : Fit M (B + B') (a - b) := by
  rw [Rat.sub_eq_add_neg]; exact h.add h'.neg
theorem Fit.scale {M B : Nat} {a : Rat} (h : Fit M B a) (k : Nat) : Fit (M * k) (B * k) a := by
  obtain ⟨z, e, l⟩ := h
  refine ⟨z * (k : Int), by rw [Rat.intCast_mul, Rat.natCast_mul, Rat.intCast_natCast]; grind, ?_⟩
  rw [Int.natAbs_mul]
  exact Nat.mul_le_mul l (by omega)
theorem Fit.mul {M B M' B' : Nat} {a b : Rat} (h : Fit M B a) (h' : Fit M' B' b) : Fit (M * M') (B * B') (a * b) := by
  obtain ⟨z, e, l⟩ := h
  obtain ⟨y, e', l'⟩ := h'
  refine ⟨z * y, by rw [Rat.intCast_mul, Rat.natCast_mul]; grind, ?_⟩
  rw [Int.natAbs_mul]
  exact Nat.mul_le_mul l l'
theorem mul_den (r : Rat) : r * (r.den : Rat) = (r.num : Rat) := by
  have h : (r.den : Rat) ≠ 0 := fun z => r.den_nz (Rat.natCast_eq_zero_iff.mp z)
  have e : r = (r.num : Rat) / (r.den : Rat) := by
    conv => lhs; rw [← Rat.num_divInt_den r, Rat.divInt_eq_div]
    rfl
  generalize (r.den : Rat) = d at *
  generalize (r.num : Rat) = n at *
  grind
theorem Fit.self (r : Rat) : Fit r.den r.num.natAbs r := ⟨r.num, mul_den r, Nat.le_refl _⟩
theorem Fit.size {M B : Nat} {r : Rat} (h : Fit M B r) (hM : 0 < M) : r.den ≤ M ∧ r.num.natAbs ≤ B := by
  obtain ⟨z, e, l⟩ := h
  have h1 : r.num * (M : Int) = z * (r.den : Int) := by
    apply Rat.intCast_inj.mp
    rw [Rat.intCast_mul, Rat.intCast_mul, Rat.intCast_natCast, Rat.intCast_natCast, ← mul_den r, ← e]
    grind
  have hd : (r.den : Int) ∣ (M : Int) := dvd_of_cop (b := r.num) ⟨z, by rw [h1, Int.mul_comm]⟩ (by rw [Int.gcd_comm]; exact r.reduced)
  have hdn : r.den ∣ M := Int.ofNat_dvd.mp hd
  refine ⟨Nat.le_of_dvd hM hdn, Nat.le_trans ?_ l⟩
  obtain ⟨m, hm⟩ := hdn
  have hm0 : 0 < m := by
    rcases Nat.eq_zero_or_pos m with z0 | z0
    · rw [z0, Nat.mul_zero] at hm; omega
    · exact z0
  have h2 : r.num * (m : Int) = z := by
    rw [hm, Int.natCast_mul] at h1
    have : (r.den : Int) * (r.num * (m : Int)) = (r.den : Int) * z := by rw [Int.mul_left_comm, h1, Int.mul_comm]
    exact Int.eq_of_mul_eq_mul_left (den_int r) this
  rw [← h2, Int.natAbs_mul]
  exact Nat.le_mul_of_pos_right _ (by omega)
theorem Fit.sz {M B n : Nat} {r : Rat} (h : Fit M B r) (hM : 0 < M) (h1 : M < 2 ^ n) (h2 : B < 2 ^ n) : Sz n r := by
  obtain ⟨a, b⟩ := h.size hM
  exact ⟨Nat.lt_of_le_of_lt b h2, Nat.lt_of_le_of_lt (by show (r.den : Int).natAbs ≤ M; omega) h1⟩
end L3

namespace L3
open PySem L2 PySem.Spec PyProof.Rows
noncomputable def co (l : List Rat) (i : Nat) : Rat := l.getD i 0
noncomputable def sh (i : Nat) (g : Nat → Rat) (k : Nat) : Rat := if i ≤ k then g (k - i) else 0
noncomputable def cv : Nat → (Nat → Rat) → (Nat → Rat) → Nat → Rat
  | 0, _, _, _ => 0
  | N + 1, q, g, k => cv N q g k + q N * sh N g k
theorem co_out {l : List Rat} {i : Nat} (h : l.length ≤ i) : co l i = 0 := by
  unfold co; rw [List.getD_eq_getElem?_getD, List.getElem?_eq_none h]; rfl
theorem co_set {l : List Rat} {i : Nat} {v : Rat} (h : i < l.length) (k : Nat) : co (l.set i v) k = if k = i then v else co l k := by
  unfold co
  rw [List.getD_eq_getElem?_getD, List.getD_eq_getElem?_getD, List.getElem?_set]
  by_cases e : k = i
  · subst e; simp [h]
  · rw [if_neg (fun z => e z.symm), if_neg e]
theorem co_ext {l m : List Rat} (hl : l.length = m.length) (h : ∀ i, co l i = co m i) : l = m := by
  refine List.ext_getElem hl fun i h1 h2 => ?_
  have := h i
  unfold co at this
  rw [List.getD_eq_getElem?_getD, List.getD_eq_getElem?_getD, List.getElem?_eq_getElem h1, List.getElem?_eq_getElem h2] at this
  exact this
noncomputable def trL (l : List Rat) : Nat → Nat
  | 0 => 0
  | k + 1 => if co l k = 0 then trL l k else k + 1
noncomputable def trR (l : List Rat) : List Rat := l.take (trL l l.length)
theorem trL_le (l : List Rat) : ∀ k, trL l k ≤ k
  | 0 => Nat.le_refl _
  | k + 1 => by unfold trL; split; exact Nat.le_succ_of_le (trL_le l k); exact Nat.le_refl _
theorem trL_zero (l : List Rat) : ∀ k i, trL l k ≤ i → i < k → co l i = 0
  | 0, i, _, h => by omega
  | k + 1, i, h1, h2 => by
    unfold trL at h1
    split at h1
    · rename_i hz
      by_cases e : i = k
      · rw [e]; exact hz
      · exact trL_zero l k i h1 (by omega)
    · omega
theorem co_take {l : List Rat} {n : Nat} (k : Nat) : co (l.take n) k = if k < n then co l k else 0 := by
  unfold co
  rw [List.getD_eq_getElem?_getD, List.getD_eq_getElem?_getD, List.getElem?_take]
  split <;> rfl
theorem len_trR (l : List Rat) : (trR l).length = trL l l.length := by unfold trR; rw [List.length_take, Nat.min_eq_left (trL_le _ _)]
theorem co_trR (l : List Rat) (k : Nat) : co (trR l) k = co l k := by
  unfold trR
  rw [co_take]
  split
  · rfl
  · by_cases h : k < l.length
    · rw [trL_zero l l.length k (by omega) h]
    · rw [co_out (by omega)]
noncomputable def Trim (l : List Rat) : Prop := 0 < l.length → co l (l.length - 1) ≠ 0
theorem Trim.ext {l m : List Rat} (hl : Trim l) (hm : Trim m) (h : ∀ i, co l i = co m i) : l = m := by
  refine co_ext ?_ h
  rcases Nat.lt_trichotomy l.length m.length with z | z | z
  · exact absurd (by rw [← h]; exact co_out (by omega)) (hm (by omega))
  · exact z
  · exact absurd (by rw [h]; exact co_out (by omega)) (hl (by omega))
theorem trimLen_enc (l : List Rat) : ∀ k, k ≤ l.length → trimLen (l.map enc) k = trL l k
  | 0, _ => rfl
  | k + 1, h => by
    have e : (l.map enc).getD k zD = enc (co l k) := by
      unfold co
      rw [List.getD_eq_getElem?_getD, List.getD_eq_getElem?_getD, List.getElem?_map, List.getElem?_eq_getElem (by omega)]; rfl
    unfold trimLen trL
    rw [e, isZ_enc, trimLen_enc l k (by omega)]
    by_cases hz : co l k = 0 <;> simp [hz]
theorem trimD_enc (l : List Rat) : trimD (l.map enc) = (trR l).map enc := by
  unfold trimD trR
  rw [List.length_map, trimLen_enc l _ (Nat.le_refl _), List.map_take]
end L3

namespace L3
open PySem L2 PySem.Spec PyProof.Rows
theorem forD_off {T : Tgt} {G : GS} (I : Nat → Sl → Sx → Prop) : ∀ (ds : List D) (o : Nat) (δ : Sl) (s : Sx), I o δ s →
    (∀ j d δ s, ds[j]? = some d → I (o + j) δ s → ∃ δ1 δ' s', T.run d δ = some δ1 ∧ G δ1 s = some (.next δ', s') ∧ I (o + j + 1) δ' s') → ∃ δ' s', forD T G ds δ s = some (.next δ', s') ∧ I (o + ds.length) δ' s'
  | [], o, δ, s, h, _ => ⟨δ, s, rfl, h⟩
  | d :: ds, o, δ, s, h, step => by
    obtain ⟨δ1, δ2, s2, e1, e2, h2⟩ := step 0 d δ s rfl h
    obtain ⟨δ3, s3, e3, h3⟩ := forD_off I ds (o + 1) δ2 s2 h2 fun j d' δ s hd hi => by
      obtain ⟨a, b, c, x, y, z⟩ := step (j + 1) d' δ s (by simpa using hd) (by rw [show o + (j + 1) = o + 1 + j by omega]; exact hi)
      exact ⟨a, b, c, x, y, by rw [show o + 1 + j + 1 = o + (j + 1) + 1 by omega]; exact z⟩
    refine ⟨δ3, s3, ?_, by rw [List.length_cons, show o + (ds.length + 1) = o + 1 + ds.length by omega]; exact h3⟩
    show ((T.run d δ).bind fun δ1 => _) = _
    rw [e1]
    show (match G δ1 s with | some (.next δ', s') => forD T G ds δ' s' | some (.cnt δ', s') => forD T G ds δ' s' | some (.brk δ', s') => some (.next δ', s') | some (.ret r, s') => some (.ret r, s') | some (.own r, s') => some (.own r, s') | none => none) = _
    rw [e2]
    exact e3
theorem forD_at {T : Tgt} {G : GS} (I : Nat → Sl → Sx → Prop) (ds : List D) (δ : Sl) (s : Sx) (h : I 0 δ s)
    (step : ∀ j d δ s, ds[j]? = some d → I j δ s → ∃ δ1 δ' s', T.run d δ = some δ1 ∧ G δ1 s = some (.next δ', s') ∧ I (j + 1) δ' s') : ∃ δ' s', forD T G ds δ s = some (.next δ', s') ∧ I ds.length δ' s' := by
  obtain ⟨a, b, e, i⟩ := forD_off I ds 0 δ s h fun j d δ s hd hi => by
    rw [Nat.zero_add] at hi ⊢
    exact step j d δ s hd hi
  rw [Nat.zero_add] at i
  exact ⟨a, b, e, i⟩
theorem rng_get {n j : Nat} {d : D} (h : (rng 0 n)[j]? = some d) : j < n ∧ d = .int (j : Int) := by
  unfold rng at h
  rw [List.getElem?_map] at h
  by_cases hj : j < n
  · rw [List.getElem?_range hj] at h
    simp only [Option.map_some, Option.some.injEq] at h
    refine ⟨hj, ?_⟩
    rw [← h]
    congr 1
    omega
  · rw [List.getElem?_eq_none (by simpa using hj)] at h; simp at h
theorem co_get {l : List Rat} {j : Nat} (h : j < l.length) : (l.map enc)[j]? = some (enc (co l j)) := by
  unfold co
  rw [List.getElem?_map, List.getD_eq_getElem?_getD, List.getElem?_eq_getElem h]; rfl
theorem at_co {l : List Rat} {j : Nat} (h : j < l.length) : L2.atI (l.map enc) (j : Int) = some (enc (co l j)) := atI_nat (co_get h)
theorem ix_seq {d : D} {xs : List D} (h : seqOf d = some xs) (i : Int) : gIx d (.int i) = L2.atI xs i := by
  cases d with
  | list ys => cases h; rfl
  | tuple ys => cases h; rfl
  | _ => cases h
theorem len_seq {d : D} {xs : List D} (h : seqOf d = some xs) : gLen d = some (.int xs.length) := by
  cases d with
  | list ys => cases h; rfl
  | tuple ys => cases h; rfl
  | _ => cases h
theorem put_enc {l : List Rat} {j : Nat} {v : Rat} (h : j < l.length) : putAt (l.map enc) (.int (j : Int)) (enc v) = some ((l.set j v).map enc) := by
  unfold putAt ixN
  simp only [List.length_map]
  rw [if_pos (by omega), if_pos (by omega)]
  simp [List.map_set]
theorem aCons_run {F : FE} {FL : FA} {δ : Sl} {s s1 s2 : Sx} {d : D} {ds : List D} (h : F δ s = some (d, s1)) (h' : FL δ s1 = some (ds, s2)) : aCons F FL δ s = some (d :: ds, s2) := by
  unfold aCons; rw [h]; simp only [Option.bind_some, h', Option.map_some]
theorem f2_run {g : G2} {Fa Fb : FE} {δ : Sl} {s s1 s2 : Sx} {a b d : D} (h : Fa δ s = some (a, s1)) (h' : Fb δ s1 = some (b, s2)) (e : g a b = some d) : f2 g Fa Fb δ s = some (d, s2) := by
  unfold f2; rw [h]; simp only [Option.bind_some, h', Option.map_some, e]
theorem f1_run {g : G1} {Fa : FE} {δ : Sl} {s s1 : Sx} {a d : D} (h : Fa δ s = some (a, s1)) (e : g a = some d) : f1 g Fa δ s = some (d, s1) := by
  unfold f1; rw [h]; simp only [Option.bind_some, Option.map_some, e]
theorem sPut_run {i : Nat} {Fi F : FE} {δ : Sl} {s s1 s2 : Sx} {v k : D} {xs ys : List D} (h : F δ s = some (v, s1)) (h' : Fi δ s1 = some (k, s2)) (hi : δ[i]? = some (.own xs)) (e : putAt xs k v = some ys) : sPut i Fi F δ s = some (.next (δ.set i (.own ys)), s2) := by
  unfold sPut; rw [h]; simp only [Option.bind_some, h', hi, e, Option.map_some]
theorem sSet_run {i : Nat} {F : FE} {δ : Sl} {s s1 : Sx} {v : D} (h : F δ s = some (v, s1)) : sSet i F δ s = some (.next (δ.set i (.val v)), s1) := by
  unfold sSet; rw [h]; rfl
theorem add_int (a b : Nat) : gAdd (.int (a : Int)) (.int (b : Int)) = some (.int ((a + b : Nat) : Int)) := by
  simp [gAdd, gAddI, gI]
end L3

namespace L3
open PySem L2 PySem.Spec PyProof.Rows
section
variable {X : Cx}
end
end L3

namespace L3
open PySem L2 PySem.Spec PyProof.Rows
noncomputable abbrev GC := List D → Sx → Option (Ce × Sx)
noncomputable abbrev FC := Sl → Sx → Option (Ce × Sx)
noncomputable def mkFnC (n m : Nat) (G : GS) : GC := fun ds s => if ds.length = n then (match G (ds.map .val ++ List.replicate m .non) s with
  | some (.ret d, s') => some (.val d, s')
  | some (.own xs, s') => some (.own xs, s')
  | some (.next _, s') => some (.val .none, s')
  | _ => none) else none
noncomputable def AftC (K : PySem.W.Frag) (Z : Zt) (A : List Addr) (H : Hp) (s' : Sx) (Q : VK) : Ce → Prop
  | .val d => ∀ v H', Ext Z H H' → StateAt Z H' s' → Rep K Z H' A v d → Q v H'
  | .own xs => ∀ p vs H', Ext Z H H' → StateAt Z H' s' → H p = none → H' p = some (.lst vs) → Reps K Z H' (p :: A) vs xs → Q (.ref p) H'
  | .non => False
inductive spC (K : PySem.W.Frag) (g : GC) (vs : List V) (H : Hp) (Q : VK) (_E : XK) : Prop
  | mk (Z : Zt) (A : List Addr) (ds : List D) (s : Sx) (c : Ce) (s' : Sx) (h0 : Reps K Z H A vs ds) (h1 : (∀ q ∈ A, (∃ o, H q = some o) ∧ NotZ Z q)) (h2 : StateAt Z H s) (h3 : g ds s = some (c, s')) (h4 : AftC K Z A H s' Q c)
theorem mkFnC_len {n m : Nat} {G : GS} {ds : List D} {s : Sx} {r : Ce × Sx} (h : mkFnC n m G ds s = some r) : ds.length = n := by
  unfold mkFnC at h
  split at h
  · assumption
  · cases h
theorem fnC {P : Program} {w : World} {K : PySem.W.Frag} {mg : Str → Option Value} {base : Heap} {x qual : Str} {st : Stmt} {f : Addr} {fd : FuncData} {N ps : List Str} {k m : Nat} {G : GS} (Fn : Fun K x qual st f fd) (S : FnScope N ps (defScope st)) (hN : N.length = ps.length + m)
    (hbody : ∀ (cdv : Value) (A : Around) (outer : List Env) (s : Shared) (H : Hp) (E : XK), Room k (A.deeper (envOfC qual (defScope st) s.heap.objs.size f cdv)) → DSs (cxOf CX0 P w K mg base N qual (defScope st) f cdv A outer s H E).nox (defBody st) G) :
    FnOk P w K mg base CX0 (k + 1) f fd ps (spC K (mkFnC ps.length m G)) := by
  refine Fn.ok S (fun vs H Q E h => ?_) (fun cdv A outer s H vs Q E hr h => ?_)
  · obtain ⟨Z, A, ds, s, c, s', r, _, _, e, _⟩ := h
    rw [r.length]; exact mkFnC_len e
  · obtain ⟨Z, A0, ds, st0, c, st1, r, hA, hS, e, q⟩ := h
    have hl := mkFnC_len e
    refine ⟨_, hbody cdv A outer s H E hr Z A0, ?_⟩
    unfold mkFnC at e
    rw [if_pos hl] at e
    have hst : L2.start N vs = vs.map some ++ List.replicate m none := by
      unfold L2.start
      rw [hN, r.length, hl, Nat.add_sub_cancel_left]
    rw [hst]
    have R : RepS K H Z A0 [] (vs.map some ++ List.replicate m none) (ds.map .val ++ List.replicate m .non) H := {
      ok := hA
      ext := Ext.refl H
      len := by simp [r.length]
      val := fun i d h => by
        obtain ⟨v, h1, h2⟩ := reps_val r h
        exact ⟨v, h1, by rw [List.map_nil, List.append_nil]; exact h2⟩
      own := fun i xs h => (reps_own h).elim
      ows := fun i p h => nomatch h
      inj := fun i j p h => nomatch h }
    cases e1 : G (ds.map .val ++ List.replicate m .non) st0 with
    | none => rw [e1] at e; cases e
    | some r1 =>
      obtain ⟨o, s1⟩ := r1
      rw [e1] at e
      refine ⟨[], _, st0, o, s1, R, hS, e1, ?_⟩
      cases o with
      | ret d' => cases e; exact fun v H' a b c => q v H' a b c
      | own xs => cases e; exact fun p vs H' a b c d e => q p vs H' a b c d e
      | next δ' => cases e; exact fun ow' σ' H' R' S' f => q .non H' R'.ext S' .non
      | brk δ' => cases e
      | cnt δ' => cases e
inductive CalC (P : Program) (w : World) (K : PySem.W.Frag) (mg : Str → Option Value) (base : Heap) (x : Str) (ps : List Str) (k : Nat) (g : GC) : Prop
  | mk (f : Addr) (fd : FuncData) (h0 : FnOk P w K mg base CX0 k f fd ps (spC K g)) (h1 : mg x = some (.ref f)) (h2 : PySem.W.keepIn K (.ref f) = true) (h3 : Binds K fd ps [])
noncomputable def ceD : Ce → Option D
  | .val d => some d | .own xs => some (.list xs) | .non => none
noncomputable def gOf (g : GC) : GF := fun ds s => (g ds s).bind fun p => (ceD p.1).map fun d => (d, p.2)
theorem CalC.cal {P : Program} {w : World} {K : PySem.W.Frag} {mg : Str → Option Value} {base : Heap} {x : Str} {ps : List Str} {k : Nat} {g : GC} (h : CalC P w K mg base x ps k g) : Cal P w K mg base x ps k (gOf g) := by
  obtain ⟨f, fd, F, h1, h2, h3⟩ := h
  refine ⟨f, fd, F.imp fun vs H Q E h => ?_, h1, h2, h3⟩
  obtain ⟨Z, A, ds, s, d, s', r, hA, hS, e, q⟩ := h
  unfold gOf at e
  first | refine bnd2 e fun c s1 e1 e => ?_ | refine mpp2 e fun c s1 e1 e => ?_
  refine ⟨Z, A, ds, s, c, s1, r, hA, hS, e1, ?_⟩
  cases c with
  | non => cases e
  | val d' => cases e; exact q
  | own xs =>
    cases e
    exact fun p ws H' x1 S1 n h rs => q _ H' x1 S1 (.lst h (fresh_not (fun q hq => (hA q hq).1) n) (hS.notZ n) (rs.sub fun q hq => List.mem_cons_of_mem _ hq))
section
variable {X : Cx} {st : Stmt} {e : Expr} {es : List Expr} {F : FE} {Fo : FO} {Fc : FC} {FL : FA} {x y : Str} {i : Nat} {p pos pos' : Pos}
inductive tDCK (K : PySem.W.Frag) (Z : Zt) (A : List Addr) (F : FC) (σ : L2.St) (H : Hp) (Q : VK) : Prop
  | mk (B : Hp) (ow : Ow) (δ : Sl) (s : Sx) (c : Ce) (s' : Sx) (h0 : RepS K B Z A ow σ δ H) (h1 : StateAt Z H s) (h2 : F δ s = some (c, s')) (h3 : AftC K Z (A ++ ow.map (·.2)) H s' Q c)
noncomputable abbrev tDC (X : Cx) (Z : Zt) (A : List Addr) (F : FC) : TE := tDCK X.K Z A F
structure DC (X : Cx) (e : Expr) (F : FC) : Prop where
  go : ∀ Z A, PE X e (tDC X Z A F)
noncomputable def cOwn (Fo : FO) : FC := fun δ s => (Fo δ s).map fun p => (.own p.1, p.2)
theorem DF.c (h : DF X e Fo) : DC X e (cOwn Fo) := ⟨fun Z A => PE.imp (h.go Z A) fun σ H Q h => by
  obtain ⟨B, ow, δ, s, c, s', R, S, ee, q⟩ := h
  unfold cOwn at ee
  first | refine bnd1 ee fun p e1 ee => ?_ | refine mpp1 ee fun p e1 ee => ?_
  cases ee
  exact ⟨B, ow, δ, s, p.1, p.2, R, S, e1, q⟩⟩
noncomputable def cVal (F : FE) : FC := fun δ s => (F δ s).map fun p => (.val p.1, p.2)
theorem DE.c (h : DE X e F) : DC X e (cVal F) := ⟨fun Z A => PE.imp (h.go Z A) fun σ H Q h => by
  obtain ⟨B, ow, δ, s, c, s', R, S, ee, q⟩ := h
  unfold cVal at ee
  first | refine bnd1 ee fun p e1 ee => ?_ | refine mpp1 ee fun p e1 ee => ?_
  cases ee
  exact ⟨B, ow, δ, s, p.1, p.2, R, S, e1, q⟩⟩
noncomputable def fCallC (g : GC) (FL : FA) : FC := fun δ s => (FL δ s).bind fun p => g p.1 p.2
theorem read_callC {gf : GC} {Z : Zt} {A : List Addr} {σ : L2.St} {H : Hp} {Q : VK} {E : XK} (h : tDC X Z A (fCallC gf FL) σ H Q) : tCall (spC X.K gf) [] E (tDA X Z A FL) σ H Q := by
  obtain ⟨B, ow, δ, s, c, s', R, S, e, q⟩ := h
  unfold fCallC at e
  first | refine bnd2 e fun ds s1 e1 e => ?_ | refine mpp2 e fun ds s1 e1 e => ?_
  refine ⟨B, ow, δ, s, ds, s1, R, S, e1, fun vs H1 x1 S1 rs => ?_⟩
  refine ⟨Z, A ++ ow.map (·.2), ds, s1, c, s', by simpa using rs, fun q hq => ?_, S1, e, ?_⟩
  · refine ⟨(R.mono x1).all q hq, ?_⟩
    rcases List.mem_append.mp hq with h | h
    · exact (R.ok q h).2
    · obtain ⟨⟨i, p⟩, hp, rfl⟩ := List.mem_map.mp h
      exact (R.ows i p hp).2.2.1
  · cases c with
    | non => exact q
    | val d => exact fun v H' a b r => q v H' (x1.trans a) b r
    | own xs => exact fun p ws H' a b n h r => q p ws H' (x1.trans a) b (none_of_ext x1 S1 n) h r
theorem dc_cal {gf : GC} {k k' : Nat} {ps : List Str} (C : CalC X.prog X.w X.K X.mg X.base x ps k gf) (hr : Room k' X.A) (ha : DA X (e :: es) FL) (hk : k ≤ k' := by decide) (hg : Gl X x := by rfl) (hdb : (x == ("__debug__" : Str)) = false := by decide)
    (he : starEach (e :: es) X.env = (false, eval e X.env) :: starEach es X.env := by rfl) (hpl : (backTo pos (starEach es X.env)).any (·.1) = false := by rfl) : DC X (.Call (.Name x p) (e :: es) [] pos) (fCallC gf FL) := by
  obtain ⟨f, fd, G, hm, hk', hb⟩ := C
  exact ⟨fun Z A => PE.imp (pe_call G (hr.mono hk) hg hm hk' hb .nil pass0 (ha Z A) hdb he hpl) fun σ H Q q => read_callC q⟩
noncomputable def sSetC (i : Nat) (F : FC) : GS := fun δ s => (F δ s).bind fun p => match p.1 with | .non => none | c => some (.next (δ.set i c), p.2)
theorem ds_setC (hN : X.N.Nodup) (h : DC X e Fc) (hi : X.N[i]? = some y := by rfl) (hx : Loc X.env.scope y := by first | exact Or.inl rfl | exact Or.inr rfl)
    (hs : swapsWith e (some (.Name y pos')) pos.line X.env = pure false := by rfl)
    (hf : X.fn y = true ∨ X.env.scope.names.lookup y = some .local := by first | exact .inl rfl | exact .inr rfl | assumption) : DS X (.Assign [.Name y pos'] e pos) (sSetC i Fc) := ⟨fun Z A => PS.imp (ps_set hN hi hx (h.go Z A) hs hf) fun E σ H h => by
  obtain ⟨ow, δ, s, o, s', R, S, e, q⟩ := h
  unfold sSetC at e
  first | refine bnd2 e fun c s1 e1 e => ?_ | refine mpp2 e fun c s1 e1 e => ?_
  refine ⟨_, ow, δ, s, c, s1, R, S, e1, ?_⟩
  cases c with
  | non => cases e
  | val d =>
    cases e
    intro v H' x1 S1 r
    obtain ⟨R2, f2⟩ := (R.mono x1).set (i := i) r
    exact q _ _ _ R2 S1 ((Frm.ext x1).trans f2)
  | own xs =>
    cases e
    intro p ws H' x1 S1 n h r
    obtain ⟨R3, f3⟩ := R.setOwn (i := i) S x1 n h r
    exact q _ _ _ R3 S1 f3⟩
noncomputable def sRetO (i : Nat) : GS := fun δ s => match δ[i]? with | some (.own xs) => some (.own xs, s) | some (.val d) => some (.ret d, s) | _ => none
theorem ds_retO (hv : PE X (.Name x p) (tVar i)) : DS X (.Return (some (.Name x p)) pos) (sRetO i) := ⟨fun Z A => PS.imp (ps_ret hv) fun E σ H h => by
  obtain ⟨ow, δ, s, o, s', R, S, e, q⟩ := h
  unfold sRetO at e
  split at e
  · rename_i xs ho
    cases e
    obtain ⟨p, vs, h1, h2, h3, h4⟩ := R.own i xs ho
    exact ⟨_, h2, q p vs H R.ext S (R.ows i p h1).1 h3 (h4.sub fun q hq => by
      rcases List.mem_cons.mp hq with rfl | hq
      · exact List.mem_append_right _ (List.mem_map.mpr ⟨(i, q), h1, rfl⟩)
      · exact List.mem_append_left _ hq)⟩
  · rename_i d ho
    cases e
    obtain ⟨v, h1, r⟩ := R.val i d ho
    exact ⟨_, h1, q v H R.ext S (r.sub fun q hq => List.mem_append_left _ hq)⟩
  · cases e⟩
end
end L3

namespace L3
open PySem L2 PySem.Spec PyProof.Rows
theorem Reps.reverse {K : PySem.W.Frag} {Z : Zt} {H : Hp} {A : List Addr} : ∀ {vs : List V} {ds : List D}, Reps K Z H A vs ds → Reps K Z H A vs.reverse ds.reverse
  | _, _, .nil => .nil
  | _, _, .cons r t => by rw [List.reverse_cons, List.reverse_cons]; exact (Reps.reverse t).append (.cons r .nil)
section
variable {X : Cx} {e e2 : Expr} {Fa Fb : FE} {st : Stmt} {p p2 pos pos2 : Pos}
end
end L3

namespace L3
open PySem L2 PySem.Spec PyProof.Rows
section
variable {X : Cx} {e e2 r t : Expr} {Fa Fb F Fr : FE} {Ft : FT} {T : Tgt} {x : Str} {px apos cpos pos pos2 pos3 : Pos} {i : Nat}
theorem Tgt.keeps {T : Tgt} {d : D} {δ δ' : Sl} (h : T.run d δ = some δ') {j : Nat} (hj : ¬ j ∈ T.slots) : δ'[j]? = δ[j]? := by
  have all : ∀ (is : List Nat) (ds : List D) (δ : Sl), ¬ j ∈ is → (setD is ds δ)[j]? = δ[j]? := fun is => by
    induction is with
    | nil => intro ds δ _; rfl
    | cons i is ih =>
      intro ds δ hn
      cases ds with
      | nil => rfl
      | cons d ds =>
        have hn' : ¬ j = i ∧ ¬ j ∈ is := by simpa using hn
        show (setD is ds (δ.set i (.val d)))[j]? = _
        rw [ih ds _ hn'.2, List.getElem?_set_ne (Ne.symm hn'.1)]
  unfold Tgt.run at h
  split at h
  · cases h
    exact List.getElem?_set_ne (Ne.symm (by simpa [Tgt.slots] using hj))
  · split at h
    · cases h; exact all _ _ _ hj
    · cases h
  · split at h
    · cases h; exact all _ _ _ hj
    · cases h
  · cases h
  · rename_i i js a b
    cases eb : seqOf b with
    | none => rw [eb] at h; cases h
    | some ys =>
      rw [eb] at h
      simp only [Option.bind_some] at h
      have hn' : ¬ j = i ∧ ¬ j ∈ js := by simpa [Tgt.slots] using hj
      split at h
      · cases h
        rw [all _ _ _ hn'.2, List.getElem?_set_ne (Ne.symm hn'.1)]
      · cases h
  · cases h
end
end L3

namespace L3
open PySem L2 PySem.Spec PyProof.Rows
section
variable {X : Cx}
end
end L3

namespace L3
open PySem L2 PySem.Spec PyProof.Rows
section
variable {X : Cx} {tg e : Expr} {F : FE} {p pos : Pos}
end
end L3

namespace L3
open PySem L2 PySem.Spec PyProof.Rows
theorem RepW.sq {K : PySem.W.Frag} {Z : Zt} {H : Hp} {A : List Addr} {v : V} {d : D} {xs : List D} (r : RepW K Z H A v d) (e : seqOf d = some xs) : ∃ k a vs, v = .ref a ∧ SqK k K H a vs ∧ Reps K Z H A vs xs := by
  cases d with
  | list ys =>
    cases e
    obtain ⟨p, vs, ev, sq, _, rs⟩ := r.list
    exact ⟨true, p, vs, ev, sq, rs⟩
  | tuple ys =>
    cases e
    obtain ⟨p, vs, ev, sq, rs⟩ := r.tuple
    exact ⟨false, p, vs, ev, sq, rs⟩
  | _ => cases e
section
variable {X : Cx} {e e2 : Expr} {Fa Fb : FE} {p pos p2 pos2 : Pos}
end
inductive Al (K : PySem.W.Frag) (Z : Zt) (H : Hp) (A : List Addr) : L2.St → Sl → Prop
  | nil : Al K Z H A [] []
  | non {o : Option V} {σ : L2.St} {δ : Sl} : Al K Z H A σ δ → Al K Z H A (o :: σ) (.non :: δ)
  | val {v : V} {d : D} {σ : L2.St} {δ : Sl} : Rep K Z H A v d → Al K Z H A σ δ → Al K Z H A (some v :: σ) (.val d :: δ)
theorem Al.len {K : PySem.W.Frag} {Z : Zt} {H : Hp} {A : List Addr} {σ : L2.St} {δ : Sl} (h : Al K Z H A σ δ) : δ.length = σ.length := by
  induction h with
  | nil => rfl
  | non _ ih => exact congrArg (· + 1) ih
  | val _ _ ih => exact congrArg (· + 1) ih
theorem Al.get {K : PySem.W.Frag} {Z : Zt} {H : Hp} {A : List Addr} {σ : L2.St} {δ : Sl} (h : Al K Z H A σ δ) : ∀ (i : Nat) (d : D), δ[i]? = some (.val d) → ∃ v, σ[i]? = some (some v) ∧ Rep K Z H A v d := by
  induction h with
  | nil => intro i d e; cases e
  | non _ ih =>
    intro i d e
    cases i with
    | zero => cases e
    | succ i => exact ih i d e
  | val r _ ih =>
    intro i d e
    cases i with
    | zero => cases e; exact ⟨_, rfl, r⟩
    | succ i => exact ih i d e
theorem Al.own {K : PySem.W.Frag} {Z : Zt} {H : Hp} {A : List Addr} {σ : L2.St} {δ : Sl} (h : Al K Z H A σ δ) : ∀ (i : Nat) (xs : List D), δ[i]? = some (.own xs) → False := by
  induction h with
  | nil => intro i d e; cases e
  | non _ ih =>
    intro i d e
    cases i with
    | zero => cases e
    | succ i => exact ih i d e
  | val r _ ih =>
    intro i d e
    cases i with
    | zero => cases e
    | succ i => exact ih i d e
theorem Al.repS {K : PySem.W.Frag} {B : Hp} {Z : Zt} {H : Hp} {A : List Addr} {σ : L2.St} {δ : Sl} (h : Al K Z H A σ δ) (ok : ∀ q ∈ A, (∃ o, H q = some o) ∧ NotZ Z q) (ext : Ext Z B H) : RepS K B Z A [] σ δ H where
  ok := ok
  ext := ext
  len := Al.len h
  val := fun i d e => let ⟨v, a, b⟩ := Al.get h i d e; ⟨v, a, by show Rep K Z H (A ++ []) v d; rw [List.append_nil]; exact b⟩
  own := fun i xs e => (Al.own h i xs e).elim
  ows := fun _ _ e => nomatch e
  inj := fun _ _ _ e => nomatch e
end L3

namespace L3
open PySem L2 PyProof.Rows
section
variable {X : Cx}
end
end L3

namespace L3
open PySem L2 PySem.Spec PyProof.Rows
section
variable {X : Cx}
end
end L3

namespace L3
open PySem L2 PyProof.Rows
noncomputable abbrev RS := Sl → Sx → Option Sx
inductive tRX (X : Cx) (Z : Zt) (A : List Addr) (C : Addr) (R : RS) (E : Ends) (σ : L2.St) (H : Hp) : Prop
  | mk (ow : Ow) (δ : Sl) (s : Sx) (s' : Sx) (h0 : RepS X.K X.H₀ Z A ow σ δ H) (h1 : StateAt Z H s) (h2 : R δ s = some s') (h3 : ∀ E' σ' H', Ext Z X.H₀ H' → StateAt Z H' s' → tRaise X C E' σ' H')
structure RX (X : Cx) (sts : List Stmt) (C : Addr) (R : RS) : Prop where
  go : ∀ Z A, PSs X sts (tRX X Z A C R)
section
variable {X : Cx} {st r : Stmt} {rest : List Stmt} {c : Expr} {C : Addr} {G : GS} {R : RS} {Ft : FT} {pos : Pos}
end
inductive spX (K : PySem.W.Frag) (C : Addr) (h : List D → Sx → Option Sx) (vs : List V) (H : Hp) (_Q : VK) (E : XK) : Prop
  | mk (Z : Zt) (A : List Addr) (ds : List D) (s : Sx) (s' : Sx) (h0 : Reps K Z H A vs ds) (h1 : (∀ q ∈ A, (∃ o, H q = some o) ∧ NotZ Z q)) (h2 : StateAt Z H s) (h3 : h ds s = some s') (h4 : ∀ H', Ext Z H H' → StateAt Z H' s' → E (.ref C) none H')
end L3

namespace L2
open PySem PySem.Spec PyProof.Rows
section
variable {X : Cx} {pins : List (Addr × Obj)} {σ : St} {H : Hp} {s : Shared} {E : XK} {E' : Value → Shared → Prop}
end
noncomputable abbrev TJ := St → Hp → (Hp → Prop) → Prop
noncomputable def PJ (X : Cx) (n : Nat) (es : List Expr) (t : TJ) : Prop := ∀ (out : Str) (pins : List (Addr × Obj)) (s : Shared) (σ : St) (H : Hp) (Q : Hp → Prop), out.length ≤ n → Inv X pins σ H s → t σ H Q →
  wpAny (model X.prog X.w) X.A (joinParts out (evalEach es X.env)) (fun u s' => ∃ z tk H', u = .str z tk ∧ Inv X pins σ H' s' ∧ Q H') X.xe s
section
variable {X : Cx} {n m : Nat} {e : Expr} {es : List Expr} {te : TE} {t : TJ} {p p2 : Pos} {x : Str} {j : Nat}
end
end L2
namespace L2
open PySem PySem.Spec PyProof.Rows
section
variable {X : Cx} {x : Str} {C : Addr} {B newId initId : String} {bmB : List Value} {np cpos pos p2 : Pos} {v1 v2 : Expr} {es : List Expr} {t : TJ}
end
end L2
namespace L3
open PySem L2 PyProof.Rows
noncomputable def rFmt : List FE → RS
  | [] => fun _ s => some s
  | F :: Fs => fun δ s => match F δ s with
    | some (.int i, s1) => if 0 ≤ i ∧ i < 200 then rFmt Fs δ s1 else none
    | _ => none
inductive tJ (X : Cx) (Z : Zt) (A : List Addr) (Fs : List FE) (σ : L2.St) (H : Hp) (Q : Hp → Prop) : Prop
  | mk (ow : Ow) (δ : Sl) (s s' : Sx) (h0 : RepS X.K X.H₀ Z A ow σ δ H) (h1 : StateAt Z H s) (h2 : rFmt Fs δ s = some s') (h3 : ∀ H', Ext Z H H' → StateAt Z H' s' → Q H')
theorem tJ.mono {X : Cx} {Z : Zt} {A : List Addr} {Fs : List FE} {σ : L2.St} {H : Hp} {Q Q' : Hp → Prop} (h : ∀ H1, Q H1 → Q' H1) (t : tJ X Z A Fs σ H Q) : tJ X Z A Fs σ H Q' := by
  obtain ⟨ow, δ, s, s', R, S, e, q⟩ := t
  exact ⟨ow, δ, s, s', R, S, e, fun H' a b => h _ (q H' a b)⟩
structure DJ (X : Cx) (n : Nat) (es : List Expr) (Fs : List FE) : Prop where
  go : ∀ Z A, PJ X n es (tJ X Z A Fs)
section
variable {X : Cx} {n : Nat} {e : Expr} {es : List Expr} {F : FE} {Fs : List FE} {p : Pos} {x : Str} {j : Nat}
end
section
variable {X : Cx} {st r : Stmt} {rest : List Stmt} {c : Expr} {C : Addr} {G : GS} {R R1 : RS} {Ft : FT} {pos : Pos}
end
end L3

namespace L3
open PySem L2 PySem.Spec PyProof.Rows
theorem len_rep {α : Type} (xs : List α) (k : Nat) : (List.replicate k xs).flatten.length = xs.length * k := by
  induction k with
  | zero => simp
  | succ k ih => rw [List.replicate_succ, List.flatten_cons, List.length_append, ih, Nat.mul_succ, Nat.add_comm]
section
variable {X : Cx}
section
variable {o : Expr} {Fo : FE} {m : Str} {pos apos : Pos}
end
end
end L3

namespace L3
open PySem L2 PySem.Spec PyProof.Rows
theorem CompOkC.cells {X : Cx} {scope : Scope} {cl : List (Str × Addr)} {N : List Str} {k : Nat} {fr : List Nat} {x0 : Str} (ok : CompOkC X scope cl N k fr x0) (C : Addr) (s : Shared) (H : Hp) (ex : List Addr) : ∀ x, (compCxC X scope cl N x0 C s H ex).env.scope.names.lookup x = some .cell → ∃ c, (compCxC X scope cl N x0 C s H ex).env.cells.lookup x = some c := fun x hx => by
  by_cases h0 : x = x0
  · exact ⟨C + 1, by show ((x0, C + 1) :: cl).lookup x = _; rw [h0]; simp⟩
  · obtain ⟨c, e⟩ := ok.has x h0 (.inl hx)
    refine ⟨c, ?_⟩
    show ((x0, C + 1) :: cl).lookup x = _
    rw [List.lookup_cons, show (x == x0) = false from beq_eq_false_iff_ne.mpr h0]; exact e
section
variable {X : Cx} {tg iter elt e : Expr} {es : List Expr} {T : Tgt} {F : FE} {Fi : FI} {Ft : FT} {G : GS} {body : List Stmt} {pos : Pos}
end
end L3

namespace L3
open PySem L2 PySem.Spec PyProof.Rows
section
variable {X : Cx} {o : Expr} {f : Str} {pos : Pos} {ta : TE}
end
theorem Reps.offT {K : PySem.W.Frag} {Z : Zt} {H : Hp} {A B : List Addr} (hB : ∀ q ∈ B, ∀ vs, H q ≠ some (.tup vs)) {vs : List V} {ds : List D} (r : Reps K Z H A vs ds) : noLists ds = true → Reps K Z H (B ++ A) vs ds :=
  Reps.rec (motive_1 := fun v d _ => noList d = true → Rep K Z H (B ++ A) v d) (motive_2 := fun vs ds _ => noLists ds = true → Reps K Z H (B ++ A) vs ds) (fun _ => .non) (fun b _ => .bl b) (fun i _ => .int i) (fun x _ => .str x)
    (fun h n z _ r e => .tup h (fun m => (List.mem_append.mp m).elim (fun m => hB _ m _ h) n) z (r e)) (fun _ _ _ _ _ e => absurd e Bool.false_ne_true) (fun h _ r e => .mod h (r e)) (fun _ e => absurd e Bool.false_ne_true)
    (fun _ _ _ _ _ _ e => absurd e Bool.false_ne_true) (fun _ => .nil) (fun _ _ r t e => .cons (r ((Bool.and_eq_true _ _).mp e).1) (t ((Bool.and_eq_true _ _).mp e).2)) r
theorem Rep.offT {K : PySem.W.Frag} {Z : Zt} {H : Hp} {A B : List Addr} (hB : ∀ q ∈ B, ∀ vs, H q ≠ some (.tup vs)) {v : V} {d : D} (r : Rep K Z H A v d) (e : noList d = true) : Rep K Z H (B ++ A) v d := Reps.head (Reps.offT hB (.cons r .nil) (by rw [noLists, e]; rfl))
structure Men where
  f : D
  o : D
  rs : List D
  b : D
  l : D
  u : D
  n : D
noncomputable def nsM : List Str := ["field", "off", "rises", "below", "failed", "fault", "since"]
noncomputable def Men.fds (m : Men) : List D := [m.f, m.o, .list m.rs, m.b, m.l, m.u, m.n]
noncomputable def Men.d (m : Men) : D := .dict ((.str "", .str "Mender") :: (nsM.map PyData.str).zip m.fds)
inductive MAt (K : PySem.W.Frag) (Z : Zt) (H : Hp) (A : List Addr) (C p q dx : Addr) (m : Men) : Prop
  | mk (vf vo vb vl vu vn : V) (rv : List V) (hp : H p = some (.ins C dx (nsM.zip [vf, vo, .ref q, vb, vl, vu, vn]))) (hq : H q = some (.lst rv))
    (rf : Rep K Z H (p :: q :: A) vf m.f) (ro : Rep K Z H (p :: q :: A) vo m.o) (rb : Rep K Z H (p :: q :: A) vb m.b) (rl : Rep K Z H (p :: q :: A) vl m.l) (ru : Rep K Z H (p :: q :: A) vu m.u) (rn : Rep K Z H (p :: q :: A) vn m.n) (rr : Reps K Z H (p :: q :: A) rv m.rs)
section
variable {K : PySem.W.Frag} {Z : Zt} {H H' : Hp} {A : List Addr} {C p q dx : Addr} {m : Men}
theorem sub2 : ∀ b ∈ A, b ∈ p :: q :: A := fun b h => List.mem_cons_of_mem _ (List.mem_cons_of_mem _ h)
theorem MAt.rep (M : MAt K Z H A C p q dx m) (kC : PySem.W.nsIn K mainGlobals "Mender" = some (some (.ref C))) (np : ¬ p ∈ A) (nq : ¬ q ∈ A) (zp : NotZ Z p) (zq : NotZ Z q) : Rep K Z H A (.ref p) m.d := by
  obtain ⟨vf, vo, vb, vl, vu, vn, rv, hp, hq, rf, ro, rb, rl, ru, rn, rr⟩ := M
  exact .obj (ns := nsM) (ds := m.fds) kC hp np zp (.cons (rf.sub sub2) (.cons (ro.sub sub2) (.cons (.lst hq nq zq (rr.sub sub2)) (.cons (rb.sub sub2) (.cons (rl.sub sub2) (.cons (ru.sub sub2) (.cons (rn.sub sub2) .nil)))))))
noncomputable def Kp (Z : Zt) (p q : Addr) (H H' : Hp) : Prop := ∀ b o, H b = some o → NotZ Z b → b ≠ p → b ≠ q → H' b = some o
theorem Kp.of (e : Ext Z H H') : Kp Z p q H H' := fun b o h n _ _ => e b o h n
theorem Kp.trans {H1 H2 H3 : Hp} (a : Kp Z p q H1 H2) (b : Kp Z p q H2 H3) : Kp Z p q H1 H3 := fun c o h n x y => b c o (a c o h n x y) n x y
theorem Reps.kp (k : Kp Z p q H H') {vs : List V} {ds : List D} (r : Reps K Z H (p :: q :: A) vs ds) : Reps K Z H' (p :: q :: A) vs ds := r.move fun b o h n z => ⟨k b o h z (fun e => n (by rw [e]; exact List.mem_cons_self)) (fun e => n (by rw [e]; exact List.mem_cons_of_mem _ List.mem_cons_self)), n⟩
theorem Rep.kp (k : Kp Z p q H H') {v : V} {d : D} (r : Rep K Z H (p :: q :: A) v d) : Rep K Z H' (p :: q :: A) v d := Reps.head (Reps.kp k (.cons r .nil))
theorem MAt.ext (M : MAt K Z H A C p q dx m) (zp : NotZ Z p) (zq : NotZ Z q) (e : Ext Z H H') : MAt K Z H' A C p q dx m := by
  obtain ⟨vf, vo, vb, vl, vu, vn, rv, hp, hq, rf, ro, rb, rl, ru, rn, rr⟩ := M
  exact ⟨vf, vo, vb, vl, vu, vn, rv, e _ _ hp zp, e _ _ hq zq, rf.ext e, ro.ext e, rb.ext e, rl.ext e, ru.ext e, rn.ext e, rr.ext e⟩
theorem MAt.off (M : MAt K Z H A C p q dx m) {v : V} {d : D} (r : Rep K Z H A v d) (e : noList d = true) : Rep K Z H (p :: q :: A) v d := by
  obtain ⟨vf, vo, vb, vl, vu, vn, rv, hp, hq, _⟩ := M
  exact r.offT (B := [p, q]) (fun b hb vs z => by
    rcases List.mem_cons.mp hb with h | h
    · rw [h, hp] at z; cases z
    · rw [List.mem_singleton.mp h, hq] at z; cases z) e
end
end L3
namespace L3
open PySem L2 PySem.Spec PyProof.Rows
section
variable {K : PySem.W.Frag} {Z : Zt} {A : List Addr} {C p q dx : Addr} {m m' : Men}
theorem rep0 {H : Hp} {v : V} {d : D} (r : Rep K Z H (A ++ ([] : Ow).map (·.2)) v d) : Rep K Z H A v d := r.sub fun b h => List.mem_append_left _ h
theorem rep1 {H : Hp} {v : V} {d : D} (r : Rep K Z H A v d) : Rep K Z H (A ++ ([] : Ow).map (·.2)) v d := r.sub fun b h => by simpa using h
end
end L3
namespace L3
open PySem L2 PySem.Spec PyProof.Rows
section
variable {K : PySem.W.Frag} {Z : Zt} {A : List Addr} {C p q dx : Addr} {m m' : Men}
end
end L3
namespace L3
open PySem L2 PySem.Spec PyProof.Rows
noncomputable def noOwn (δ : Sl) : Bool := δ.all fun c => match c with | .own _ => false | _ => true
section
variable {K : PySem.W.Frag} {B : Hp} {Z : Zt} {A : List Addr} {ow : Ow} {C p q dx : Addr} {m m' : Men} {σ : L2.St} {δ : Sl} {H H' : Hp} {i : Nat}
theorem noOwn_at (h : noOwn δ = true) {j : Nat} {xs : List D} (e : δ[j]? = some (.own xs)) : False := by
  have := (List.all_eq_true.mp h) _ (List.mem_of_getElem? e)
  cases this
theorem RepS.bare (R : RepS K B Z A ow σ δ H) (h : noOwn δ = true) : RepS K B Z A [] σ δ H where
  ok := R.ok
  ext := R.ext
  len := R.len
  val := fun i d e => let ⟨v, a, b⟩ := R.val i d e; ⟨v, a, b.sub fun q hq => by rw [List.map_nil, List.append_nil] at hq; exact List.mem_append_left _ hq⟩
  own := fun i xs e => (noOwn_at h e).elim
  ows := fun i p h => nomatch h
  inj := fun i j p h => nomatch h
theorem RepS.kp (R : RepS K B Z (p :: q :: A) [] σ δ H) (k : Kp Z p q H H') (bp : B p = none) (bq : B q = none) (hp : ∃ o, H' p = some o) (hq : ∃ o, H' q = some o) : RepS K B Z (p :: q :: A) [] σ δ H' where
  ok := fun b hb => by
    refine ⟨?_, (R.ok b hb).2⟩
    by_cases h1 : b = p
    · rw [h1]; exact hp
    · by_cases h2 : b = q
      · rw [h2]; exact hq
      · obtain ⟨⟨o, ho⟩, z⟩ := R.ok b hb
        exact ⟨o, k b o ho z h1 h2⟩
  ext := fun b o e n => k b o (R.ext b o e n) n (ne_of_none e bp) (ne_of_none e bq)
  len := R.len
  val := fun j d e => by
    obtain ⟨v, a, b⟩ := R.val j d e
    exact ⟨v, a, rep1 ((rep0 b).kp k)⟩
  own := fun j xs e => by
    obtain ⟨_, _, h, _⟩ := R.own j xs e
    exact nomatch h
  ows := fun i p h => nomatch h
  inj := fun i j p h => nomatch h
theorem RepS.show (R : RepS K B Z (p :: q :: A) [] σ δ H) (hσ : σ[i]? = some (some (.ref p))) (r : Rep K Z H A (.ref p) m.d) : RepS K B Z A [] σ (δ.set i (.val m.d)) H where
  ok := fun b hb => R.ok b (sub2 b hb)
  ext := R.ext
  len := by rw [List.length_set]; exact R.len
  val := fun j d e => by
    by_cases hj : i = j
    · subst hj
      have := (List.getElem?_eq_some_iff.mp e).1
      rw [List.length_set] at this
      rw [List.getElem?_set_self this] at e
      cases e
      exact ⟨_, hσ, rep1 r⟩
    · rw [List.getElem?_set_ne hj] at e
      obtain ⟨v, a, b⟩ := R.val j d e
      exact ⟨v, a, rep1 ((rep0 b).sub sub2)⟩
  own := fun j xs e => by
    by_cases hj : i = j
    · subst hj
      have := (List.getElem?_eq_some_iff.mp e).1
      rw [List.length_set] at this
      rw [List.getElem?_set_self this] at e
      cases e
    · rw [List.getElem?_set_ne hj] at e
      obtain ⟨_, _, h, _⟩ := R.own j xs e
      exact nomatch h
  ows := fun i p h => nomatch h
  inj := fun i j p h => nomatch h
theorem MAt.hp (M : MAt K Z H A C p q dx m) : ∃ o, H p = some o := by obtain ⟨_, _, _, _, _, _, _, hp, _⟩ := M; exact ⟨_, hp⟩
theorem MAt.hq (M : MAt K Z H A C p q dx m) : ∃ o, H q = some o := by obtain ⟨_, _, _, _, _, _, _, _, hq, _⟩ := M; exact ⟨_, hq⟩
end
section
variable {X : Cx} {s1 s2 : Stmt} {rest : List Stmt} {FLm FLr FLs : FA} {g : Men → D → Sx → Option (Men × Sx)} {G : GS} {C : Addr} {i j : Nat}
end
end L3
namespace L3
open PySem L2 PySem.Spec PyProof.Rows
end L3

namespace L3
open PySem L2 PySem.Spec PyProof.Rows
section
variable {X : Cx} {tg e e2 e3 : Expr} {Fa Fb Fc : FE} {p pos : Pos}
end
end L3

namespace L3
open PySem L2 PySem.Spec PyProof.Rows
section
variable {X : Cx} {e c : Expr} {p2 pos : Pos} {te tc : TE} {F Fc : FE}
end
end L3

namespace L3
open PySem L2 PySem.Spec PyProof.Rows
inductive spL (K : PySem.W.Frag) (g : List D → Sx → Option (List D × Sx)) (vs : List V) (H : Hp) (Q : VK) (_E : XK) : Prop
  | mk (Z : Zt) (A L : List Addr) (ds : List D) (s : Sx) (cs : List D) (s' : Sx) (h0 : Reps K Z H A vs ds) (h1 : ∀ q ∈ A, (∃ o, H q = some o) ∧ NotZ Z q) (hL : ∀ q ∈ L, (∃ ws, H q = some (.lst ws)) ∧ NotZ Z q) (h2 : StateAt Z H s) (h3 : g ds s = some (cs, s'))
      (h4 : ∀ p us H', Ext Z H H' → StateAt Z H' s' → H p = none → H' p = some (.lst us) → Reps K Z H' (p :: (A ++ L)) us cs → Q (.ref p) H')
noncomputable def gL (Fo1 Fo2 : FO) (G : GS) : List D → Sx → Option (List D × Sx) := fun ds s => match ds with
  | [d] => (Fo1 [.val d, .non, .non, .non] s).bind fun p => if noLists p.1 = true then (Fo2 [.val d, .non, .non, .non] p.2).bind fun q => if noLists q.1 = true then (match G [.non, .own [.list p.1], .val (.list q.1), .non] q.2 with | some (.own cs, s') => some (cs, s') | _ => none) else none else none
  | _ => none
theorem gL_inv {Fo1 Fo2 : FO} {G : GS} {ds : List D} {s : Sx} {r : List D × Sx} (h : gL Fo1 Fo2 G ds s = some r) : ∃ d xs s1 zs s2, ds = [d] ∧ Fo1 [.val d, .non, .non, .non] s = some (xs, s1) ∧ noLists xs = true ∧ Fo2 [.val d, .non, .non, .non] s1 = some (zs, s2) ∧ noLists zs = true ∧ G [.non, .own [.list xs], .val (.list zs), .non] s2 = some (.own r.1, r.2) := by
  unfold gL at h
  split at h
  · refine bnd1 h fun p e1 h => ?_
    split at h
    · refine bnd1 h fun q e2 h => ?_
      split at h
      · split at h
        · rename_i e3
          cases h
          exact ⟨_, p.1, p.2, q.1, q.2, rfl, e1, by assumption, e2, by assumption, e3⟩
        · cases h
      · cases h
    · cases h
  · cases h
theorem fnL {P : Program} {w : World} {K : PySem.W.Frag} {mg : Str → Option Value} {base : Heap} {x qual n0 n1 n2 n3 : Str} {st : Stmt} {f : Addr} {fd : FuncData} {k : Nat} {Fo1 Fo2 : FO} {G : GS} (Fn : Fun K x qual st f fd) (S : FnScope [n0, n1, n2, n3] [n0] (defScope st))
    (hbody : ∀ (cdv : Value) (A : Around) (outer : List Env) (s : Shared) (H : Hp) (E : XK), Room k (A.deeper (envOfC qual (defScope st) s.heap.objs.size f cdv)) → ∀ Z B C, PSs (cxOf CX0 P w K mg base [n0, n1, n2, n3] qual (defScope st) f cdv A outer s H E).nox (defBody st)
      (tSeq (tAsg (tLst (tCons (tDF (cxOf CX0 P w K mg base [n0, n1, n2, n3] qual (defScope st) f cdv A outer s H E).nox Z B Fo1) tNil)) (gName 1)) (tSeq (tAsg (tDF (cxOf CX0 P w K mg base [n0, n1, n2, n3] qual (defScope st) f cdv A outer s H E).nox Z B Fo2) (gName 2)) (tDS (cxOf CX0 P w K mg base [n0, n1, n2, n3] qual (defScope st) f cdv A outer s H E).nox Z C G)))) :
    FnOk P w K mg base CX0 (k + 1) f fd [n0] (spL K (gL Fo1 Fo2 G)) := by
  refine Fn.ok S (fun vs H Q E h => ?_) (fun cdv A outer s H vs Q E hr h => ?_)
  · obtain ⟨Z, A, L, ds, s, cs, s', r, _, _, _, e, _⟩ := h
    obtain ⟨d, xs, s1, zs, s2, rfl, _⟩ := gL_inv e
    rw [r.length]; rfl
  · obtain ⟨Z, A0, L, ds, st0, cs, st1, r, hA, hL, hS, e, q⟩ := h
    obtain ⟨d, xs, s1, zs, s2, rfl, e1, nx, e2, nz, e3⟩ := gL_inv e
    refine ⟨_, hbody cdv A outer s H E hr Z A0 (A0 ++ L), ?_⟩
    cases r with
    | cons r rr =>
      cases rr
      rename_i v0
      have hst : L2.start [n0, n1, n2, n3] [v0] = [some v0, none, none, none] := rfl
      rw [hst]
      have R : ∀ (y : Option V) (H' : Hp), Ext Z H H' → RepS K H Z A0 [] [some v0, y, none, none] [.val d, .non, .non, .non] H' := fun y H' x => {
        ok := fun q hq => ⟨let ⟨o, h⟩ := (hA q hq).1; ⟨o, x q o h (hA q hq).2⟩, (hA q hq).2⟩
        ext := x
        len := rfl
        val := fun i d' h => by
          match i, h with
          | 0, h => cases h; exact ⟨v0, rfl, by rw [List.map_nil, List.append_nil]; exact r.ext x⟩
          | 1, h => cases h
          | 2, h => cases h
          | 3, h => cases h
        own := fun i xs h => by
          match i, h with
          | 0, h => cases h
          | 1, h => cases h
          | 2, h => cases h
          | 3, h => cases h
        ows := fun i p h => nomatch h
        inj := fun i j p h => nomatch h }
      refine ⟨H, [], _, st0, xs, s1, R none H (Ext.refl H), hS, e1, fun p0 ws H1 x1 S1 f0 h0 r0 => ?_⟩
      refine ⟨(by show 1 ≤ sizeLine; decide), fun pc hpc => ?_⟩
      have x2 : Ext Z H (upd H1 pc (.lst [.ref p0])) := x1.trans (Ext.upd hpc)
      refine ⟨H, [], _, s1, zs, s2, R _ _ x2, S1.upd hpc, e2, fun p2 ys H3 x3 S3 f2 h2 r2 => ?_⟩
      have z0 : NotZ Z p0 := hS.notZ f0
      have zc : NotZ Z pc := S1.notZ hpc
      have z2 : NotZ Z p2 := (S1.upd hpc).notZ f2
      have fc : H pc = none := none_of_ext x1 S1 hpc
      have hc2 : upd H1 pc (.lst [.ref p0]) pc = some (.lst [.ref p0]) := upd_same
      have n0c : p0 ≠ pc := ne_of_none h0 hpc
      have h02 : upd H1 pc (.lst [.ref p0]) p0 = some (.lst ws) := by rw [upd_ne n0c]; exact h0
      have hc3 := x3 _ _ hc2 zc
      have h03 := x3 _ _ h02 z0
      have n2c : p2 ≠ pc := fun z => by rw [z, hc2] at f2; cases f2
      have xx : Ext Z H H3 := x2.trans x3
      have fr2 : H p2 = none := none_of_ext x2 (S1.upd hpc) f2
      have hok : ∀ q ∈ A0 ++ L, (∃ o, H q = some o) ∧ NotZ Z q := fun q hq => by
        rcases List.mem_append.mp hq with h | h
        · exact hA q h
        · obtain ⟨⟨u, hu⟩, z⟩ := hL q h
          exact ⟨⟨_, hu⟩, z⟩
      have nin : ∀ p, H p = none → ¬ p ∈ A0 ++ L := fun p hp m => by
        obtain ⟨⟨o, h⟩, _⟩ := hok p m
        rw [hp] at h; cases h
      have lB : ∀ q ∈ L ++ [pc], ∃ vs, H3 q = some (.lst vs) := fun q hq => by
        rcases List.mem_append.mp hq with h | h
        · obtain ⟨⟨u, hu⟩, z⟩ := hL q h
          exact ⟨u, xx _ _ hu z⟩
        · rw [List.mem_singleton.mp h]; exact ⟨_, hc3⟩
      have rx : Reps K Z H3 (A0 ++ L ++ [pc]) ws xs := by
        have := (((r0.sub (A' := A0) fun q hq => List.mem_cons_of_mem _ (List.mem_append_left _ hq)).ext (Ext.upd (o := .lst [.ref p0]) hpc)).ext x3).off lB nx
        rwa [← List.append_assoc] at this
      have rz : Reps K Z H3 (A0 ++ L ++ [pc]) ys zs := by
        have := (r2.sub (A' := A0) fun q hq => List.mem_cons_of_mem _ (List.mem_append_left _ hq)).off lB nz
        rwa [← List.append_assoc] at this
      have off : ∀ p, H p = none → p ≠ pc → ¬ p ∈ A0 ++ L ++ [pc] := fun p hp hn m => by
        rcases List.mem_append.mp m with h | h
        · exact nin p hp h
        · exact hn (List.mem_singleton.mp h)
      refine ⟨[(1, pc)], [.non, .own [.list xs], .val (.list zs), .non], s2, .own cs, st1, ?_, S3, e3, fun p us H' x S h hh rs => q p us H' x S h hh rs⟩
      exact {
        ok := fun q hq => ⟨let ⟨o, h⟩ := (hok q hq).1; ⟨o, xx q o h (hok q hq).2⟩, (hok q hq).2⟩
        ext := xx
        len := rfl
        val := fun i d' h => by
          match i, h with
          | 0, h => cases h
          | 1, h => cases h
          | 2, h => cases h; exact ⟨.ref p2, rfl, .lst h2 (off p2 fr2 n2c) z2 rz⟩
          | 3, h => cases h
        own := fun i xs' h => by
          match i, h with
          | 0, h => cases h
          | 1, h => cases h; exact ⟨pc, [.ref p0], List.mem_singleton.mpr rfl, rfl, hc3, .cons (.lst h03 (off p0 f0 n0c) z0 rx) .nil⟩
          | 2, h => cases h
          | 3, h => cases h
        ows := fun i p h => by
          cases List.mem_singleton.mp h
          exact ⟨fc, ⟨_, hc3⟩, zc, nin pc fc⟩
        inj := fun i j p h1 h2 => by
          cases List.mem_singleton.mp h1
          cases List.mem_singleton.mp h2
          rfl }
inductive CalL (P : Program) (w : World) (K : PySem.W.Frag) (mg : Str → Option Value) (base : Heap) (x : Str) (ps : List Str) (k : Nat) (g : List D → Sx → Option (List D × Sx)) : Prop
  | mk (f : Addr) (fd : FuncData) (h0 : FnOk P w K mg base CX0 k f fd ps (spL K g)) (h1 : mg x = some (.ref f)) (h2 : PySem.W.keepIn K (.ref f) = true) (h3 : Binds K fd ps [])
noncomputable def flat : D → Bool
  | .list xs => noLists xs && decide (xs.length ≤ 100)
  | _ => false
theorem flat_inv {d : D} (h : flat d = true) : ∃ xs, d = .list xs ∧ xs.length ≤ 100 := by
  unfold flat at h
  split at h
  · exact ⟨_, rfl, of_decide_eq_true ((Bool.and_eq_true _ _).mp h).2⟩
  · cases h
noncomputable def noOwC : Ce → Bool
  | .own _ => false
  | _ => true
noncomputable def sBlk (i j : Nat) (g : List D → Sx → Option (List D × Sx)) (FL : FA) (Ft : FT) : GS := fun δ s => (FL δ s).bind fun p => (g p.1 p.2).bind fun r =>
  if (r.1.all flat && (decide (r.1.length ≤ 100) && (δ.all noOwC && (decide (i ≠ j) && (decide (i < δ.length) && decide (j < δ.length)))))) = true then (Ft (δ.set i (.val (.list r.1))) r.2).bind fun t => if t.1 = true then some (.ret (.bool false), t.2) else some (.next ((δ.set i .non).set j .non), t.2) else none
theorem RepS.forget {K : PySem.W.Frag} {B : Hp} {Z : Zt} {A : List Addr} {ow : Ow} {σ σ' : L2.St} {δ : Sl} {H : Hp} {i j : Nat} (R : RepS K B Z A ow σ δ H) (hl : σ'.length = σ.length) (hσ : ∀ t, t ≠ i → t ≠ j → σ'[t]? = σ[t]?) (hn : δ.all noOwC = true) : RepS K B Z A ow σ' ((δ.set i .non).set j .non) H where
  ok := R.ok
  ext := R.ext
  len := by rw [List.length_set, List.length_set, R.len, hl]
  val := fun t d h => by
    by_cases tj : j = t
    · rw [List.getElem?_set] at h
      rw [if_pos tj] at h
      split at h <;> cases h
    · rw [List.getElem?_set_ne tj] at h
      by_cases ti : i = t
      · rw [List.getElem?_set, if_pos ti] at h
        split at h <;> cases h
      · rw [List.getElem?_set_ne ti] at h
        obtain ⟨v, a, b⟩ := R.val t d h
        exact ⟨v, by rw [hσ t (Ne.symm ti) (Ne.symm tj)]; exact a, b⟩
  own := fun t xs h => by
    exfalso
    by_cases tj : j = t
    · rw [List.getElem?_set] at h
      rw [if_pos tj] at h
      split at h <;> cases h
    · rw [List.getElem?_set_ne tj] at h
      by_cases ti : i = t
      · rw [List.getElem?_set, if_pos ti] at h
        split at h <;> cases h
      · rw [List.getElem?_set_ne ti] at h
        have := List.all_eq_true.mp hn _ (List.mem_of_getElem? h)
        cases this
  ows := R.ows
  inj := R.inj
section
variable {X : Cx} {sa sb sc sd : Stmt} {rest : List Stmt} {i j : Nat} {g : List D → Sx → Option (List D × Sx)} {FL : FA} {Ft : FT} {G : GS} {Ex : XK}
noncomputable abbrev tWalk (X : Cx) (i j : Nat) : TS := tFor (fun σ H R => tVar i σ H fun x H1 => ∃ a, x = .ref a ∧ (((∃ xs, SqL X.K H1 a xs) ∧ R (Itl X.K a) H1) ∨ ((∃ xs, SqT X.K H1 a xs) ∧ R (Itt X.K a) H1))) (gName j) (tSeq (tDrop (tBM X.K "list" rAppend (tVar j) (tCons (tC .non) tNil))) (tDrop (tBM0 X.K "list" rReverse (tVar j))))
theorem dss_blk (ha : ∀ Z A, PS X sa (tAsg (tCall (spL X.K g) [] Ex (tDA X Z A FL)) (gName i))) (hb : ∀ Z A, PS X sb (tIfS (tDT X Z A Ft) (tDS X Z A (sRet (fC (.bool false)))) tNext)) (hc : PS X sc (tWalk X i j)) (hd : PS X sd (tDrop (tBM0 X.K "list" rReverse (tVar i)))) (hr : DSs X rest G) :
    DSs X (sa :: sb :: sc :: sd :: rest) (sSeq (sBlk i j g FL Ft) G) := ⟨fun Z A pins s σ H E I x__136 => by
  obtain ⟨ow, δ, st, o, st', R, S, e, q⟩ := x__136
  obtain ⟨L, hL1, hL2⟩ : ∃ L : List Addr, (∀ q ∈ L, (∃ ws, H q = some (.lst ws)) ∧ NotZ Z q) ∧ ∀ q ws, H q = some (.lst ws) → NotZ Z q → q ∈ L := by
    classical
    refine ⟨(List.range s.heap.objs.size).filter fun q => decide ((∃ ws, H q = some (.lst ws)) ∧ NotZ Z q), fun q hq => of_decide_eq_true (List.mem_filter.mp hq).2, fun q ws h z => List.mem_filter.mpr ⟨List.mem_range.mpr ?_, decide_eq_true ⟨⟨ws, h⟩, z⟩⟩⟩
    rcases Nat.lt_or_ge q s.heap.objs.size with hh | hh
    · exact hh
    · rw [I.hok.fresh hh] at h; cases h
  refine pss_cons (ha Z A) (pss_cons (hb Z A) (pss_cons hc (pss_cons hd (hr Z A)))) pins s σ H E I ?_
  unfold sSeq at e
  cases eb : sBlk i j g FL Ft δ st with
  | none => rw [eb] at e; cases e
  | some ob =>
    rw [eb] at e
    unfold sBlk at eb
    refine bnd1 eb fun p e1 eb => bnd1 eb fun r e2 eb => ?_
    split at eb
    case isFalse => cases eb
    rename_i hck
    simp only [Bool.and_eq_true, decide_eq_true_eq] at hck
    obtain ⟨hfl, hln, hno, hij, hil, hjl⟩ := hck
    refine bnd1 eb fun t e3 eb => ?_
    have hil' : i < σ.length := by rw [← R.len]; exact hil
    have hjl' : j < σ.length := by rw [← R.len]; exact hjl
    refine ⟨_, ow, δ, st, p.1, p.2, R, S, e1, fun vs H1 x1 S1 rs => ?_⟩
    show spL X.K g (vs ++ []) H1 _ _
    rw [List.append_nil]
    have hA : ∀ q ∈ A ++ ow.map (·.2), (∃ o, H1 q = some o) ∧ NotZ Z q := fun q hq => by
      refine ⟨(R.mono x1).all q hq, ?_⟩
      rcases List.mem_append.mp hq with h | h
      · exact (R.ok q h).2
      · obtain ⟨⟨k, p⟩, hp, rfl⟩ := List.mem_map.mp h
        exact (R.ows k p hp).2.2.1
    refine ⟨Z, A ++ ow.map (·.2), L, p.1, p.2, r.1, r.2, rs, hA, fun q hq => ?_, S1, e2, fun pf us H2 x2 S2 fp hpf rus => ?_⟩
    · obtain ⟨⟨ws, h⟩, z⟩ := hL1 q hq
      exact ⟨⟨ws, x1 _ _ h z⟩, z⟩
    have zpf : NotZ Z pf := S1.notZ fp
    have fpf : H pf = none := none_of_ext x1 S1 fp
    have npf : ¬ pf ∈ A ++ ow.map (·.2) := fun m => by
      obtain ⟨⟨o', h⟩, _⟩ := hA pf m
      rw [fp] at h; cases h
    obtain ⟨R1, f1⟩ := ((R.mono x1).mono x2).set (i := i) (v := .ref pf) (d := .list r.1) (.lst hpf npf zpf (rus.sub fun q hq => List.mem_cons_of_mem _ (List.mem_append_left _ hq)))
    refine ⟨_, _, _, r.2, t.1, t.2, R1, S2, e3, fun H3 x3 S3 => ?_⟩
    have x13 : Ext Z H H3 := (x1.trans x2).trans x3
    by_cases ht : t.1 = true
    · rw [if_pos ht] at eb ⊢
      cases eb
      cases e
      exact ⟨_, _, t.2, _, _, R1.mono x3, S3, rfl, q⟩
    · rw [if_neg ht] at eb ⊢
      cases eb
      have hpf3 := x3 _ _ hpf zpf
      have hP : ∀ (k : Nat) v, us[k]? = some v → ∃ p vs, v = .ref p ∧ H3 p = some (.lst vs) ∧ vs.length ≤ 100 ∧ H p = none ∧ p ≠ pf ∧ NotZ Z p := fun k v hv => by
        obtain ⟨d, hd', rp⟩ := rus.at hv
        obtain ⟨xs, rfl, hx⟩ := flat_inv (List.all_eq_true.mp hfl d (List.mem_of_getElem? hd'))
        cases rp with
        | lst h n z rr =>
          rename_i p1 vs1
          refine ⟨p1, vs1, rfl, x3 _ _ h z, by rw [rr.length]; exact hx, ?_, fun z' => n (z' ▸ List.mem_cons_self), z⟩
          cases eH : H p1 with
          | none => rfl
          | some o' =>
            have h' := (x1.trans x2) p1 o' eH z
            rw [h] at h'
            cases h'
            exact absurd (List.mem_cons_of_mem _ (List.mem_append_right _ (hL2 p1 _ eH z))) n
      have big : 300 < sizeLine := by decide
      have ulen : us.length ≤ 100 := by rw [rus.length]; exact hln
      refine ⟨.ref pf, by rw [List.getElem?_set_self hil'], pf, rfl, .inl ⟨⟨us, .of hpf3⟩, fun k m σ' H' => m = us.length - k ∧ k ≤ us.length ∧ σ'.length = σ.length ∧ (∀ t, t ≠ i → t ≠ j → σ'[t]? = σ[t]?) ∧ σ'[i]? = some (some (.ref pf)) ∧ H' pf = some (.lst us) ∧ (∀ p vs, H3 p = some (.lst vs) → vs.length ≤ 100 → H p = none → p ≠ pf → ∃ ws, H' p = some (.lst ws) ∧ ws.length ≤ 100 + k) ∧ Ext Z H H' ∧ StateAt Z H' t.2,
        ⟨us.length, rfl, Nat.zero_le _, List.length_set .., fun t h1 h2 => List.getElem?_set_ne (Ne.symm h1), List.getElem?_set_self hil', hpf3, fun p vs h1 h2 h3 h4 => ⟨vs, h1, by omega⟩, x13, S3⟩, ?_⟩⟩
      rintro k m σ2 H4 ⟨rfl, hk, hl, hσ, hi4, hp4, hP4, x4, S4⟩
      by_cases hlt : k < us.length
      · refine .inr ⟨⟨us, us[k], .of hp4, List.getElem?_eq_getElem hlt⟩, fun σ' H' => σ'.length = σ.length ∧ (∀ t, t ≠ i → t ≠ j → σ'[t]? = σ[t]?) ∧ σ'[i]? = some (some (.ref pf)) ∧ H' pf = some (.lst us) ∧ (∀ p vs, H3 p = some (.lst vs) → vs.length ≤ 100 → H p = none → p ≠ pf → ∃ ws, H' p = some (.lst ws) ∧ ws.length ≤ 100 + (k + 1)) ∧ Ext Z H H' ∧ StateAt Z H' t.2,
          fun σ' H' h => ⟨us.length - (k + 1), by omega, rfl, hlt, h⟩, fun x H5 ⟨eH, ex⟩ => ?_⟩
        subst eH
        have ex := ex us (.of hp4)
        obtain ⟨p, vs, rfl, h3, hlv, hHp, hne, hz⟩ := hP k x ex
        obtain ⟨ws, hw, lw⟩ := hP4 p vs h3 hlv hHp hne
        have hjs : (σ2.set j (some (V.ref p)))[j]? = some (some (.ref p)) := List.getElem?_set_self (by rw [hl]; exact hjl')
        refine ⟨.ref p, hjs, .inl ⟨rfl, _, SqL.of hw⟩, p, ws, .non, rfl, rfl, hw, by omega, ?_⟩
        refine ⟨.ref p, hjs, .inl ⟨rfl, _, SqL.of upd_same⟩, p, _, rfl, rfl, upd_same, ?_⟩
        have keep : ∀ (o1 o2 : HO) b u, H5 b = some u → b ≠ p → upd (upd H5 p o1) p o2 b = some u := fun o1 o2 b u h n => by rw [upd_ne n, upd_ne n]; exact h
        refine ⟨by rw [List.length_set]; exact hl, fun t h1 h2 => by rw [List.getElem?_set_ne (Ne.symm h2)]; exact hσ t h1 h2, by rw [List.getElem?_set_ne (Ne.symm hij)]; exact hi4, keep _ _ _ _ hp4 (Ne.symm hne), fun p' vs' a1 a2 a3 a4 => ?_, fun b u hb nb => keep _ _ _ _ (x4 b u hb nb) (fun z => by rw [z, hHp] at hb; cases hb), (S4.chg hz).chg hz⟩
        by_cases pp : p' = p
        · subst pp
          exact ⟨_, upd_same, by rw [List.length_reverse, List.length_append]; show ws.length + 1 ≤ _; omega⟩
        · obtain ⟨ws', hw', lw'⟩ := hP4 p' vs' a1 a2 a3 a4
          exact ⟨ws', keep _ _ _ _ hw' pp, by omega⟩
      · refine .inl ⟨⟨us, .of hp4, by omega⟩, ?_⟩
        refine ⟨.ref pf, hi4, .inl ⟨rfl, _, SqL.of hp4⟩, pf, us, rfl, rfl, hp4, ?_⟩
        have xf : Ext Z H (upd H4 pf (.lst us.reverse)) := fun b u hb nb => by
          rw [upd_ne (fun z => by rw [z, fpf] at hb; cases hb)]
          exact x4 b u hb nb
        exact ⟨ow, _, t.2, o, st', (R.mono xf).forget hl hσ hno, S4.chg zpf, e, q.frm (Frm.ext xf)⟩⟩
theorem bl_a {x fx : Str} {e : Expr} {es : List Expr} {k k' : Nat} {ps : List Str} {p pos pos' cpos : Pos} (hN : X.N.Nodup) (C : CalL X.prog X.w X.K X.mg X.base x ps k g) (hr : Room k' X.A) (ha : DA X (e :: es) FL) (hk : k ≤ k' := by decide) (hg : Gl X x := by rfl) (hdb : (x == ("__debug__" : Str)) = false := by decide)
    (he : starEach (e :: es) X.env = (false, eval e X.env) :: starEach es X.env := by rfl) (hpl : (backTo cpos (starEach es X.env)).any (·.1) = false := by rfl) (hi : X.N[i]? = some fx := by rfl) (hx : Loc X.env.scope fx := by first | exact Or.inl rfl | exact Or.inr rfl)
    (hs : swapsWith (.Call (.Name x p) (e :: es) [] cpos) (some (.Name fx pos')) pos.line X.env = pure false := by rfl) (hf : X.fn fx = true ∨ X.env.scope.names.lookup fx = some .local := by first | exact .inl rfl | exact .inr rfl | assumption) :
    ∀ Z A, PS X (.Assign [.Name fx pos'] (.Call (.Name x p) (e :: es) [] cpos) pos) (tAsg (tCall (spL X.K g) [] E0 (tDA X Z A FL)) (gName i)) := by
  obtain ⟨f, fd, G, hm, hk', hb⟩ := C
  exact fun Z A => ps_set hN hi hx (pe_call G (hr.mono hk) hg hm hk' hb .nil pass0 (ha Z A) hdb he hpl) hs hf
theorem bl_b {c : Expr} {body : List Stmt} {pos : Pos} (hc : DT X c Ft) (hb : DSs X body (sRet (fC (.bool false)))) : ∀ Z A, PS X (.If c body [] pos) (tIfS (tDT X Z A Ft) (tDS X Z A (sRet (fC (.bool false)))) tNext) := fun Z A => ps_if (hc Z A) (hb Z A) pss_nil
theorem bl_c {cx fx : Str} {pc px p1 p2 p3 a1 a2 c1 c2 e1 e2 pos : Pos} {j1} (hN : X.N.Nodup) (hv : PE X (.Name fx px) (tVar i)) (hv1 : PE X (.Name cx p1) (tVar j)) (hv2 : PE X (.Name cx p2) (tVar j)) (hi : X.N[j]? = some cx := by rfl) (hx : Loc X.env.scope cx := by first | exact Or.inl rfl | exact Or.inr rfl)
    (hf : X.fn cx = true ∨ X.env.scope.names.lookup cx = some .local := by first | exact .inl rfl | exact .inr rfl | assumption) (hp : PassesOwn (model X.prog X.w) X.A X.env X.xe := by exact PassesOwn.never) (hc : X.calm = true := by rfl) (hfs : ∀ y, foldedSetIterable (.Name fx px) X.env y = pure y := by intro _; rfl)
    (hbase : attributeBase (.Name cx p1) "append" X.env (eval (.Name cx p1) X.env) = eval (.Name cx p1) X.env := by rfl)
    (hfew : ((backTo c1 (starEach [.Constant .none j1 p3] X.env)).all (fun x => !x.1) && (backToKw c1 (keywordEach [] X.env)).all (fun x => x.1.isSome) && decide (([.Constant .none j1 p3] : List Expr).length + ([] : List Keyword).length + (if ([] : List Keyword).isEmpty then 0 else 1) < 30)) = true := by rfl)
    (hline : (a1.endLine == c1.line) = true := by rfl) (hs : starEach [.Constant .none j1 p3] X.env = (false, eval (.Constant .none j1 p3) X.env) :: starEach [] X.env := by rfl)
    (hsw : swapsWith (.Call (.Attribute (.Name cx p1) "append" a1) [.Constant .none j1 p3] [] c1) none e1.line X.env = pure false := by rfl)
    (hbase2 : attributeBase (.Name cx p2) "reverse" X.env (eval (.Name cx p2) X.env) = eval (.Name cx p2) X.env := by rfl) (hline2 : (a2.endLine == c2.line) = true := by rfl)
    (hsw2 : swapsWith (.Call (.Attribute (.Name cx p2) "reverse" a2) [] [] c2) none e2.line X.env = pure false := by rfl) :
    PS X (.For (.Name cx pc) (.Name fx px) [.Expr (.Call (.Attribute (.Name cx p1) "append" a1) [.Constant .none j1 p3] [] c1) e1, .Expr (.Call (.Attribute (.Name cx p2) "reverse" a2) [] [] c2) e2] [] pos) (tWalk X i j) :=
  ps_for hp hc (pi_seq hv) (pg_name hN hi hx hf) (pss_cons (ps_expr (pe_bm PySem.F.plainAttrs_list PySem.F.slot_list_append PySem.F.type_list_append mt_append hv1 (pa_cons pe_non pa_nil hs) hbase hfew hline hs rfl) hsw) (pss_one (ps_expr (pe_bm0 PySem.F.plainAttrs_list PySem.F.slot_list_reverse PySem.F.type_list_reverse mt_reverse hv2 hbase2 hline2) hsw2))) hfs
theorem bl_d {fx : Str} {px apos cpos pos : Pos} (hv : PE X (.Name fx px) (tVar i)) (hbase : attributeBase (.Name fx px) "reverse" X.env (eval (.Name fx px) X.env) = eval (.Name fx px) X.env := by rfl) (hline : (apos.endLine == cpos.line) = true := by rfl)
    (hsw : swapsWith (.Call (.Attribute (.Name fx px) "reverse" apos) [] [] cpos) none pos.line X.env = pure false := by rfl) : PS X (.Expr (.Call (.Attribute (.Name fx px) "reverse" apos) [] [] cpos) pos) (tDrop (tBM0 X.K "list" rReverse (tVar i))) :=
  ps_expr (pe_bm0 PySem.F.plainAttrs_list PySem.F.slot_list_reverse PySem.F.type_list_reverse mt_reverse hv hbase hline) hsw
end
end L3

set_option maxHeartbeats 4000000
namespace Law
open PySem L2 L3 PyProof.Rows
noncomputable def top (i : Nat) : Stmt := PySem.Challenge.pw_farquotient_k41_columns_of_a_ladder.main.body.getD i (.Pass ⟨0, 0, 0, 0⟩)
noncomputable abbrev s_greatest_divisor : Stmt := top 5
noncomputable abbrev s_leapt : Stmt := top 6
noncomputable abbrev s_number : Stmt := top 7
noncomputable abbrev s_plus : Stmt := top 8
noncomputable abbrev s_minus : Stmt := top 9
noncomputable abbrev s_summed : Stmt := top 10
noncomputable abbrev s_times : Stmt := top 11
noncomputable abbrev s_over : Stmt := top 12
noncomputable abbrev s_sums_of : Stmt := top 14
noncomputable abbrev s_ladder : Stmt := top 15
noncomputable abbrev s_next_column : Stmt := top 16
noncomputable abbrev s_step_up : Stmt := top 17
noncomputable abbrev s__law_begin : Stmt := top 19
noncomputable abbrev s__law_take : Stmt := top 20
noncomputable abbrev s__law_same : Stmt := top 21
noncomputable abbrev s__law_part : Stmt := top 22
noncomputable abbrev s__law_plus : Stmt := top 23
noncomputable abbrev s__law_minus : Stmt := top 24
noncomputable abbrev s__law_times : Stmt := top 25
noncomputable abbrev s__law_over : Stmt := top 26
noncomputable abbrev s__law_number : Stmt := top 27
noncomputable abbrev s__law_small : Stmt := top 28
noncomputable abbrev s__law_trimmed : Stmt := top 29
noncomputable abbrev s__law_series : Stmt := top 30
noncomputable abbrev s__law_two_polys : Stmt := top 31
noncomputable abbrev s__law_any : Stmt := top 32
noncomputable abbrev s__law_row : Stmt := top 33
noncomputable abbrev s__law_rung : Stmt := top 34
noncomputable abbrev s__law_columns : Stmt := top 35
noncomputable abbrev s__law_places : Stmt := top 36
noncomputable abbrev s__law_x : Stmt := top 37
noncomputable abbrev s__law_some_sums : Stmt := top 38
noncomputable abbrev s_law : Stmt := top 39
section
variable {P : Program} {w : World} {K : PySem.W.Frag} {mg : Str → Option Value} {base : Heap}
inductive Is (K : PySem.W.Frag) (mg : Str → Option Value) (x : Str) (st : Stmt) : Prop
  | mk (f : Addr) (fd : FuncData) (h0 : Fun K x x st f fd) (h1 : mg x = some (.ref f))
inductive FD (K : PySem.W.Frag) (x : Str) (st : Stmt) : Prop
  | mk {f : Addr} {od an : Option Addr} {sl : Array (Option Value)} {oc kV dc pm cd ct : Value} (a : PySem.W.nsIn K mainGlobals x = some (some (.ref f))) (l : K.lookup f = some ⟨oc, od, .func (PySem.W.fnOf x x (defArgs st) (defBody st) (defScope st) .none kV dc pm an cd ct), sl⟩) (c : PySem.W.codeIn K cd x = true) (k : PySem.W.keepIn K (.ref f) = true) : FD K x st
theorem FD.is {h : Heap} {x : Str} {st : Stmt} (X : K.In h) (G : h.Ns mainGlobals mg) (d : FD K x st) : Is K mg x st := by
  cases d with
  | mk a l c k => exact ⟨_, _, fun_mk (st := st) l c k, PySem.W.mg_of X G a⟩
noncomputable def g_leapt : GF := fun _ _ => none
theorem ok_leapt (hf : Is K mg "leapt" s_leapt) : Cal P w K mg base "leapt" ["one", "other"] 1 g_leapt := by
    obtain ⟨f, fd, F, hm⟩ := hf
    exact ⟨f, fd, ⟨fun _ _ _ _ h => (spD_none h).elim, fun _ _ _ _ _ _ _ _ _ _ _ _ _ h => (spD_none h).elim⟩, hm, F.kp, F.binds fun _ _ _ _ _ _ us hl => by obtain ⟨a0, a1, rfl⟩ := len2 (show us.length = 2 from hl); rfl⟩
theorem sc_greatest_divisor : FnScope ["one", "other"] ["one", "other"] (defScope s_greatest_divisor) := ⟨rfl, rfl, rfl, by decide +kernel, rfl, by decide +kernel, by decide +kernel⟩
noncomputable def W_greatest_divisor_1 : GS := sWhile (asB (f2 gGt (f1 gBits (fVar 1)) (fC (.int 2000)))) (sUnp (.tup [0, 1]) (fCall g_leapt (aCons (fVar 0) (aCons (fVar 1) aNil))))
noncomputable def W_greatest_divisor_2 : GS := sWhile (asT (fVar 1)) (sPar 0 1 (aCons (fVar 1) (aCons (f2 gModI (fVar 0) (fVar 1)) aNil)))
noncomputable def G_greatest_divisor : GS := (sSeq (sPar 0 1 (aCons (f1 gAbs (fVar 0)) (aCons (f1 gAbs (fVar 1)) aNil)))
  (sSeq (sIf (asB (f2 gLt (fVar 0) (fVar 1))) (sPar 0 1 (aCons (fVar 1) (aCons (fVar 0) aNil))) sNext)
  (sSeq W_greatest_divisor_1
  (sSeq W_greatest_divisor_2
  (sRet (fVar 0))))))
noncomputable def g_greatest_divisor : GF := mkFn 2 0 G_greatest_divisor
theorem ok_greatest_divisor (hf : Is K mg "greatest_divisor" s_greatest_divisor) (h_leapt : Cal P w K mg base "leapt" ["one", "other"] 1 g_leapt) (n_abs : mg "abs" = none) (c_GREAT_BITS : Cst K mg "GREAT_BITS" (.int 2000)) : Cal P w K mg base "greatest_divisor" ["one", "other"] 2 g_greatest_divisor := by
  obtain ⟨f, fd, F, hm⟩ := hf
  have nd := sc_greatest_divisor.nd
  exact ⟨f, fd, fnD F sc_greatest_divisor rfl (fun cdv A outer s H E hr => (dss_cons (ds_par (i := 0) (j := 1) nd (by decide) (da_cons (de_b1 dc_abs (by first | rfl | decide +kernel) n_abs (dv 0).w) (da_cons (de_b1 dc_abs (by first | rfl | decide +kernel) n_abs (dv 1).w) da_nil)) (by first | rfl | with_unfolding_all rfl))
      (dss_cons (ds_if (dt_cmp dlt (dv 0).w (dv 1).w (nomark _)) (dss_one (ds_par (i := 0) (j := 1) nd (by decide) (da_cons (dv 1) (da_cons (dv 0) da_nil)) (by first | rfl | with_unfolding_all rfl))) dss_nil)
      (dss_cons (ds_while (dt_cmp dgt (de_bits (dv 1).w).w (de_con c_GREAT_BITS).w (nomark _)) (dss_one (ds_asg (de_cal h_leapt hr (da_cons (dv 0) (da_cons (dv 1) da_nil))) (dg_tup (pgn_cons (i := 0) nd (pgn_cons (i := 1) nd pgn_nil))))))
      (dss_cons (ds_while (dt_tru (dv 1).w (fun _ => rfl)) (dss_one (ds_par (i := 0) (j := 1) nd (by decide) (da_cons (dv 1) (da_cons (de_op dmod_int (dv 0).w (dv 1).w) da_nil)) (by first | rfl | with_unfolding_all rfl))))
      (dss_one (ds_ret (dv 0)))))))), hm, F.kp, F.binds fun _ _ _ _ _ _ us hl => by obtain ⟨a0, a1, rfl⟩ := len2 (show us.length = 2 from hl); rfl⟩
theorem sc_number : FnScope ["top", "below", "divisor"] ["top", "below"] (defScope s_number) := ⟨rfl, rfl, rfl, by decide +kernel, rfl, by decide +kernel, by decide +kernel⟩
noncomputable def G_number : GS := (sSeq (sSet 2 (fCall g_greatest_divisor (aCons (fVar 0) (aCons (fVar 1) aNil))))
  (sSeq (sIf (asB (f2 gLt (fVar 1) (fC (.int 0)))) (sSet 2 (f1 gNeg (fVar 2))) sNext)
  (sRet (eTup (aCons (f2 gDivI (fVar 0) (fVar 2)) (aCons (f2 gDivI (fVar 1) (fVar 2)) aNil))))))
noncomputable def g_number : GF := mkFn 2 1 G_number
theorem ok_number (hf : Is K mg "number" s_number) (h_greatest_divisor : Cal P w K mg base "greatest_divisor" ["one", "other"] 2 g_greatest_divisor) : Cal P w K mg base "number" ["top", "below"] 3 g_number := by
  obtain ⟨f, fd, F, hm⟩ := hf
  have nd := sc_number.nd
  exact ⟨f, fd, fnD F sc_number rfl (fun cdv A outer s H E hr => (dss_cons (ds_set (i := 2) nd (de_cal h_greatest_divisor hr (da_cons (dv 0) (da_cons (dv 1) da_nil))))
      (dss_cons (ds_if (dt_cmp dlt (dv 1).w (de_int).w (nomark _)) (dss_one (ds_set (i := 2) nd (de_neg (dv 2).w))) dss_nil)
      (dss_one (ds_ret (de_tup (da_cons (de_op ddiv_int (dv 0).w (dv 2).w) (da_cons (de_op ddiv_int (dv 1).w (dv 2).w) da_nil)))))))), hm, F.kp, F.binds fun _ _ _ _ _ _ us hl => by obtain ⟨a0, a1, rfl⟩ := len2 (show us.length = 2 from hl); rfl⟩
theorem sc_summed : FnScope ["top", "below", "other_top", "other_below", "shared", "rest", "total", "shared_left"] ["top", "below", "other_top", "other_below"] (defScope s_summed) := ⟨rfl, rfl, rfl, by decide +kernel, rfl, by decide +kernel, by decide +kernel⟩
noncomputable def G_summed : GS := (sSeq (sSet 4 (fCall g_greatest_divisor (aCons (fVar 1) (aCons (fVar 3) aNil))))
  (sSeq (sSet 5 (f2 gDivI (fVar 1) (fVar 4)))
  (sSeq (sSet 6 (f2 gAdd (f2 gMulI (fVar 0) (f2 gDivI (fVar 3) (fVar 4))) (f2 gMulI (fVar 2) (fVar 5))))
  (sSeq (sUnp (.tup [6, 7]) (fCall g_number (aCons (fVar 6) (aCons (fVar 4) aNil))))
  (sRet (eTup (aCons (fVar 6) (aCons (f2 gMulI (f2 gMulI (fVar 5) (f2 gDivI (fVar 3) (fVar 4))) (fVar 7)) aNil))))))))
noncomputable def g_summed : GF := mkFn 4 4 G_summed
theorem ok_summed (hf : Is K mg "summed" s_summed) (h_greatest_divisor : Cal P w K mg base "greatest_divisor" ["one", "other"] 2 g_greatest_divisor) (h_number : Cal P w K mg base "number" ["top", "below"] 3 g_number) : Cal P w K mg base "summed" ["top", "below", "other_top", "other_below"] 4 g_summed := by
  obtain ⟨f, fd, F, hm⟩ := hf
  have nd := sc_summed.nd
  exact ⟨f, fd, fnD F sc_summed rfl (fun cdv A outer s H E hr => (dss_cons (ds_set (i := 4) nd (de_cal h_greatest_divisor hr (da_cons (dv 1) (da_cons (dv 3) da_nil))))
      (dss_cons (ds_set (i := 5) nd (de_op ddiv_int (dv 1).w (dv 4).w))
      (dss_cons (ds_set (i := 6) nd (de_op dadd (de_op dmul_int (dv 0).w (de_op ddiv_int (dv 3).w (dv 4).w).w).w (de_op dmul_int (dv 2).w (dv 5).w).w))
      (dss_cons (ds_asg (de_cal h_number hr (da_cons (dv 6) (da_cons (dv 4) da_nil))) (dg_tup (pgn_cons (i := 6) nd (pgn_cons (i := 7) nd pgn_nil))))
      (dss_one (ds_ret (de_tup (da_cons (dv 6) (da_cons (de_op dmul_int (de_op dmul_int (dv 5).w (de_op ddiv_int (dv 3).w (dv 4).w).w).w (dv 7).w) da_nil)))))))))), hm, F.kp, F.binds fun _ _ _ _ _ _ us hl => by obtain ⟨a0, a1, a2, a3, rfl⟩ := len4 (show us.length = 4 from hl); rfl⟩
theorem sc_plus : FnScope ["one", "other"] ["one", "other"] (defScope s_plus) := ⟨rfl, rfl, rfl, by decide +kernel, rfl, by decide +kernel, by decide +kernel⟩
noncomputable def G_plus : GS := (sRet (fCall g_summed (aCons (f2 gIx (fVar 0) (fC (.int 0))) (aCons (f2 gIx (fVar 0) (fC (.int 1))) (aCons (f2 gIx (fVar 1) (fC (.int 0))) (aCons (f2 gIx (fVar 1) (fC (.int 1))) aNil))))))
noncomputable def g_plus : GF := mkFn 2 0 G_plus
theorem ok_plus (hf : Is K mg "plus" s_plus) (h_summed : Cal P w K mg base "summed" ["top", "below", "other_top", "other_below"] 4 g_summed) : Cal P w K mg base "plus" ["one", "other"] 5 g_plus := by
  obtain ⟨f, fd, F, hm⟩ := hf
  have nd := sc_plus.nd
  exact ⟨f, fd, fnD F sc_plus rfl (fun cdv A outer s H E hr => (dss_one (ds_ret (de_cal h_summed hr (da_cons (de_ix (dv 0).w (de_int).w (fun _ _ => rfl)) (da_cons (de_ix (dv 0).w (de_int).w (fun _ _ => rfl)) (da_cons (de_ix (dv 1).w (de_int).w (fun _ _ => rfl)) (da_cons (de_ix (dv 1).w (de_int).w (fun _ _ => rfl)) da_nil)))))))), hm, F.kp, F.binds fun _ _ _ _ _ _ us hl => by obtain ⟨a0, a1, rfl⟩ := len2 (show us.length = 2 from hl); rfl⟩
theorem sc_minus : FnScope ["one", "other"] ["one", "other"] (defScope s_minus) := ⟨rfl, rfl, rfl, by decide +kernel, rfl, by decide +kernel, by decide +kernel⟩
noncomputable def G_minus : GS := (sRet (fCall g_summed (aCons (f2 gIx (fVar 0) (fC (.int 0))) (aCons (f2 gIx (fVar 0) (fC (.int 1))) (aCons (f1 gNeg (f2 gIx (fVar 1) (fC (.int 0)))) (aCons (f2 gIx (fVar 1) (fC (.int 1))) aNil))))))
noncomputable def g_minus : GF := mkFn 2 0 G_minus
theorem ok_minus (hf : Is K mg "minus" s_minus) (h_summed : Cal P w K mg base "summed" ["top", "below", "other_top", "other_below"] 4 g_summed) : Cal P w K mg base "minus" ["one", "other"] 5 g_minus := by
  obtain ⟨f, fd, F, hm⟩ := hf
  have nd := sc_minus.nd
  exact ⟨f, fd, fnD F sc_minus rfl (fun cdv A outer s H E hr => (dss_one (ds_ret (de_cal h_summed hr (da_cons (de_ix (dv 0).w (de_int).w (fun _ _ => rfl)) (da_cons (de_ix (dv 0).w (de_int).w (fun _ _ => rfl)) (da_cons (de_neg (de_ix (dv 1).w (de_int).w (fun _ _ => rfl)).w) (da_cons (de_ix (dv 1).w (de_int).w (fun _ _ => rfl)) da_nil)))))))), hm, F.kp, F.binds fun _ _ _ _ _ _ us hl => by obtain ⟨a0, a1, rfl⟩ := len2 (show us.length = 2 from hl); rfl⟩
theorem sc_times : FnScope ["one", "other", "left", "right"] ["one", "other"] (defScope s_times) := ⟨rfl, rfl, rfl, by decide +kernel, rfl, by decide +kernel, by decide +kernel⟩
noncomputable def G_times : GS := (sSeq (sPar 2 3 (aCons (fCall g_number (aCons (f2 gIx (fVar 0) (fC (.int 0))) (aCons (f2 gIx (fVar 1) (fC (.int 1))) aNil))) (aCons (fCall g_number (aCons (f2 gIx (fVar 1) (fC (.int 0))) (aCons (f2 gIx (fVar 0) (fC (.int 1))) aNil))) aNil)))
  (sRet (eTup (aCons (f2 gMulI (f2 gIx (fVar 2) (fC (.int 0))) (f2 gIx (fVar 3) (fC (.int 0)))) (aCons (f2 gMulI (f2 gIx (fVar 2) (fC (.int 1))) (f2 gIx (fVar 3) (fC (.int 1)))) aNil)))))
noncomputable def g_times : GF := mkFn 2 2 G_times
theorem ok_times (hf : Is K mg "times" s_times) (h_number : Cal P w K mg base "number" ["top", "below"] 3 g_number) : Cal P w K mg base "times" ["one", "other"] 4 g_times := by
  obtain ⟨f, fd, F, hm⟩ := hf
  have nd := sc_times.nd
  exact ⟨f, fd, fnD F sc_times rfl (fun cdv A outer s H E hr => (dss_cons (ds_par (i := 2) (j := 3) nd (by decide) (da_cons (de_cal h_number hr (da_cons (de_ix (dv 0).w (de_int).w (fun _ _ => rfl)) (da_cons (de_ix (dv 1).w (de_int).w (fun _ _ => rfl)) da_nil))) (da_cons (de_cal h_number hr (da_cons (de_ix (dv 1).w (de_int).w (fun _ _ => rfl)) (da_cons (de_ix (dv 0).w (de_int).w (fun _ _ => rfl)) da_nil))) da_nil)) (by first | rfl | with_unfolding_all rfl))
      (dss_one (ds_ret (de_tup (da_cons (de_op dmul_int (de_ix (dv 2).w (de_int).w (fun _ _ => rfl)).w (de_ix (dv 3).w (de_int).w (fun _ _ => rfl)).w) (da_cons (de_op dmul_int (de_ix (dv 2).w (de_int).w (fun _ _ => rfl)).w (de_ix (dv 3).w (de_int).w (fun _ _ => rfl)).w) da_nil))))))), hm, F.kp, F.binds fun _ _ _ _ _ _ us hl => by obtain ⟨a0, a1, rfl⟩ := len2 (show us.length = 2 from hl); rfl⟩
theorem sc_over : FnScope ["one", "other", "left", "right"] ["one", "other"] (defScope s_over) := ⟨rfl, rfl, rfl, by decide +kernel, rfl, by decide +kernel, by decide +kernel⟩
noncomputable def G_over : GS := (sSeq (sPar 2 3 (aCons (fCall g_number (aCons (f2 gIx (fVar 0) (fC (.int 0))) (aCons (f2 gIx (fVar 1) (fC (.int 0))) aNil))) (aCons (fCall g_number (aCons (f2 gIx (fVar 1) (fC (.int 1))) (aCons (f2 gIx (fVar 0) (fC (.int 1))) aNil))) aNil)))
  (sRet (eTup (aCons (f2 gMulI (f2 gIx (fVar 2) (fC (.int 0))) (f2 gIx (fVar 3) (fC (.int 0)))) (aCons (f2 gMulI (f2 gIx (fVar 2) (fC (.int 1))) (f2 gIx (fVar 3) (fC (.int 1)))) aNil)))))
noncomputable def g_over : GF := mkFn 2 2 G_over
theorem ok_over (hf : Is K mg "over" s_over) (h_number : Cal P w K mg base "number" ["top", "below"] 3 g_number) : Cal P w K mg base "over" ["one", "other"] 4 g_over := by
  obtain ⟨f, fd, F, hm⟩ := hf
  have nd := sc_over.nd
  exact ⟨f, fd, fnD F sc_over rfl (fun cdv A outer s H E hr => (dss_cons (ds_par (i := 2) (j := 3) nd (by decide) (da_cons (de_cal h_number hr (da_cons (de_ix (dv 0).w (de_int).w (fun _ _ => rfl)) (da_cons (de_ix (dv 1).w (de_int).w (fun _ _ => rfl)) da_nil))) (da_cons (de_cal h_number hr (da_cons (de_ix (dv 1).w (de_int).w (fun _ _ => rfl)) (da_cons (de_ix (dv 0).w (de_int).w (fun _ _ => rfl)) da_nil))) da_nil)) (by first | rfl | with_unfolding_all rfl))
      (dss_one (ds_ret (de_tup (da_cons (de_op dmul_int (de_ix (dv 2).w (de_int).w (fun _ _ => rfl)).w (de_ix (dv 3).w (de_int).w (fun _ _ => rfl)).w) (da_cons (de_op dmul_int (de_ix (dv 2).w (de_int).w (fun _ _ => rfl)).w (de_ix (dv 3).w (de_int).w (fun _ _ => rfl)).w) da_nil))))))), hm, F.kp, F.binds fun _ _ _ _ _ _ us hl => by obtain ⟨a0, a1, rfl⟩ := len2 (show us.length = 2 from hl); rfl⟩
theorem sc_sums_of : FnScope ["row", "x", "told", "total", "power", "number"] ["row", "x"] (defScope s_sums_of) := ⟨rfl, rfl, rfl, by decide +kernel, rfl, by decide +kernel, by decide +kernel⟩
noncomputable def B_sums_of_1 : GS := (sSeq (sSet 3 (fCall g_plus (aCons (fVar 3) (aCons (fCall g_times (aCons (fVar 5) (aCons (fVar 4) aNil))) aNil))))
  (sSeq (sSet 4 (fCall g_times (aCons (fVar 4) (aCons (fVar 1) aNil))))
  (sApp 2 (fVar 3))))
noncomputable def L_sums_of_2 : GS := sFor (iSeq (fVar 0)) (.one 5) B_sums_of_1
noncomputable def G_sums_of : GS := (sSeq (sSetO 2 (oLst aNil))
  (sSeq (sPar 3 4 (aCons (fC (.tuple [.int 0, .int 1])) (aCons (fC (.tuple [.int 1, .int 1])) aNil)))
  (sSeq L_sums_of_2
  (sSeq (sFrz 2) (sRet (fVar 2))))))
noncomputable def g_sums_of : GF := mkFn 2 4 G_sums_of
theorem ok_sums_of (hf : Is K mg "sums_of" s_sums_of) (h_plus : Cal P w K mg base "plus" ["one", "other"] 5 g_plus) (h_times : Cal P w K mg base "times" ["one", "other"] 4 g_times) (c_NOUGHT : Cst K mg "NOUGHT" (.tuple [.int 0, .int 1])) (c_UNIT : Cst K mg "UNIT" (.tuple [.int 1, .int 1])) : Cal P w K mg base "sums_of" ["row", "x"] 6 g_sums_of := by
  obtain ⟨f, fd, F, hm⟩ := hf
  have nd := sc_sums_of.nd
  exact ⟨f, fd, fnD F sc_sums_of rfl (fun cdv A outer s H E hr => (dss_cons (ds_setO (i := 2) nd (df_lst' da_nil))
      (dss_cons (ds_par (i := 3) (j := 4) nd (by decide) (da_cons (de_con c_NOUGHT) (da_cons (de_con c_UNIT) da_nil)) (by first | rfl | with_unfolding_all rfl))
      (dss_cons (ds_for (di_seq (dv 0)) (dg_name (i := 5) nd) (dss_cons (ds_set (i := 3) nd (de_cal h_plus hr (da_cons (dv 3) (da_cons (de_cal h_times hr (da_cons (dv 5) (da_cons (dv 4) da_nil))) da_nil))))
      (dss_cons (ds_set (i := 4) nd (de_cal h_times hr (da_cons (dv 4) (da_cons (dv 1) da_nil))))
      (dss_one (ds_app (i := 2) (pv 2) (dv 3))))))
      (dss_one (ds_frz 2 (ds_ret (dv 2)))))))), hm, F.kp, F.binds fun _ _ _ _ _ _ us hl => by obtain ⟨a0, a1, rfl⟩ := len2 (show us.length = 2 from hl); rfl⟩
theorem sc_step_up : FnScope ["start", "one", "other"] ["start", "one", "other"] (defScope s_step_up) := ⟨rfl, rfl, rfl, by decide +kernel, rfl, by decide +kernel, by decide +kernel⟩
noncomputable def G_step_up : GS := (sSeq (sIf (tOrF (asB (f2 gIs (fVar 0) (fC .none))) (tOrF (asB (f2 gIs (fVar 1) (fC .none))) (tOrF (asB (f2 gIs (fVar 2) (fC .none))) (asB (f2 gEq (fVar 1) (fVar 2)))))) (sRet (fC .none)) sNext)
  (sRet (fCall g_plus (aCons (fVar 0) (aCons (fCall g_over (aCons (fC (.tuple [.int 1, .int 1])) (aCons (fCall g_minus (aCons (fVar 1) (aCons (fVar 2) aNil))) aNil))) aNil)))))
noncomputable def g_step_up : GF := mkFn 3 0 G_step_up
theorem ok_step_up (hf : Is K mg "step_up" s_step_up) (h_plus : Cal P w K mg base "plus" ["one", "other"] 5 g_plus) (h_minus : Cal P w K mg base "minus" ["one", "other"] 5 g_minus) (h_over : Cal P w K mg base "over" ["one", "other"] 4 g_over) (c_UNIT : Cst K mg "UNIT" (.tuple [.int 1, .int 1])) : Cal P w K mg base "step_up" ["start", "one", "other"] 6 g_step_up := by
  obtain ⟨f, fd, F, hm⟩ := hf
  have nd := sc_step_up.nd
  exact ⟨f, fd, fnD F sc_step_up rfl (fun cdv A outer s H E hr => (dss_cons (ds_if (dw_or (dt_cmp dis (dv 0).w (de_non).w (nomark _)) (dw_or (dt_cmp dis (dv 1).w (de_non).w (nomark _)) (dw_or (dt_cmp dis (dv 2).w (de_non).w (nomark _)) (dw_or1 (dt_cmp (deq hr.units) (dv 1).w (dv 2).w (nomark _)))))).t (dss_one (ds_ret de_non)) dss_nil)
      (dss_one (ds_ret (de_cal h_plus hr (da_cons (dv 0) (da_cons (de_cal h_over hr (da_cons (de_con c_UNIT) (da_cons (de_cal h_minus hr (da_cons (dv 1) (da_cons (dv 2) da_nil))) da_nil))) da_nil))))))), hm, F.kp, F.binds fun _ _ _ _ _ _ us hl => by obtain ⟨a0, a1, a2, rfl⟩ := len3 (show us.length = 3 from hl); rfl⟩
theorem sc_next_column : FnScope ["ahead", "newest", "told", "place"] ["ahead", "newest"] (defScope s_next_column) := ⟨rfl, rfl, rfl, by decide +kernel, rfl, by decide +kernel, by decide +kernel⟩
noncomputable def B_next_column_1 : GS := (sApp 2 (fCall g_step_up (aCons (f2 gIx (fVar 0) (f2 gAdd (fVar 3) (fC (.int 1)))) (aCons (f2 gIx (fVar 1) (f2 gAdd (fVar 3) (fC (.int 1)))) (aCons (f2 gIx (fVar 1) (fVar 3)) aNil)))))
noncomputable def L_next_column_2 : GS := sFor (iRange1 (f2 gSubI (f1 gLen (fVar 1)) (fC (.int 1)))) (.one 3) B_next_column_1
noncomputable def G_next_column : GS := (sSeq (sSetO 2 (oLst aNil))
  (sSeq L_next_column_2
  (sSeq (sFrz 2) (sRet (fVar 2)))))
noncomputable def g_next_column : GF := mkFn 2 2 G_next_column
theorem ok_next_column (hf : Is K mg "next_column" s_next_column) (h_step_up : Cal P w K mg base "step_up" ["start", "one", "other"] 6 g_step_up) (n_len : mg "len" = none) (n_range : mg "range" = none) : Cal P w K mg base "next_column" ["ahead", "newest"] 7 g_next_column := by
  obtain ⟨f, fd, F, hm⟩ := hf
  have nd := sc_next_column.nd
  exact ⟨f, fd, fnD F sc_next_column rfl (fun cdv A outer s H E hr => (dss_cons (ds_setO (i := 2) nd (df_lst' da_nil))
      (dss_cons (ds_for (di_range1 n_range (de_op dsub_int (de_b1 dc_len (by first | rfl | decide +kernel) n_len (dv 1).w).w (de_int).w)) (dg_name (i := 3) nd) (dss_one (ds_app (i := 2) (pv 2) (de_cal h_step_up hr (da_cons (de_ix (dv 0).w (de_op dadd (dv 3).w (de_int).w).w (fun _ _ => rfl)) (da_cons (de_ix (dv 1).w (de_op dadd (dv 3).w (de_int).w).w (fun _ _ => rfl)) (da_cons (de_ix (dv 1).w (dv 3).w (fun _ _ => rfl)) da_nil)))))))
      (dss_one (ds_frz 2 (ds_ret (dv 2))))))), hm, F.kp, F.binds fun _ _ _ _ _ _ us hl => by obtain ⟨a0, a1, rfl⟩ := len2 (show us.length = 2 from hl); rfl⟩
theorem sc_ladder : FnScope ["sums", "columns", "ahead", "newest"] ["sums"] (defScope s_ladder) := ⟨rfl, rfl, rfl, by decide +kernel, rfl, by decide +kernel, by decide +kernel⟩
noncomputable def W_ladder_1 : GS := sWhile (asB (f2 gGt (f1 gLen (f2 gIx (fVarW 1) (f1 gNeg (fC (.int 1))))) (fC (.int 1)))) (sSeq (sSet 3 (f2 gIx (fVarW 1) (f1 gNeg (fC (.int 1)))))
  (sSeq (sApp 1 (fCall g_next_column (aCons (fVar 2) (aCons (fVar 3) aNil))))
  (sSet 2 (fVar 3))))
noncomputable def G_ladder : GS := (sSeq (sSetO 1 (oLst (aCons (f1 gList (fVar 0)) aNil)))
  (sSeq (sSet 2 (f2 gMulA (eLst (aCons (fC (.tuple [.int 0, .int 1])) aNil)) (f1 gLen (fVar 0))))
  (sSeq W_ladder_1
  (sRetO 1))))
noncomputable def gC_ladder : GC := mkFnC 1 3 G_ladder
noncomputable def g_ladder : GF := gOf gC_ladder
theorem ok_ladder (hf : Is K mg "ladder" s_ladder) (h_next_column : Cal P w K mg base "next_column" ["ahead", "newest"] 7 g_next_column) (n_len : mg "len" = none) (n_list : mg "list" = none) (c_NOUGHT : Cst K mg "NOUGHT" (.tuple [.int 0, .int 1])) : CalC P w K mg base "ladder" ["sums"] 8 gC_ladder := by
  obtain ⟨f, fd, F, hm⟩ := hf
  have nd := sc_ladder.nd
  exact ⟨f, fd, fnC F sc_ladder rfl (fun cdv A outer s H E hr => (dss_cons (ds_setO (i := 1) nd (df_lst' (da_cons (de_t1 dc_list (by first | rfl | decide +kernel) n_list (dv 0).w) da_nil)))
      (dss_cons (ds_set (i := 2) nd (de_op dmula (de_lst (da_cons (de_con c_NOUGHT) da_nil)).w (de_b1 dc_len (by first | rfl | decide +kernel) n_len (dv 0).w).w))
      (dss_cons (ds_while (dt_cmp dgt (de_b1 dc_len (by first | rfl | decide +kernel) n_len (de_ix (dvw 1) (de_neg (de_int).w).w (fun _ _ => rfl)).w).w (de_int).w (nomark _)) (dss_cons (ds_set (i := 3) nd (de_ix (dvw 1) (de_neg (de_int).w).w (fun _ _ => rfl)))
      (dss_cons (ds_app (i := 1) (pv 1) (de_cal h_next_column hr (da_cons (dv 2) (da_cons (dv 3) da_nil))))
      (dss_one (ds_set (i := 2) nd (dv 3))))))
      (dss_one (ds_retO (i := 1) (pv 1))))))), hm, F.kp, F.binds fun _ _ _ _ _ _ us hl => by obtain ⟨a0, rfl⟩ := len1 (show us.length = 1 from hl); rfl⟩
noncomputable def gL_ladder : List D → Sx → Option (List D × Sx) := gL (oList (fVar 0)) (o2 lRep (eLst (aCons (fC (.tuple [.int 0, .int 1])) aNil)) (f1 gLen (fVar 0))) (sSeq W_ladder_1 (sRetO 1))
theorem okL_ladder (hf : Is K mg "ladder" s_ladder) (h_next_column : Cal P w K mg base "next_column" ["ahead", "newest"] 7 g_next_column) (n_len : mg "len" = none) (n_list : mg "list" = none) (c_NOUGHT : Cst K mg "NOUGHT" (.tuple [.int 0, .int 1])) : CalL P w K mg base "ladder" ["sums"] 8 gL_ladder := by
  obtain ⟨f, fd, F, hm⟩ := hf
  have nd := sc_ladder.nd
  exact ⟨f, fd, fnL F sc_ladder (fun cdv A outer s H E hr Z B C => pss_cons (ps_set (i := 1) nd rfl (by first | exact Or.inl rfl | exact Or.inr rfl) (pe_lst (pa_cons ((df_list (by first | rfl | decide +kernel) n_list (dv 0).w).go Z B) pa_nil)))
      (pss_cons (ps_set (i := 2) nd rfl (by first | exact Or.inl rfl | exact Or.inr rfl) ((df_rep (de_lst (da_cons (de_con c_NOUGHT) da_nil)).w (de_b1 dc_len (by first | rfl | decide +kernel) n_len (dv 0).w).w).go Z B))
      ((dss_cons (ds_while (dt_cmp dgt (de_b1 dc_len (by first | rfl | decide +kernel) n_len (de_ix (dvw 1) (de_neg (de_int).w).w (fun _ _ => rfl)).w).w (de_int).w (nomark _)) (dss_cons (ds_set (i := 3) nd (de_ix (dvw 1) (de_neg (de_int).w).w (fun _ _ => rfl)))
      (dss_cons (ds_app (i := 1) (pv 1) (de_cal h_next_column hr (da_cons (dv 2) (da_cons (dv 3) da_nil))))
      (dss_one (ds_set (i := 2) nd (dv 3))))))
      (dss_one (ds_retO (i := 1) (pv 1)))).go Z C))), hm, F.kp, F.binds fun _ _ _ _ _ _ us hl => by obtain ⟨a0, rfl⟩ := len1 (show us.length = 1 from hl); rfl⟩

theorem sc__law_begin : FnScope ["_law_script", "_law_cells"] ["_law_script"] (defScope s__law_begin) := ⟨rfl, rfl, rfl, by decide +kernel, rfl, by decide +kernel, by decide +kernel⟩
theorem ok__law_begin (hf : Is K mg "_law_begin" s__law_begin) (n_list : mg "list" = none) : ∃ f fd, FnOk P w K mg base CX0 1 f fd ["_law_script"] (spBegin K) ∧ mg "_law_begin" = some (.ref f) ∧ PySem.W.keepIn K (.ref f) = true ∧ Binds K fd ["_law_script"] [] := by
  obtain ⟨f, fd, F, hm⟩ := hf
  refine ⟨f, fd, ?_, hm, F.kp, F.binds fun _ _ _ _ _ _ us hl => by obtain ⟨a0, rfl⟩ := len1 (show us.length = 1 from hl); rfl⟩
  have nd := sc__law_begin.nd
  refine F.ok sc__law_begin (fun vs H Q E x__138 => by obtain ⟨a, ns, e, _⟩ := x__138; subst e; rfl) (fun cdv A outer s H vs Q E hr x__139 => ?_)
  obtain ⟨a, ns, e, sq, hl, q⟩ := x__139
  subst e
  refine ⟨_, pss_cons (ps_set (i := 1) nd rfl (Or.inl rfl) (pe_callTy call_list_of rfl n_list (by first | rfl | decide +kernel) (pa_cons (pe_slice sl_list (pv 0) po_none (po_some pe_int)) pa_nil)))
    (pss_cons (DS.at0 (ds_if (dt_cmp (deq hr.units) (dv 1).w (de_lst da_nil).w (nomark _)) (dss_one (ds_set (i := 1) nd (de_lst (da_cons de_int da_nil)))) dss_nil : DS _ _ G_seven))
    (pss_one (ps_ret (pe_disp (pps_cons pe_str (pv 1) (pps_cons pe_str pe_int pps_nil)) rfl rfl (by simp) (by decide))))), ?_⟩
  refine ⟨_, rfl, 63, rfl, a, _, rfl, sq, fun p hp => ⟨p, _, rfl, .inl (SqL.of upd_same), fun l hl2 => ?_⟩⟩
  have ecut : cutV (ns.map V.int) none (some 63) = ns.map V.int := by
    have e63 : HT.sIx (ns.map V.int).length (ns.map V.int).length (some ((63 : Nat) : Int)) = min 63 (ns.map V.int).length := HT.sIx_nat _ _ _
    unfold cutV
    rw [show (some (63 : Int)) = some ((63 : Nat) : Int) from rfl, e63, HT.sIx_none, List.drop_zero]
    exact List.take_of_length_le (by rw [List.length_map]; omega)
  rw [ecut] at hl2 ⊢
  have hpl : p ≠ l := fun z => by rw [← z, upd_same] at hl2; cases hl2
  have hHl : H l = none := by rw [upd_ne (Ne.symm hpl)] at hl2; exact hl2
  generalize hH1 : upd (upd H p (.lst (ns.map V.int))) l (.lst (ns.map V.int)) = H1
  have X1 : Ext none H H1 := fun b o eb nb => by rw [← hH1, upd_ne (ne_of_none eb hHl), upd_ne (ne_of_none eb hp)]; exact eb
  have L1 : H1 l = some (.lst (ns.map V.int)) := by rw [← hH1]; exact upd_same
  refine ⟨[], [.non, .val (.list (ns.map PyData.int))], ([], 0), _, _, Al.repS (.non (.val (.lst L1 (fun z => nomatch z) (fun a c z => nomatch z) (reps_ints _ _ _ _ ns)) .nil)) (fun q hq => nomatch hq) X1, (fun a c h => nomatch h), seven_run ns _ _, fun ow' σ' H2 R' S' fr => ?_⟩
  · obtain ⟨v, hv, rv⟩ := R'.val 1 _ rfl
    cases rv with
    | @lst c vs _ hc n1 n2 rs =>
      have evs := ints_of_reps rs
      subst evs
      intro d hd
      refine ⟨_, hv, (show (upd H2 d (.dK [])) d = some (.dK []) from upd_same), [(Sum.inr ("cells" : Str), V.ref c), (Sum.inr ("turn" : Str), V.int 0)], rfl, (by show 2 ≤ 15; decide), ?_⟩
      have X2 : ∀ b o, H b = some o → H2 b = some o := fun b o eb => R'.ext b o eb (fun a c z => nomatch z)
      have hHd : H d = none := by
        cases e9 : H d with
        | none => rfl
        | some o => rw [X2 d o e9] at hd; cases hd
      refine q d c _ (fun b o eb => ?_) ?_ ?_
      · rw [upd_ne (ne_of_none eb hHd), upd_ne (ne_of_none eb hHd)]; exact X2 b o eb
      · rw [upd_same]; rfl
      · rw [upd_ne (ne_of_none hc hd), upd_ne (ne_of_none hc hd)]; exact hc

theorem take_cut {ds : List D} {st : Sx} {r : D × Sx} (e : g__law_take ds st = some r) : ∃ many, ds = [.dict [], .int many] ∧ takeOk st many = true ∧ takeF st many = r := by
  unfold g__law_take at e
  split at e
  · split at e
    · next h => exact ⟨_, rfl, h, Option.some.inj e⟩
    · cases e
  · cases e
theorem rep_int {Z : Zt} {H : Hp} {A : List Addr} {v : V} {d : D} (r : Rep K Z H A v d) : ∀ {n : Int}, d = .int n → v = .int n := by
  cases r <;> intro n e <;> cases e
  rfl
theorem rep_st {Z : Zt} {H : Hp} {A : List Addr} {v : V} {d : D} (r : Rep K Z H A v d) : d = .dict [] → ∃ a c, v = .ref a ∧ Z = some (a, c) := by
  cases r <;> intro e <;> cases e
  exact ⟨_, _, rfl, by assumption⟩
theorem take_vs {Z : Zt} {H : Hp} {A : List Addr} {vs : List V} {many : Int} (r : Reps K Z H A vs [.dict [], .int many]) : ∃ a c, vs = [.ref a, .int many] ∧ Z = some (a, c) := by
  obtain ⟨v0, v1, rfl⟩ := len2 (show vs.length = 2 from r.length)
  obtain ⟨a, c, rfl, hZ⟩ := rep_st r.head rfl
  cases r with
  | cons _ r => cases rep_int r.head rfl; exact ⟨a, c, rfl, hZ⟩
section
variable {u A : TS} {E : Ends} {σ : L2.St} {H : Hp} {a c : Addr} {t : Int}
theorem tk_turn (h0 : σ[0]? = some (some (.ref a))) (hA : H a = some (.dK (stDict c t))) (q : u E (σ.set 2 (some (.int (t + 1)))) H) :
    tSeq (tAsg (tOp (rI0 fun i j => .int (i + j)) (tDGet (tVar 0) (tC (.str "turn"))) (tC (.int 1))) (gName 2)) u E σ H :=
  ⟨_, h0, a, _, rfl, (st_turn c t ▸ DGet.k (k := Sum.inr "turn") hA), _, _, rfl, rfl, q⟩
theorem tk_put {v : Int} (h0 : σ[0]? = some (some (.ref a))) (h2 : σ[2]? = some (some (.int v))) (hA : H a = some (.dK (stDict c t))) (q : u E σ (upd H a (.dK (stDict c v)))) :
    tSeq (sDPut (tVar 0) (tC (.str "turn")) (tVar 2)) u E σ H :=
  ⟨_, h2, _, h0, a, _, rfl, st_put c t v ▸ DPut.k (k := Sum.inr "turn") hA (small1000 (by show 2 ≤ 1000; decide)), q⟩
theorem tk_place {v : Int} {xs : List V} (h0 : σ[0]? = some (some (.ref a))) (h2 : σ[2]? = some (some (.int v))) (hA : H a = some (.dK (stDict c t))) (hc : H c = some (.lst xs)) (hn : (xs.length : Int) ≠ 0) (q : u E (σ.set 3 (some (.int (v.fmod xs.length)))) H) :
    tSeq (tAsg (tOp (rI (fun _ j => j ≠ 0) fun i j => .int (i.fmod j)) (tVar 2) (tCB (fun xs H Q => ∃ p ys, xs = [.ref p] ∧ (SqL K H p ys ∨ SqT K H p ys) ∧ Q (.int ys.length) H) (tCons (tDGet (tVar 0) (tC (.str "cells"))) tNil))) (gName 3)) u E σ H :=
  ⟨_, h2, _, h0, a, _, rfl, (st_cells c t ▸ DGet.k (k := Sum.inr "cells") hA), c, _, rfl, .inl (SqL.of hc), _, _, rfl, rfl, hn, q⟩
theorem tk_cell {v : Int} {xs : List V} {x : V} (h0 : σ[0]? = some (some (.ref a))) (h3 : σ[3]? = some (some (.int v))) (hA : H a = some (.dK (stDict c t))) (hc : H c = some (.lst xs)) (hx : atI xs v = some x) (q : u E (σ.set 4 (some x)) H) :
    tSeq (tAsg (tOp (rIxL K) (tDGet (tVar 0) (tC (.str "cells"))) (tVar 3)) (gName 4)) u E σ H :=
  ⟨_, h0, a, _, rfl, (st_cells c t ▸ DGet.k (k := Sum.inr "cells") hA), _, h3, c, _, _, x, rfl, rfl, SqL.of hc, hx, q⟩
theorem ten18 : ((10 : Int) ^ (18 : Int).toNat) = 1000000000000000000 := by decide
theorem tk_if {x : Int} (h4 : σ[4]? = some (some (.int x))) (q1 : 1000000000000000000 ≤ x → A { E with nx := u E } σ H) (q2 : ¬ 1000000000000000000 ≤ x → u E σ H) :
    tSeq (tIfS (tTest (tOp (rI0 fun i j => .bl (decide (j ≤ i))) (tVar 4) (tOp (rI CPow fun i j => .int (i ^ j.toNat)) (tC (.int 10)) (tC (.int 18))))) A tNext) u E σ H :=
  ⟨_, h4, _, _, rfl, rfl, ⟨by decide, by decide, by decide⟩, _, _, rfl, rfl, _, rfl, ite2 (fun h => q1 (ten18 ▸ of_decide_eq_true h)) (fun h => q2 fun z => h (decide_eq_true (ten18.symm ▸ z)))⟩
theorem tk_share {x m v : Int} {xs : List V} {j : Nat} (h0 : σ[0]? = some (some (.ref a))) (h1 : σ[1]? = some (some (.int m))) (h3 : σ[3]? = some (some (.int v))) (h4 : σ[4]? = some (some (.int x))) (h5 : 5 < σ.length) (hA : H a = some (.dK (stDict c t))) (hc : H c = some (.lst xs)) (hd : divOk x m = true) (hj : ixN xs.length v = some j)
    (q : ∀ p, H p = none → E.rt (.int (x.fmod m)) (upd (upd H p (.tup [.int (x.fdiv m), .int (x.fmod m)])) c (.lst (xs.set j (.int (x.fdiv m)))))) :
    tSeq (tAsg (tCB (fun xs H Q => ∃ i j, xs = [.int i, .int j] ∧ divOk i j = true ∧ ∀ p, H p = none → Q (.ref p) (upd H p (.tup [.int (i.fdiv j), .int (i.fmod j)]))) (tCons (tVar 4) (tCons (tVar 1) tNil))) (gTup K 2 (gCons (gSub (tDGet (tVar 0) (tC (.str "cells"))) (tVar 3) rSetL) (gCons (gName 5) gNil)))) (tRet (tVar 5)) E σ H :=
  ⟨_, h4, _, h1, _, _, rfl, hd, fun p hp => ⟨p, _, rfl, SqT.of upd_same, rfl, _, _, rfl, _, h0, a, _, rfl, (st_cells c t ▸ DGet.k (k := Sum.inr "cells") (by rw [upd_ne (ne_of_none hA hp)]; exact hA)), _, h3, c, _, _, j, rfl, rfl, (by rw [upd_ne (ne_of_none hc hp)]; exact hc), hj, _, _, rfl, rfl, _, List.getElem?_set_self h5, q p hp⟩⟩
end
theorem sc__law_take : FnScope ["_law_state", "_law_many", "_law_turn", "_law_place", "_law_cell", "_law_digit", "_law_mixed"] ["_law_state", "_law_many"] (defScope s__law_take) := ⟨rfl, rfl, rfl, by decide +kernel, rfl, by decide +kernel, by decide +kernel⟩
theorem ok__law_take (hf : Is K mg "_law_take" s__law_take) (n_len : mg "len" = none) (n_divmod : mg "divmod" = none) : Cal P w K mg base "_law_take" ["_law_state", "_law_many"] 1 g__law_take := by
  obtain ⟨f, fd, F, hm⟩ := hf
  refine ⟨f, fd, ?_, hm, F.kp, F.binds fun _ _ _ _ _ _ us hl => by obtain ⟨a0, a1, rfl⟩ := len2 (show us.length = 2 from hl); rfl⟩
  have nd := sc__law_take.nd
  refine F.ok sc__law_take (fun vs H Q E x__140 => ?_) (fun cdv A outer s H vs Q E hr x__141 => ?_)
  · obtain ⟨Z, A0, ds, st, d, st', r, _, _, e, _⟩ := x__140
    obtain ⟨m, rfl, _⟩ := take_cut e
    exact r.length
  · obtain ⟨Z, A0, ds, st, d, st', r, hA, S, e, q⟩ := x__141
    obtain ⟨many, rfl, hok, e⟩ := take_cut e
    obtain ⟨a, c, rfl, hZ⟩ := take_vs r
    obtain ⟨cells, turn⟩ := st
    obtain ⟨S1, S2⟩ := S a c hZ
    have ac : a ≠ c := ne_of S1 S2 (by intro z; cases z)
    simp only [takeOk, Bool.and_eq_true, decide_eq_true_eq] at hok
    obtain ⟨⟨⟨⟨⟨k1, k2⟩, k3⟩, k4⟩, k5⟩, k6⟩ := hok
    have hu := hu_of hr
    have pl0 : 0 ≤ (turn + 1).fmod (cells.length : Int) := by rw [Int.fmod_eq_emod_of_nonneg _ (by omega)]; exact Int.emod_nonneg _ (by omega)
    have pl1 : (turn + 1).fmod (cells.length : Int) < (cells.length : Int) := by rw [Int.fmod_eq_emod_of_nonneg _ (by omega)]; exact Int.emod_lt_of_pos _ (by omega)
    have plc : plcOf (cells, turn) < cells.length := by unfold plcOf; dsimp only; omega
    have ecell : cells[plcOf (cells, turn)]? = some (celOf (cells, turn)) := by
      unfold celOf
      rw [List.getD_eq_getElem?_getD, List.getElem?_eq_getElem plc]; rfl
    refine ⟨_, pss_cons (ps_set (i := 2) nd rfl (Or.inl rfl) (pe_op op_add (pe_dget hu (pv 0) pe_str (fun _ _ => rfl)) pe_int))
      (pss_cons (ps_dput hu (pv 0) pe_str (pv 2) rfl)
      (pss_cons (ps_set (i := 3) nd rfl (Or.inl rfl) (pe_op op_modN (pv 2) (pe_callB call_len_seq rfl n_len PySem.boot_len (pa_cons (pe_dget hu (pv 0) pe_str (fun _ _ => rfl)) pa_nil))))
      (pss_cons (ps_set (i := 4) nd rfl (Or.inl rfl) (pe_ix ix_list (pe_dget hu (pv 0) pe_str (fun _ _ => rfl)) (pv 3) (fun _ _ => rfl)))
      (pss_cons (ps_if (pt_cmpR op_ge (pv 4) (pe_op op_pow pe_int pe_int) (nomark _))
        (pss_cons (ps_asg (pe_callB call_divmodB rfl n_divmod (by first | rfl | decide +kernel) (pa_cons (pv 4) (pa_cons (pv 1) pa_nil))) (pg_tup rfl (pgs_cons (pg_sub (pe_dget hu (pv 0) pe_str (fun _ _ => rfl)) (pv 3) set_list) (pgs_cons (pg_name (i := 5) nd rfl (Or.inl rfl)) pgs_nil))))
        (pss_one (ps_ret (pv 5)))) pss_nil)
      ((dss_cons (ds_set (i := 6) nd (de_op dmod_int (de_op dmul_int (de_op dadd_int (de_op dadd_int (de_op dmod_int (dv 4).w de_int.w).w (de_op dmul_int (de_op dmul_int (dv 2).w (dv 2).w).w de_int.w).w).w de_int.w).w de_int.w).w de_int.w))
        (dss_cons (ds_set (i := 6) nd (de_op dmod_int (de_op dmul_int (dv 6).w (dv 6).w).w de_int.w))
        (dss_one (ds_ret (de_op dmod_int (de_op ddiv_int (de_op dmod_int (de_op dmul_int (de_op dadd_int (dv 6).w (de_op dmul_int (dv 2).w de_int.w).w).w de_int.w).w de_int.w).w de_int.w).w (dv 1).w)))) : DSs _ _ G_mixed) Z A0))))), ?_⟩
    refine tk_turn rfl S1 ?_
    refine tk_put rfl rfl S1 ?_
    have A1 : (upd H a (.dK (stDict c (turn + 1)))) a = some (.dK (stDict c (turn + 1))) := upd_same
    have A2 : (upd H a (.dK (stDict c (turn + 1)))) c = some (.lst (cells.map V.int)) := by rw [upd_ne (Ne.symm ac)]; exact S2
    have X1 : Ext Z H (upd H a (.dK (stDict c (turn + 1)))) := fun b o eb nb => by rw [upd_ne (nb a c hZ).1]; exact eb
    generalize upd H a (.dK (stDict c (turn + 1))) = H1 at *
    have el : ((cells.map V.int).length : Int) = cells.length := by rw [List.length_map]
    refine tk_place (xs := cells.map V.int) rfl rfl A1 A2 (by omega) ?_
    refine tk_cell (x := .int (celOf (cells, turn))) rfl rfl A1 A2 ?_ ?_
    rotate_left
    refine tk_if rfl (fun hc => ?_) (fun hc => ?_)
    rotate_left 2
    · rw [el, show (turn + 1).fmod (cells.length : Int) = ((plcOf (cells, turn) : Nat) : Int) from by unfold plcOf; dsimp only; omega]
      exact atI_nat (by rw [List.getElem?_map, ecell]; rfl)
    · have et : takeF (cells, turn) many = (.int ((celOf (cells, turn)).fmod many), (cells.set (plcOf (cells, turn)) ((celOf (cells, turn)).fdiv many), turn + 1)) := by unfold takeF; rw [if_pos hc]
      rw [et] at e
      cases e
      refine tk_share (j := plcOf (cells, turn)) rfl rfl rfl rfl (Nat.le_of_ble_eq_true rfl) A1 A2 (by unfold divOk; simp only [Bool.and_eq_true, decide_eq_true_eq]; exact ⟨by omega, k2⟩) ?_ fun p hp => q _ _ (fun b o eb nb => ?_) (fun a' c' h' => ?_) (.int _)
      · rw [List.length_map]
        unfold ixN plcOf
        rw [if_pos pl0, if_pos pl1]
      · have eb1 := X1 b o eb nb
        rw [upd_ne (nb a c hZ).2, upd_ne (ne_of_none eb1 hp)]; exact eb1
      · rw [hZ] at h'
        cases h'
        refine ⟨?_, ?_⟩
        · rw [upd_ne ac, upd_ne (ne_of_none A1 hp)]; exact A1
        · rw [upd_same, List.map_set]
    · have et : takeF (cells, turn) many = (.int (mix (celOf (cells, turn)) (turn + 1) many), (cells, turn + 1)) := by unfold takeF; rw [if_neg hc]
      rw [et] at e
      cases e
      refine ⟨[], [.non, .val (.int many), .val (.int (turn + 1)), .non, .val (.int (celOf (cells, turn))), .non, .non], (cells, turn + 1), .ret (.int (mix (celOf (cells, turn)) (turn + 1) many)), (cells, turn + 1), ?_, fun a' c' h' => by rw [hZ] at h'; cases h'; exact ⟨A1, A2⟩, mixed_run (by omega) (by omega) k1, fun v H' x1 S1 r => q v H' x1 S1 r⟩
      exact Al.repS (.non (.val (.int _) (.val (.int _) (.non (.val (.int _) (.non (.non .nil))))))) (fun q hq => ⟨let ⟨o, ho⟩ := (hA q hq).1; ⟨o, X1 q o ho (hA q hq).2⟩, (hA q hq).2⟩) X1

theorem sc__law_same : FnScope ["_law_found", "_law_due"] ["_law_found", "_law_due"] (defScope s__law_same) := ⟨rfl, rfl, rfl, by decide +kernel, rfl, by decide +kernel, by decide +kernel⟩
noncomputable def G__law_same (g__law_same : GF) : GS := (sSeq (sIf (asB (f2 gIs (fVar 1) (fC .none))) (sRet (f2 gIs (fVar 0) (fC .none))) sNext)
  (sSeq (sIf (tOrF (asT (f1 (gInst "list") (fVar 1))) (asT (f1 (gInst "tuple") (fVar 1)))) (sSeq (sIf (asB (f2 gNe (f1 (gInst "list") (fVar 0)) (f1 (gInst "list") (fVar 1)))) (sRet (fC (.bool false))) sNext)
  (sSeq (sIf (tOrF (asB (f2 gNe (f1 (gInst "tuple") (fVar 0)) (f1 (gInst "tuple") (fVar 1)))) (asB (f2 gNe (f1 gLen (fVar 0)) (f1 gLen (fVar 1))))) (sRet (fC (.bool false))) sNext)
  (sRet (f1 gAll (asL (fComp 2 [] (iZipF (fVar 0) (fVar 1)) (.tup [0, 1]) fTrue (fCall g__law_same (aCons (fVar 0) (aCons (fVar 1) aNil))))))))) sNext)
  (sSeq (sIf (asT (f1 (gInst "str") (fVar 1))) (sRet (eAnd (f1 (gInst "str") (fVar 0)) (f2 gEq (fVar 0) (fVar 1)))) sNext)
  (sRet (eAnd (f1 (gInst "int") (fVar 0)) (eAnd (f1 gNot (f1 (gInst "bool") (fVar 0))) (f2 gEq (fVar 0) (fVar 1))))))))
noncomputable def r__law_same : Nat → GF
  | 0 => fun _ _ => none
  | n + 1 => mkFn 2 0 (G__law_same (r__law_same n))
theorem rec__law_same (hf : Is K mg "_law_same" s__law_same) (n_all : mg "all" = none) (n_bool : mg "bool" = none) (n_int : mg "int" = none) (n_isinstance : mg "isinstance" = none) (n_len : mg "len" = none) (n_list : mg "list" = none) (n_str : mg "str" = none) (n_tuple : mg "tuple" = none) (n_zip : mg "zip" = none) : ∀ n, Cal P w K mg base "_law_same" ["_law_found", "_law_due"] (1 + n) (r__law_same n)
  | 0 => by
    obtain ⟨f, fd, F, hm⟩ := hf
    exact ⟨f, fd, ⟨fun _ _ _ _ h => (spD_none h).elim, fun _ _ _ _ _ _ _ _ _ _ _ _ _ h => (spD_none h).elim⟩, hm, F.kp, F.binds fun _ _ _ _ _ _ us hl => by obtain ⟨a0, a1, rfl⟩ := len2 (show us.length = 2 from hl); rfl⟩
  | n + 1 => by
    have ih := rec__law_same hf n_all n_bool n_int n_isinstance n_len n_list n_str n_tuple n_zip n
    obtain ⟨f, fd, F, hm⟩ := hf
    have nd := sc__law_same.nd
    exact ⟨f, fd, fnD (k := 1 + n) F sc__law_same rfl (fun cdv A outer s H E hr => (dss_cons (ds_if (dt_cmp dis (dv 1).w (de_non).w (nomark _)) (dss_one (ds_ret (de_cmp dis (dv 0).w (de_non).w (nomark _)))) dss_nil)
      (dss_cons (ds_if (dw_or (dt_tru (de_inst (T := "list") (by decide) (by first | rfl | decide +kernel) n_isinstance n_list (dv 1).w).w (fun _ => rfl)) (dw_or1 (dt_tru (de_inst (T := "tuple") (by decide) (by first | rfl | decide +kernel) n_isinstance n_tuple (dv 1).w).w (fun _ => rfl)))).t (dss_cons (ds_if (dt_cmp (dne hr.units) (de_inst (T := "list") (by decide) (by first | rfl | decide +kernel) n_isinstance n_list (dv 0).w).w (de_inst (T := "list") (by decide) (by first | rfl | decide +kernel) n_isinstance n_list (dv 1).w).w (nomark _)) (dss_one (ds_ret de_bl)) dss_nil)
      (dss_cons (ds_if (dw_or (dt_cmp (dne hr.units) (de_inst (T := "tuple") (by decide) (by first | rfl | decide +kernel) n_isinstance n_tuple (dv 0).w).w (de_inst (T := "tuple") (by decide) (by first | rfl | decide +kernel) n_isinstance n_tuple (dv 1).w).w (nomark _)) (dw_or1 (dt_cmp (dne hr.units) (de_b1 dc_len (by first | rfl | decide +kernel) n_len (dv 0).w).w (de_b1 dc_len (by first | rfl | decide +kernel) n_len (dv 1).w).w (nomark _)))).t (dss_one (ds_ret de_bl)) dss_nil)
      (dss_one (ds_ret (de_b1 (dc_all rfl) (by first | rfl | decide +kernel) n_all (DF.de (df_comp (N := ["_law_one", "_law_other"]) (k := 2) (fr := []) (compOk0 rfl (by decide +kernel) (by decide +kernel) (by decide +kernel) rfl) (by decide) (di_zip n_zip (dv 0) (dv 1)) (fun _ _ _ _ => by exact (dg_tup (pgn_cons (i := 0) (show List.Nodup (α := Str) ["_law_one", "_law_other"] by decide +kernel) (pgn_cons (i := 1) (show List.Nodup (α := Str) ["_law_one", "_law_other"] by decide +kernel) pgn_nil)))) (fun _ _ _ _ => difs_nil) (fun _ _ _ _ => by exact (de_cal ih hr (da_cons (dv 0) (da_cons (dv 1) da_nil)) (Nat.le_refl _))))).w))))) dss_nil)
      (dss_cons (ds_if (dt_tru (de_inst (T := "str") (by decide) (by first | rfl | decide +kernel) n_isinstance n_str (dv 1).w).w (fun _ => rfl)) (dss_one (ds_ret (de_and (de_inst (T := "str") (by decide) (by first | rfl | decide +kernel) n_isinstance n_str (dv 0).w) (de_one (de_cmp (deq hr.units) (dv 0).w (dv 1).w (nomark _)))))) dss_nil)
      (dss_one (ds_ret (de_and (de_inst (T := "int") (by decide) (by first | rfl | decide +kernel) n_isinstance n_int (dv 0).w) (de_and (de_not (de_inst (T := "bool") (by decide) (by first | rfl | decide +kernel) n_isinstance n_bool (dv 0).w)) (de_one (de_cmp (deq hr.units) (dv 0).w (dv 1).w (nomark _))))))))))), hm, F.kp, F.binds fun _ _ _ _ _ _ us hl => by obtain ⟨a0, a1, rfl⟩ := len2 (show us.length = 2 from hl); rfl⟩
noncomputable def g__law_same : GF := r__law_same 6
theorem sc__law_part : FnScope ["_law_top", "_law_below", "_law_one", "_law_other", "_law_sign"] ["_law_top", "_law_below"] (defScope s__law_part) := ⟨rfl, rfl, rfl, by decide +kernel, rfl, by decide +kernel, by decide +kernel⟩
noncomputable def W__law_part_1 : GS := sWhile (asB (f2 gGt (fVar 3) (fC (.int 0)))) (sPar 2 3 (aCons (fVar 3) (aCons (f2 gModI (fVar 2) (fVar 3)) aNil)))
noncomputable def G__law_part : GS := (sSeq (sPar 2 3 (aCons (f1 gAbs (fVar 0)) (aCons (f1 gAbs (fVar 1)) aNil)))
  (sSeq W__law_part_1
  (sSeq (sSet 4 (f2 gSubI (fC (.int 1)) (f2 gMulI (fC (.int 2)) (f1 gInt (f2 gLt (fVar 1) (fC (.int 0)))))))
  (sRet (eTup (aCons (f2 gDivI (f2 gMulI (fVar 4) (fVar 0)) (fVar 2)) (aCons (f2 gDivI (f2 gMulI (fVar 4) (fVar 1)) (fVar 2)) aNil)))))))
noncomputable def g__law_part : GF := mkFn 2 3 G__law_part
theorem ok__law_part (hf : Is K mg "_law_part" s__law_part) (n_abs : mg "abs" = none) (n_int : mg "int" = none) : Cal P w K mg base "_law_part" ["_law_top", "_law_below"] 1 g__law_part := by
  obtain ⟨f, fd, F, hm⟩ := hf
  have nd := sc__law_part.nd
  exact ⟨f, fd, fnD F sc__law_part rfl (fun cdv A outer s H E hr => (dss_cons (ds_par (i := 2) (j := 3) nd (by decide) (da_cons (de_b1 dc_abs (by first | rfl | decide +kernel) n_abs (dv 0).w) (da_cons (de_b1 dc_abs (by first | rfl | decide +kernel) n_abs (dv 1).w) da_nil)) (by first | rfl | with_unfolding_all rfl))
      (dss_cons (ds_while (dt_cmp dgt (dv 3).w (de_int).w (nomark _)) (dss_one (ds_par (i := 2) (j := 3) nd (by decide) (da_cons (dv 3) (da_cons (de_op dmod_int (dv 2).w (dv 3).w) da_nil)) (by first | rfl | with_unfolding_all rfl))))
      (dss_cons (ds_set (i := 4) nd (de_op dsub_int (de_int).w (de_op dmul_int (de_int).w (de_t1 dc_int (by first | rfl | decide +kernel) n_int (de_cmp dlt (dv 1).w (de_int).w (nomark _)).w).w).w))
      (dss_one (ds_ret (de_tup (da_cons (de_op ddiv_int (de_op dmul_int (dv 4).w (dv 0).w).w (dv 2).w) (da_cons (de_op ddiv_int (de_op dmul_int (dv 4).w (dv 1).w).w (dv 2).w) da_nil))))))))), hm, F.kp, F.binds fun _ _ _ _ _ _ us hl => by obtain ⟨a0, a1, rfl⟩ := len2 (show us.length = 2 from hl); rfl⟩
theorem sc__law_plus : FnScope ["_law_one", "_law_other"] ["_law_one", "_law_other"] (defScope s__law_plus) := ⟨rfl, rfl, rfl, by decide +kernel, rfl, by decide +kernel, by decide +kernel⟩
noncomputable def G__law_plus : GS := (sRet (fCall g__law_part (aCons (f2 gAdd (f2 gMulI (f2 gIx (fVar 0) (fC (.int 0))) (f2 gIx (fVar 1) (fC (.int 1)))) (f2 gMulI (f2 gIx (fVar 1) (fC (.int 0))) (f2 gIx (fVar 0) (fC (.int 1))))) (aCons (f2 gMulI (f2 gIx (fVar 0) (fC (.int 1))) (f2 gIx (fVar 1) (fC (.int 1)))) aNil))))
noncomputable def g__law_plus : GF := mkFn 2 0 G__law_plus
theorem ok__law_plus (hf : Is K mg "_law_plus" s__law_plus) (h__law_part : Cal P w K mg base "_law_part" ["_law_top", "_law_below"] 1 g__law_part) : Cal P w K mg base "_law_plus" ["_law_one", "_law_other"] 2 g__law_plus := by
  obtain ⟨f, fd, F, hm⟩ := hf
  have nd := sc__law_plus.nd
  exact ⟨f, fd, fnD F sc__law_plus rfl (fun cdv A outer s H E hr => (dss_one (ds_ret (de_cal h__law_part hr (da_cons (de_op dadd (de_op dmul_int (de_ix (dv 0).w (de_int).w (fun _ _ => rfl)).w (de_ix (dv 1).w (de_int).w (fun _ _ => rfl)).w).w (de_op dmul_int (de_ix (dv 1).w (de_int).w (fun _ _ => rfl)).w (de_ix (dv 0).w (de_int).w (fun _ _ => rfl)).w).w) (da_cons (de_op dmul_int (de_ix (dv 0).w (de_int).w (fun _ _ => rfl)).w (de_ix (dv 1).w (de_int).w (fun _ _ => rfl)).w) da_nil)))))), hm, F.kp, F.binds fun _ _ _ _ _ _ us hl => by obtain ⟨a0, a1, rfl⟩ := len2 (show us.length = 2 from hl); rfl⟩
theorem sc__law_minus : FnScope ["_law_one", "_law_other"] ["_law_one", "_law_other"] (defScope s__law_minus) := ⟨rfl, rfl, rfl, by decide +kernel, rfl, by decide +kernel, by decide +kernel⟩
noncomputable def G__law_minus : GS := (sRet (fCall g__law_part (aCons (f2 gSubI (f2 gMulI (f2 gIx (fVar 0) (fC (.int 0))) (f2 gIx (fVar 1) (fC (.int 1)))) (f2 gMulI (f2 gIx (fVar 1) (fC (.int 0))) (f2 gIx (fVar 0) (fC (.int 1))))) (aCons (f2 gMulI (f2 gIx (fVar 0) (fC (.int 1))) (f2 gIx (fVar 1) (fC (.int 1)))) aNil))))
noncomputable def g__law_minus : GF := mkFn 2 0 G__law_minus
theorem ok__law_minus (hf : Is K mg "_law_minus" s__law_minus) (h__law_part : Cal P w K mg base "_law_part" ["_law_top", "_law_below"] 1 g__law_part) : Cal P w K mg base "_law_minus" ["_law_one", "_law_other"] 2 g__law_minus := by
  obtain ⟨f, fd, F, hm⟩ := hf
  have nd := sc__law_minus.nd
  exact ⟨f, fd, fnD F sc__law_minus rfl (fun cdv A outer s H E hr => (dss_one (ds_ret (de_cal h__law_part hr (da_cons (de_op dsub_int (de_op dmul_int (de_ix (dv 0).w (de_int).w (fun _ _ => rfl)).w (de_ix (dv 1).w (de_int).w (fun _ _ => rfl)).w).w (de_op dmul_int (de_ix (dv 1).w (de_int).w (fun _ _ => rfl)).w (de_ix (dv 0).w (de_int).w (fun _ _ => rfl)).w).w) (da_cons (de_op dmul_int (de_ix (dv 0).w (de_int).w (fun _ _ => rfl)).w (de_ix (dv 1).w (de_int).w (fun _ _ => rfl)).w) da_nil)))))), hm, F.kp, F.binds fun _ _ _ _ _ _ us hl => by obtain ⟨a0, a1, rfl⟩ := len2 (show us.length = 2 from hl); rfl⟩
theorem sc__law_times : FnScope ["_law_one", "_law_other"] ["_law_one", "_law_other"] (defScope s__law_times) := ⟨rfl, rfl, rfl, by decide +kernel, rfl, by decide +kernel, by decide +kernel⟩
noncomputable def G__law_times : GS := (sRet (fCall g__law_part (aCons (f2 gMulI (f2 gIx (fVar 0) (fC (.int 0))) (f2 gIx (fVar 1) (fC (.int 0)))) (aCons (f2 gMulI (f2 gIx (fVar 0) (fC (.int 1))) (f2 gIx (fVar 1) (fC (.int 1)))) aNil))))
noncomputable def g__law_times : GF := mkFn 2 0 G__law_times
theorem ok__law_times (hf : Is K mg "_law_times" s__law_times) (h__law_part : Cal P w K mg base "_law_part" ["_law_top", "_law_below"] 1 g__law_part) : Cal P w K mg base "_law_times" ["_law_one", "_law_other"] 2 g__law_times := by
  obtain ⟨f, fd, F, hm⟩ := hf
  have nd := sc__law_times.nd
  exact ⟨f, fd, fnD F sc__law_times rfl (fun cdv A outer s H E hr => (dss_one (ds_ret (de_cal h__law_part hr (da_cons (de_op dmul_int (de_ix (dv 0).w (de_int).w (fun _ _ => rfl)).w (de_ix (dv 1).w (de_int).w (fun _ _ => rfl)).w) (da_cons (de_op dmul_int (de_ix (dv 0).w (de_int).w (fun _ _ => rfl)).w (de_ix (dv 1).w (de_int).w (fun _ _ => rfl)).w) da_nil)))))), hm, F.kp, F.binds fun _ _ _ _ _ _ us hl => by obtain ⟨a0, a1, rfl⟩ := len2 (show us.length = 2 from hl); rfl⟩
theorem sc__law_over : FnScope ["_law_one", "_law_other"] ["_law_one", "_law_other"] (defScope s__law_over) := ⟨rfl, rfl, rfl, by decide +kernel, rfl, by decide +kernel, by decide +kernel⟩
noncomputable def G__law_over : GS := (sRet (fCall g__law_part (aCons (f2 gMulI (f2 gIx (fVar 0) (fC (.int 0))) (f2 gIx (fVar 1) (fC (.int 1)))) (aCons (f2 gMulI (f2 gIx (fVar 0) (fC (.int 1))) (f2 gIx (fVar 1) (fC (.int 0)))) aNil))))
noncomputable def g__law_over : GF := mkFn 2 0 G__law_over
theorem ok__law_over (hf : Is K mg "_law_over" s__law_over) (h__law_part : Cal P w K mg base "_law_part" ["_law_top", "_law_below"] 1 g__law_part) : Cal P w K mg base "_law_over" ["_law_one", "_law_other"] 2 g__law_over := by
  obtain ⟨f, fd, F, hm⟩ := hf
  have nd := sc__law_over.nd
  exact ⟨f, fd, fnD F sc__law_over rfl (fun cdv A outer s H E hr => (dss_one (ds_ret (de_cal h__law_part hr (da_cons (de_op dmul_int (de_ix (dv 0).w (de_int).w (fun _ _ => rfl)).w (de_ix (dv 1).w (de_int).w (fun _ _ => rfl)).w) (da_cons (de_op dmul_int (de_ix (dv 0).w (de_int).w (fun _ _ => rfl)).w (de_ix (dv 1).w (de_int).w (fun _ _ => rfl)).w) da_nil)))))), hm, F.kp, F.binds fun _ _ _ _ _ _ us hl => by obtain ⟨a0, a1, rfl⟩ := len2 (show us.length = 2 from hl); rfl⟩
theorem sc__law_number : FnScope ["_law_state", "_law_way", "_law_top"] ["_law_state"] (defScope s__law_number) := ⟨rfl, rfl, rfl, by decide +kernel, rfl, by decide +kernel, by decide +kernel⟩
noncomputable def G__law_number : GS := (sSeq (sSet 1 (fCall g__law_take (aCons (fVar 0) (aCons (fC (.int 16)) aNil))))
  (sSeq (sIf (asB (f2 gLt (fVar 1) (fC (.int 10)))) (sRet (eTup (aCons (f2 gSubI (fCall g__law_take (aCons (fVar 0) (aCons (fC (.int 9)) aNil))) (fC (.int 4))) (aCons (fC (.int 1)) aNil)))) sNext)
  (sSeq (sIf (asB (f2 gLt (fVar 1) (fC (.int 15)))) (sRet (fCall g__law_part (aCons (f2 gSubI (fCall g__law_take (aCons (fVar 0) (aCons (fC (.int 25)) aNil))) (fC (.int 12))) (aCons (f2 gAdd (fC (.int 2)) (fCall g__law_take (aCons (fVar 0) (aCons (fC (.int 4)) aNil)))) aNil)))) sNext)
  (sSeq (sSet 2 (f2 gAdd (f2 gMulI (fCall g__law_take (aCons (fVar 0) (aCons (fC (.int 1000)) aNil))) (f2 gPowI (fC (.int 10)) (fC (.int 6)))) (fCall g__law_take (aCons (fVar 0) (aCons (f2 gPowI (fC (.int 10)) (fC (.int 6))) aNil)))))
  (sRet (fCall g__law_part (aCons (f2 gMulI (fVar 2) (f2 gSubI (fC (.int 1)) (f2 gMulI (fC (.int 2)) (fCall g__law_take (aCons (fVar 0) (aCons (fC (.int 2)) aNil)))))) (aCons (f2 gAdd (fC (.int 1)) (fCall g__law_take (aCons (fVar 0) (aCons (fC (.int 999999)) aNil)))) aNil))))))))
noncomputable def g__law_number : GF := mkFn 1 2 G__law_number
theorem ok__law_number (hf : Is K mg "_law_number" s__law_number) (h__law_take : Cal P w K mg base "_law_take" ["_law_state", "_law_many"] 1 g__law_take) (h__law_part : Cal P w K mg base "_law_part" ["_law_top", "_law_below"] 1 g__law_part) : Cal P w K mg base "_law_number" ["_law_state"] 2 g__law_number := by
  obtain ⟨f, fd, F, hm⟩ := hf
  have nd := sc__law_number.nd
  exact ⟨f, fd, fnD F sc__law_number rfl (fun cdv A outer s H E hr => (dss_cons (ds_set (i := 1) nd (de_cal h__law_take hr (da_cons (dv 0) (da_cons de_int da_nil))))
      (dss_cons (ds_if (dt_cmp dlt (dv 1).w (de_int).w (nomark _)) (dss_one (ds_ret (de_tup (da_cons (de_op dsub_int (de_cal h__law_take hr (da_cons (dv 0) (da_cons de_int da_nil))).w (de_int).w) (da_cons de_int da_nil))))) dss_nil)
      (dss_cons (ds_if (dt_cmp dlt (dv 1).w (de_int).w (nomark _)) (dss_one (ds_ret (de_cal h__law_part hr (da_cons (de_op dsub_int (de_cal h__law_take hr (da_cons (dv 0) (da_cons de_int da_nil))).w (de_int).w) (da_cons (de_op dadd (de_int).w (de_cal h__law_take hr (da_cons (dv 0) (da_cons de_int da_nil))).w) da_nil))))) dss_nil)
      (dss_cons (ds_set (i := 2) nd (de_op dadd (de_op dmul_int (de_cal h__law_take hr (da_cons (dv 0) (da_cons de_int da_nil))).w (de_op dpow_int (de_int).w (de_int).w).w).w (de_cal h__law_take hr (da_cons (dv 0) (da_cons (de_op dpow_int (de_int).w (de_int).w) da_nil))).w))
      (dss_one (ds_ret (de_cal h__law_part hr (da_cons (de_op dmul_int (dv 2).w (de_op dsub_int (de_int).w (de_op dmul_int (de_int).w (de_cal h__law_take hr (da_cons (dv 0) (da_cons de_int da_nil))).w).w).w) (da_cons (de_op dadd (de_int).w (de_cal h__law_take hr (da_cons (dv 0) (da_cons de_int da_nil))).w) da_nil)))))))))), hm, F.kp, F.binds fun _ _ _ _ _ _ us hl => by obtain ⟨a0, rfl⟩ := len1 (show us.length = 1 from hl); rfl⟩
theorem sc__law_small : FnScope ["_law_state"] ["_law_state"] (defScope s__law_small) := ⟨rfl, rfl, rfl, by decide +kernel, rfl, by decide +kernel, by decide +kernel⟩
noncomputable def G__law_small : GS := (sRet (fCall g__law_part (aCons (f2 gIx (fC (.list [(.int 1), (.int (-1)), (.int 2), (.int (-2)), (.int 3), (.int (-3)), (.int 1), (.int (-1))])) (fCall g__law_take (aCons (fVar 0) (aCons (fC (.int 8)) aNil)))) (aCons (f2 gAdd (fC (.int 1)) (f2 gDivI (fCall g__law_take (aCons (fVar 0) (aCons (fC (.int 8)) aNil))) (fC (.int 6)))) aNil))))
noncomputable def g__law_small : GF := mkFn 1 0 G__law_small
theorem ok__law_small (hf : Is K mg "_law_small" s__law_small) (h__law_take : Cal P w K mg base "_law_take" ["_law_state", "_law_many"] 1 g__law_take) (h__law_part : Cal P w K mg base "_law_part" ["_law_top", "_law_below"] 1 g__law_part) : Cal P w K mg base "_law_small" ["_law_state"] 2 g__law_small := by
  obtain ⟨f, fd, F, hm⟩ := hf
  have nd := sc__law_small.nd
  exact ⟨f, fd, fnD F sc__law_small rfl (fun cdv A outer s H E hr => (dss_one (ds_ret (de_cal h__law_part hr (da_cons (de_ix (de_cst (.lst (by decide) (.cons .int (.cons (.neg .int) (.cons .int (.cons (.neg .int) (.cons .int (.cons (.neg .int) (.cons .int (.cons (.neg .int) .nil)))))))))).w (de_cal h__law_take hr (da_cons (dv 0) (da_cons de_int da_nil))).w (fun _ _ => rfl)) (da_cons (de_op dadd (de_int).w (de_op ddiv_int (de_cal h__law_take hr (da_cons (dv 0) (da_cons de_int da_nil))).w (de_int).w).w) da_nil)))))), hm, F.kp, F.binds fun _ _ _ _ _ _ us hl => by obtain ⟨a0, rfl⟩ := len1 (show us.length = 1 from hl); rfl⟩
theorem sc__law_trimmed : FnScope ["_law_numbers", "_law_found"] ["_law_numbers"] (defScope s__law_trimmed) := ⟨rfl, rfl, rfl, by decide +kernel, rfl, by decide +kernel, by decide +kernel⟩
noncomputable def W__law_trimmed_1 : GS := sWhile (tAndF (asB (f2 gNe (fVarW 1) (eLst aNil))) (asB (f2 gEq (f2 gIx (f2 gIx (fVarW 1) (f1 gNeg (fC (.int 1)))) (fC (.int 0))) (fC (.int 0))))) (sPop 1)
noncomputable def G__law_trimmed : GS := (sSeq (sSetO 1 (oList (fVar 0)))
  (sSeq W__law_trimmed_1
  (sRet (f1 gTuple (fVarW 1)))))
noncomputable def g__law_trimmed : GF := mkFn 1 1 G__law_trimmed
theorem ok__law_trimmed (hf : Is K mg "_law_trimmed" s__law_trimmed) (n_list : mg "list" = none) (n_tuple : mg "tuple" = none) : Cal P w K mg base "_law_trimmed" ["_law_numbers"] 1 g__law_trimmed := by
  obtain ⟨f, fd, F, hm⟩ := hf
  have nd := sc__law_trimmed.nd
  exact ⟨f, fd, fnD F sc__law_trimmed rfl (fun cdv A outer s H E hr => (dss_cons (ds_setO (i := 1) nd (df_list (by first | rfl | decide +kernel) n_list (dv 0).w))
      (dss_cons (ds_while (dw_and (dt_cmp (dne hr.units) (dvw 1) (de_lst da_nil).w (nomark _)) (dw_and1 (dt_cmp (deq hr.units) (de_ix (de_ix (dvw 1) (de_neg (de_int).w).w (fun _ _ => rfl)).w (de_int).w (fun _ _ => rfl)).w (de_int).w (nomark _)))).t (dss_one (ds_pop (i := 1) (pv 1))))
      (dss_one (ds_ret (de_t1 dc_tuple (by first | rfl | decide +kernel) n_tuple (dvw 1))))))), hm, F.kp, F.binds fun _ _ _ _ _ _ us hl => by obtain ⟨a0, rfl⟩ := len1 (show us.length = 1 from hl); rfl⟩
theorem sc__law_series : FnScope ["_law_top", "_law_below", "_law_many", "_law_found", "_law_i", "_law_figure", "_law_j"] ["_law_top", "_law_below", "_law_many"] (defScope s__law_series) := ⟨rfl, rfl, rfl, by decide +kernel, rfl, by decide +kernel, by decide +kernel⟩
noncomputable def B__law_series_1 : GS := (sSet 5 (fCall g__law_minus (aCons (fVar 5) (aCons (fCall g__law_times (aCons (f2 gIx (fVar 1) (fVar 6)) (aCons (f2 gIx (fVarW 3) (f2 gSubI (fVar 4) (fVar 6))) aNil))) aNil))))
noncomputable def L__law_series_2 : GS := sFor (iRange2 (fC (.int 1)) (f2 gMin (f2 gAdd (fVar 4) (fC (.int 1))) (f1 gLen (fVar 1)))) (.one 6) B__law_series_1
noncomputable def B__law_series_3 : GS := (sSeq (sSet 5 (eIf (asB (f2 gLt (fVar 4) (f1 gLen (fVar 0)))) (f2 gIx (fVar 0) (fVar 4)) (eTup (aCons (fC (.int 0)) (aCons (fC (.int 1)) aNil)))))
  (sSeq L__law_series_2
  (sApp 3 (fVar 5))))
noncomputable def L__law_series_4 : GS := sFor (iRange1 (fVar 2)) (.one 4) B__law_series_3
noncomputable def G__law_series : GS := (sSeq (sSetO 3 (oLst aNil))
  (sSeq L__law_series_4
  (sRetO 3)))
noncomputable def gC__law_series : GC := mkFnC 3 4 G__law_series
noncomputable def g__law_series : GF := gOf gC__law_series
theorem ok__law_series (hf : Is K mg "_law_series" s__law_series) (h__law_minus : Cal P w K mg base "_law_minus" ["_law_one", "_law_other"] 2 g__law_minus) (h__law_times : Cal P w K mg base "_law_times" ["_law_one", "_law_other"] 2 g__law_times) (n_len : mg "len" = none) (n_min : mg "min" = none) (n_range : mg "range" = none) : CalC P w K mg base "_law_series" ["_law_top", "_law_below", "_law_many"] 3 gC__law_series := by
  obtain ⟨f, fd, F, hm⟩ := hf
  have nd := sc__law_series.nd
  exact ⟨f, fd, fnC F sc__law_series rfl (fun cdv A outer s H E hr => (dss_cons (ds_setO (i := 3) nd (df_lst' da_nil))
      (dss_cons (ds_for (di_range1 n_range (dv 2)) (dg_name (i := 4) nd) (dss_cons (ds_set (i := 5) nd (de_if (dt_cmp dlt (dv 4).w (de_b1 dc_len (by first | rfl | decide +kernel) n_len (dv 0).w).w (nomark _)) (de_ix (dv 0).w (dv 4).w (fun _ _ => rfl)) (de_tup (da_cons de_int (da_cons de_int da_nil)))))
      (dss_cons (ds_for (di_range2 n_range de_int (de_b2 (dc_min rfl) (by first | rfl | decide +kernel) n_min (de_op dadd (dv 4).w (de_int).w).w (de_b1 dc_len (by first | rfl | decide +kernel) n_len (dv 1).w).w)) (dg_name (i := 6) nd) (dss_one (ds_set (i := 5) nd (de_cal h__law_minus hr (da_cons (dv 5) (da_cons (de_cal h__law_times hr (da_cons (de_ix (dv 1).w (dv 6).w (fun _ _ => rfl)) (da_cons (de_ix (dvw 3) (de_op dsub_int (dv 4).w (dv 6).w).w (fun _ _ => rfl)) da_nil))) da_nil))))))
      (dss_one (ds_app (i := 3) (pv 3) (dv 5))))))
      (dss_one (ds_retO (i := 3) (pv 3)))))), hm, F.kp, F.binds fun _ _ _ _ _ _ us hl => by obtain ⟨a0, a1, a2, rfl⟩ := len3 (show us.length = 3 from hl); rfl⟩
theorem sc__law_two_polys : FnScope ["_law_state", "_law_a", "_law_b", "_law_top", "_law_below"] ["_law_state", "_law_a", "_law_b"] (defScope s__law_two_polys) := ⟨rfl, rfl, rfl, by decide +kernel, rfl, by decide +kernel, by decide +kernel⟩
noncomputable def C__law_two_polys_1 : FO := fComp 1 [0] (iRange1 (fVar 1)) (.one 0) fTrue (eIf (asB (f2 gLt (fVar 0) (fC (.int 2)))) (fCall g__law_number (aCons (fVar 1) aNil)) (eTup (aCons (f2 gSubI (fCall g__law_take (aCons (fVar 1) (aCons (fC (.int 7)) aNil))) (fC (.int 3))) (aCons (fC (.int 1)) aNil))))
noncomputable def C__law_two_polys_2 : FO := fComp 1 [0] (iRange1 (f2 gSubI (fVar 2) (fC (.int 1)))) (.one 0) fTrue (eTup (aCons (f2 gSubI (fCall g__law_take (aCons (fVar 1) (aCons (fC (.int 5)) aNil))) (fC (.int 2))) (aCons (fC (.int 1)) aNil)))
noncomputable def G__law_two_polys : GS := (sSeq (sSet 3 (f2 gAdd (asL C__law_two_polys_1) (eLst (aCons (fCall g__law_small (aCons (fVar 0) aNil)) aNil))))
  (sSeq (sSet 4 (f2 gAdd (eLst (aCons (eTup (aCons (fC (.int 1)) (aCons (fC (.int 1)) aNil))) aNil)) (asL C__law_two_polys_2)))
  (sRet (eTup (aCons (fCall g__law_trimmed (aCons (fVar 3) aNil)) (aCons (f1 gTuple (f2 gAdd (fVar 4) (f2 gMulA (eLst (aCons (fCall g__law_small (aCons (fVar 0) aNil)) aNil)) (f1 gInt (f2 gGt (fVar 2) (fC (.int 0))))))) aNil))))))
noncomputable def g__law_two_polys : GF := mkFn 3 2 G__law_two_polys
theorem ok__law_two_polys (hf : Is K mg "_law_two_polys" s__law_two_polys) (h__law_take : Cal P w K mg base "_law_take" ["_law_state", "_law_many"] 1 g__law_take) (h__law_number : Cal P w K mg base "_law_number" ["_law_state"] 2 g__law_number) (h__law_small : Cal P w K mg base "_law_small" ["_law_state"] 2 g__law_small) (h__law_trimmed : Cal P w K mg base "_law_trimmed" ["_law_numbers"] 1 g__law_trimmed) (n_int : mg "int" = none) (n_range : mg "range" = none) (n_tuple : mg "tuple" = none) : Cal P w K mg base "_law_two_polys" ["_law_state", "_law_a", "_law_b"] 3 g__law_two_polys := by
  obtain ⟨f, fd, F, hm⟩ := hf
  have nd := sc__law_two_polys.nd
  exact ⟨f, fd, fnD F sc__law_two_polys rfl (fun cdv A outer s H E hr => (dss_cons (ds_set (i := 3) nd (de_op dadd (DF.de (df_comp (N := ["_law_k", "_law_state"]) (k := 1) (fr := [0]) (compOkC (sc := defScope s__law_two_polys) (N0 := ["_law_state", "_law_a", "_law_b", "_law_top", "_law_below"]) (by rfl) (by rfl) (by decide +kernel) (fun _ h => cell_has h)) (by decide) (di_range1 n_range (dv 1)) (fun _ _ _ _ => by exact (dg_name (i := 0) (show List.Nodup (α := Str) ["_law_k", "_law_state"] by decide +kernel))) (fun _ _ _ _ => difs_nil) (fun _ _ _ _ => by exact (de_if (dt_cmp dlt (dv 0).w (de_int).w (nomark _)) (de_cal h__law_number hr (da_cons (dv 1) da_nil)) (de_tup (da_cons (de_op dsub_int (de_cal h__law_take hr (da_cons (dv 1) (da_cons de_int da_nil))).w (de_int).w) (da_cons de_int da_nil))))))).w (de_lst (da_cons (de_cal h__law_small hr (da_cons (dv 0) da_nil)) da_nil)).w))
      (dss_cons (ds_set (i := 4) nd (de_op dadd (de_lst (da_cons (de_tup (da_cons de_int (da_cons de_int da_nil))) da_nil)).w (DF.de (df_comp (N := ["_law_k", "_law_state"]) (k := 1) (fr := [0]) (compOkC (sc := defScope s__law_two_polys) (N0 := ["_law_state", "_law_a", "_law_b", "_law_top", "_law_below"]) (by rfl) (by rfl) (by decide +kernel) (fun _ h => cell_has h)) (by decide) (di_range1 n_range (de_op dsub_int (dv 2).w (de_int).w)) (fun _ _ _ _ => by exact (dg_name (i := 0) (show List.Nodup (α := Str) ["_law_k", "_law_state"] by decide +kernel))) (fun _ _ _ _ => difs_nil) (fun _ _ _ _ => by exact (de_tup (da_cons (de_op dsub_int (de_cal h__law_take hr (da_cons (dv 1) (da_cons de_int da_nil))).w (de_int).w) (da_cons de_int da_nil)))))).w))
      (dss_one (ds_ret (de_tup (da_cons (de_cal h__law_trimmed hr (da_cons (dv 3) da_nil)) (da_cons (de_t1 dc_tuple (by first | rfl | decide +kernel) n_tuple (de_op dadd (dv 4).w (de_op dmula (de_lst (da_cons (de_cal h__law_small hr (da_cons (dv 0) da_nil)) da_nil)).w (de_t1 dc_int (by first | rfl | decide +kernel) n_int (de_cmp dgt (dv 2).w (de_int).w (nomark _)).w).w).w).w) da_nil)))))))), hm, F.kp, F.binds fun _ _ _ _ _ _ us hl => by obtain ⟨a0, a1, a2, rfl⟩ := len3 (show us.length = 3 from hl); rfl⟩
theorem sc__law_any : FnScope ["_law_state", "_law_many"] ["_law_state", "_law_many"] (defScope s__law_any) := ⟨rfl, rfl, rfl, by decide +kernel, rfl, by decide +kernel, by decide +kernel⟩
noncomputable def G__law_any : GS := (sSeq (sIf (asB (f2 gGt (fVar 1) (fC (.int 10)))) (sRet (eTup (aCons (f2 gSubI (fCall g__law_take (aCons (fVar 0) (aCons (fC (.int 9)) aNil))) (fC (.int 4))) (aCons (fC (.int 1)) aNil)))) sNext)
  (sRet (fCall g__law_number (aCons (fVar 0) aNil))))
noncomputable def g__law_any : GF := mkFn 2 0 G__law_any
theorem ok__law_any (hf : Is K mg "_law_any" s__law_any) (h__law_take : Cal P w K mg base "_law_take" ["_law_state", "_law_many"] 1 g__law_take) (h__law_number : Cal P w K mg base "_law_number" ["_law_state"] 2 g__law_number) : Cal P w K mg base "_law_any" ["_law_state", "_law_many"] 3 g__law_any := by
  obtain ⟨f, fd, F, hm⟩ := hf
  have nd := sc__law_any.nd
  exact ⟨f, fd, fnD F sc__law_any rfl (fun cdv A outer s H E hr => (dss_cons (ds_if (dt_cmp dgt (dv 1).w (de_int).w (nomark _)) (dss_one (ds_ret (de_tup (da_cons (de_op dsub_int (de_cal h__law_take hr (da_cons (dv 0) (da_cons de_int da_nil))).w (de_int).w) (da_cons de_int da_nil))))) dss_nil)
      (dss_one (ds_ret (de_cal h__law_number hr (da_cons (dv 0) da_nil)))))), hm, F.kp, F.binds fun _ _ _ _ _ _ us hl => by obtain ⟨a0, a1, rfl⟩ := len2 (show us.length = 2 from hl); rfl⟩
theorem sc__law_row : FnScope ["_law_state", "_law_many", "_law_way", "_law_ahead", "_law_row_here", "_law_turn", "_law_top", "_law_below", "_law_spot"] ["_law_state", "_law_many"] (defScope s__law_row) := ⟨rfl, rfl, rfl, by decide +kernel, rfl, by decide +kernel, by decide +kernel⟩
noncomputable def C__law_row_1 : FO := fComp 1 [0, 1] (iRange1 (fVar 1)) (.one 0) fTrue (fCall g__law_any (aCons (fVar 1) (aCons (fVar 2) aNil)))
noncomputable def C__law_row_2 : FO := fComp 1 [0, 1] (iRange1 (f2 gSubI (fVar 1) (fVar 3))) (.one 0) fTrue (fCall g__law_any (aCons (fVar 1) (aCons (fVar 2) aNil)))
noncomputable def B__law_row_3 : GS := (sPut 4 (fCall g__law_take (aCons (fVar 0) (aCons (fVar 1) aNil))) (fCall g__law_small (aCons (fVar 0) aNil)))
noncomputable def L__law_row_4 : GS := sFor (iRange1 (fCall g__law_take (aCons (fVar 0) (aCons (fC (.int 4)) aNil)))) (.one 5) B__law_row_3
noncomputable def C__law_row_5 : FO := fComp 1 [] (iSeq (fVar 6)) (.one 0) fTrue (eTup (aCons (f2 gSubI (f2 gModI (f2 gIx (fVar 0) (fC (.int 0))) (fC (.int 9))) (fC (.int 4))) (aCons (fC (.int 1)) aNil)))
noncomputable def G__law_row : GS := (sSeq (sSet 2 (fCall g__law_take (aCons (fVar 0) (aCons (fC (.int 8)) aNil))))
  (sSeq (sIf (asB (f2 gLt (fVar 2) (fC (.int 2)))) (sRet (asL C__law_row_1)) sNext)
  (sSeq (sIf (asB (f2 gEq (fVar 2) (fC (.int 2)))) (sSeq (sSet 3 (fCall g__law_take (aCons (fVar 0) (aCons (f2 gAdd (fVar 1) (fC (.int 1))) aNil))))
  (sRet (f2 gAdd (f2 gMulA (eLst (aCons (eTup (aCons (fC (.int 0)) (aCons (fC (.int 1)) aNil))) aNil)) (fVar 3)) (asL C__law_row_2)))) sNext)
  (sSeq (sIf (asB (f2 gEq (fVar 2) (fC (.int 3)))) (sSeq (sSetO 4 (o2 lRep (eLst (aCons (eTup (aCons (fC (.int 0)) (aCons (fC (.int 1)) aNil))) aNil)) (fVar 1)))
  (sSeq L__law_row_4
  (sSeq (sFrz 4) (sRet (fVar 4))))) sNext)
  (sSeq (sUnp (.tup [6, 7]) (fCall g__law_two_polys (aCons (fVar 0) (aCons (fCall g__law_take (aCons (fVar 0) (aCons (f2 gAdd (fC (.int 1)) (f2 gDivI (fVar 1) (fC (.int 2)))) aNil))) (aCons (fCall g__law_take (aCons (fVar 0) (aCons (f2 gAdd (fC (.int 1)) (f2 gDivI (fVar 1) (fC (.int 3)))) aNil))) aNil)))))
  (sSeq (sIf (asB (f2 gGt (fVar 1) (fC (.int 10)))) (sSet 6 (fCall g__law_trimmed (aCons (asL C__law_row_5) aNil))) sNext)
  (sSeq (sSetC 4 (fCallC gC__law_series (aCons (fVar 6) (aCons (fVar 7) (aCons (fVar 1) aNil)))))
  (sSeq (sIf (asB (f2 gGt (fVar 2) (fC (.int 5)))) (sSeq (sSet 8 (fCall g__law_take (aCons (fVar 0) (aCons (fVar 1) aNil))))
  (sPut 4 (fVar 8) (fCall g__law_plus (aCons (f2 gIx (fVarW 4) (fVar 8)) (aCons (fCall g__law_small (aCons (fVar 0) aNil)) aNil))))) sNext)
  (sSeq (sFrz 4) (sRet (fVar 4)))))))))))
noncomputable def g__law_row : GF := mkFn 2 7 G__law_row
theorem ok__law_row (hf : Is K mg "_law_row" s__law_row) (h__law_take : Cal P w K mg base "_law_take" ["_law_state", "_law_many"] 1 g__law_take) (h__law_plus : Cal P w K mg base "_law_plus" ["_law_one", "_law_other"] 2 g__law_plus) (h__law_small : Cal P w K mg base "_law_small" ["_law_state"] 2 g__law_small) (h__law_trimmed : Cal P w K mg base "_law_trimmed" ["_law_numbers"] 1 g__law_trimmed) (h__law_two_polys : Cal P w K mg base "_law_two_polys" ["_law_state", "_law_a", "_law_b"] 3 g__law_two_polys) (h__law_any : Cal P w K mg base "_law_any" ["_law_state", "_law_many"] 3 g__law_any) (hC__law_series : CalC P w K mg base "_law_series" ["_law_top", "_law_below", "_law_many"] 3 gC__law_series) (n_range : mg "range" = none) : Cal P w K mg base "_law_row" ["_law_state", "_law_many"] 4 g__law_row := by
  obtain ⟨f, fd, F, hm⟩ := hf
  have nd := sc__law_row.nd
  exact ⟨f, fd, fnD F sc__law_row rfl (fun cdv A outer s H E hr => (dss_cons (ds_set (i := 2) nd (de_cal h__law_take hr (da_cons (dv 0) (da_cons de_int da_nil))))
      (dss_cons (ds_if (dt_cmp dlt (dv 2).w (de_int).w (nomark _)) (dss_one (ds_ret (DF.de (df_comp (N := ["_law_k", "_law_state", "_law_many"]) (k := 1) (fr := [0, 1]) (compOkC (sc := defScope s__law_row) (N0 := ["_law_state", "_law_many", "_law_way", "_law_ahead", "_law_row_here", "_law_turn", "_law_top", "_law_below", "_law_spot"]) (by rfl) (by rfl) (by decide +kernel) (fun _ h => cell_has h)) (by decide) (di_range1 n_range (dv 1)) (fun _ _ _ _ => by exact (dg_name (i := 0) (show List.Nodup (α := Str) ["_law_k", "_law_state", "_law_many"] by decide +kernel))) (fun _ _ _ _ => difs_nil) (fun _ _ _ _ => by exact (de_cal h__law_any hr (da_cons (dv 1) (da_cons (dv 2) da_nil)))))))) dss_nil)
      (dss_cons (ds_if (dt_cmp (deq hr.units) (dv 2).w (de_int).w (nomark _)) (dss_cons (ds_set (i := 3) nd (de_cal h__law_take hr (da_cons (dv 0) (da_cons (de_op dadd (dv 1).w (de_int).w) da_nil))))
      (dss_one (ds_ret (de_op dadd (de_op dmula (de_lst (da_cons (de_tup (da_cons de_int (da_cons de_int da_nil))) da_nil)).w (dv 3).w).w (DF.de (df_comp (N := ["_law_k", "_law_state", "_law_many"]) (k := 1) (fr := [0, 1]) (compOkC (sc := defScope s__law_row) (N0 := ["_law_state", "_law_many", "_law_way", "_law_ahead", "_law_row_here", "_law_turn", "_law_top", "_law_below", "_law_spot"]) (by rfl) (by rfl) (by decide +kernel) (fun _ h => cell_has h)) (by decide) (di_range1 n_range (de_op dsub_int (dv 1).w (dv 3).w)) (fun _ _ _ _ => by exact (dg_name (i := 0) (show List.Nodup (α := Str) ["_law_k", "_law_state", "_law_many"] by decide +kernel))) (fun _ _ _ _ => difs_nil) (fun _ _ _ _ => by exact (de_cal h__law_any hr (da_cons (dv 1) (da_cons (dv 2) da_nil)))))).w)))) dss_nil)
      (dss_cons (ds_if (dt_cmp (deq hr.units) (dv 2).w (de_int).w (nomark _)) (dss_cons (ds_setO (i := 4) nd (df_rep (de_lst (da_cons (de_tup (da_cons de_int (da_cons de_int da_nil))) da_nil)).w (dv 1).w))
      (dss_cons (ds_for (di_range1 n_range (de_cal h__law_take hr (da_cons (dv 0) (da_cons de_int da_nil)))) (dg_name (i := 5) nd) (dss_one (ds_put (i := 4) (pv 4) (de_cal h__law_take hr (da_cons (dv 0) (da_cons (dv 1) da_nil))).w (de_cal h__law_small hr (da_cons (dv 0) da_nil)))))
      (dss_one (ds_frz 4 (ds_ret (dv 4)))))) dss_nil)
      (dss_cons (ds_asg (de_cal h__law_two_polys hr (da_cons (dv 0) (da_cons (de_cal h__law_take hr (da_cons (dv 0) (da_cons (de_op dadd (de_int).w (de_op ddiv_int (dv 1).w (de_int).w).w) da_nil))) (da_cons (de_cal h__law_take hr (da_cons (dv 0) (da_cons (de_op dadd (de_int).w (de_op ddiv_int (dv 1).w (de_int).w).w) da_nil))) da_nil)))) (dg_tup (pgn_cons (i := 6) nd (pgn_cons (i := 7) nd pgn_nil))))
      (dss_cons (ds_if (dt_cmp dgt (dv 1).w (de_int).w (nomark _)) (dss_one (ds_set (i := 6) nd (de_cal h__law_trimmed hr (da_cons (DF.de (df_comp (N := ["_law_part_here"]) (k := 1) (fr := []) (compOk0 rfl (by decide +kernel) (by decide +kernel) (by decide +kernel) rfl) (by decide) (di_seq (dv 6)) (fun _ _ _ _ => by exact (dg_name (i := 0) (show List.Nodup (α := Str) ["_law_part_here"] by decide +kernel))) (fun _ _ _ _ => difs_nil) (fun _ _ _ _ => by exact (de_tup (da_cons (de_op dsub_int (de_op dmod_int (de_ix (dv 0).w (de_int).w (fun _ _ => rfl)).w (de_int).w).w (de_int).w) (da_cons de_int da_nil)))))) da_nil)))) dss_nil)
      (dss_cons (ds_setC (i := 4) nd (dc_cal hC__law_series hr (da_cons (dv 6) (da_cons (dv 7) (da_cons (dv 1) da_nil)))))
      (dss_cons (ds_if (dt_cmp dgt (dv 2).w (de_int).w (nomark _)) (dss_cons (ds_set (i := 8) nd (de_cal h__law_take hr (da_cons (dv 0) (da_cons (dv 1) da_nil))))
      (dss_one (ds_put (i := 4) (pv 4) (dv 8).w (de_cal h__law_plus hr (da_cons (de_ix (dvw 4) (dv 8).w (fun _ _ => rfl)) (da_cons (de_cal h__law_small hr (da_cons (dv 0) da_nil)) da_nil)))))) dss_nil)
      (dss_one (ds_frz 4 (ds_ret (dv 4))))))))))))), hm, F.kp, F.binds fun _ _ _ _ _ _ us hl => by obtain ⟨a0, a1, rfl⟩ := len2 (show us.length = 2 from hl); rfl⟩
theorem sc__law_rung : FnScope ["_law_base", "_law_left", "_law_right"] ["_law_base", "_law_left", "_law_right"] (defScope s__law_rung) := ⟨rfl, rfl, rfl, by decide +kernel, rfl, by decide +kernel, by decide +kernel⟩
noncomputable def G__law_rung : GS := (sSeq (sIf (tOrF (asB (f2 gIs (fVar 0) (fC .none))) (tOrF (asB (f2 gIs (fVar 1) (fC .none))) (tOrF (asB (f2 gIs (fVar 2) (fC .none))) (asB (f2 gEq (fVar 1) (fVar 2)))))) (sRet (fC .none)) sNext)
  (sRet (fCall g__law_plus (aCons (fVar 0) (aCons (fCall g__law_over (aCons (eTup (aCons (fC (.int 1)) (aCons (fC (.int 1)) aNil))) (aCons (fCall g__law_minus (aCons (fVar 2) (aCons (fVar 1) aNil))) aNil))) aNil)))))
noncomputable def g__law_rung : GF := mkFn 3 0 G__law_rung
theorem ok__law_rung (hf : Is K mg "_law_rung" s__law_rung) (h__law_plus : Cal P w K mg base "_law_plus" ["_law_one", "_law_other"] 2 g__law_plus) (h__law_minus : Cal P w K mg base "_law_minus" ["_law_one", "_law_other"] 2 g__law_minus) (h__law_over : Cal P w K mg base "_law_over" ["_law_one", "_law_other"] 2 g__law_over) : Cal P w K mg base "_law_rung" ["_law_base", "_law_left", "_law_right"] 3 g__law_rung := by
  obtain ⟨f, fd, F, hm⟩ := hf
  have nd := sc__law_rung.nd
  exact ⟨f, fd, fnD F sc__law_rung rfl (fun cdv A outer s H E hr => (dss_cons (ds_if (dw_or (dt_cmp dis (dv 0).w (de_non).w (nomark _)) (dw_or (dt_cmp dis (dv 1).w (de_non).w (nomark _)) (dw_or (dt_cmp dis (dv 2).w (de_non).w (nomark _)) (dw_or1 (dt_cmp (deq hr.units) (dv 1).w (dv 2).w (nomark _)))))).t (dss_one (ds_ret de_non)) dss_nil)
      (dss_one (ds_ret (de_cal h__law_plus hr (da_cons (dv 0) (da_cons (de_cal h__law_over hr (da_cons (de_tup (da_cons de_int (da_cons de_int da_nil))) (da_cons (de_cal h__law_minus hr (da_cons (dv 2) (da_cons (dv 1) da_nil))) da_nil))) da_nil))))))), hm, F.kp, F.binds fun _ _ _ _ _ _ us hl => by obtain ⟨a0, a1, a2, rfl⟩ := len3 (show us.length = 3 from hl); rfl⟩
theorem sc__law_columns : FnScope ["_law_sums", "_law_found", "_law_here", "_law_ahead"] ["_law_sums"] (defScope s__law_columns) := ⟨rfl, rfl, rfl, by decide +kernel, rfl, by decide +kernel, by decide +kernel⟩
noncomputable def C__law_columns_1 : FO := fComp 1 [3, 2] (iRange1 (f2 gSubI (f1 gLen (fVar 2)) (fC (.int 1)))) (.one 0) fTrue (fCall g__law_rung (aCons (f2 gIx (fVar 1) (f2 gAdd (fVar 0) (fC (.int 1)))) (aCons (f2 gIx (fVar 2) (fVar 0)) (aCons (f2 gIx (fVar 2) (f2 gAdd (fVar 0) (fC (.int 1)))) aNil))))
noncomputable def W__law_columns_2 : GS := sWhile (asB (f2 gGt (f1 gLen (f2 gIx (fVarW 1) (f1 gNeg (fC (.int 1))))) (fC (.int 1)))) (sSeq (sSet 2 (f2 gIx (fVarW 1) (f1 gNeg (fC (.int 1)))))
  (sSeq (sSet 3 (eIf (asB (f2 gGt (f1 gLen (fVarW 1)) (fC (.int 1)))) (f2 gIx (fVarW 1) (f1 gNeg (fC (.int 2)))) (f2 gMulA (eLst (aCons (eTup (aCons (fC (.int 0)) (aCons (fC (.int 1)) aNil))) aNil)) (f2 gAdd (f1 gLen (fVar 2)) (fC (.int 1))))))
  (sApp 1 (asL C__law_columns_1))))
noncomputable def G__law_columns : GS := (sSeq (sSetO 1 (oLst (aCons (f1 gList (fVar 0)) aNil)))
  (sSeq W__law_columns_2
  (sSeq (sFrz 1) (sRet (fVar 1)))))
noncomputable def g__law_columns : GF := mkFn 1 3 G__law_columns
theorem ok__law_columns (hf : Is K mg "_law_columns" s__law_columns) (h__law_rung : Cal P w K mg base "_law_rung" ["_law_base", "_law_left", "_law_right"] 3 g__law_rung) (n_len : mg "len" = none) (n_list : mg "list" = none) (n_range : mg "range" = none) : Cal P w K mg base "_law_columns" ["_law_sums"] 4 g__law_columns := by
  obtain ⟨f, fd, F, hm⟩ := hf
  have nd := sc__law_columns.nd
  exact ⟨f, fd, fnD F sc__law_columns rfl (fun cdv A outer s H E hr => (dss_cons (ds_setO (i := 1) nd (df_lst' (da_cons (de_t1 dc_list (by first | rfl | decide +kernel) n_list (dv 0).w) da_nil)))
      (dss_cons (ds_while (dt_cmp dgt (de_b1 dc_len (by first | rfl | decide +kernel) n_len (de_ix (dvw 1) (de_neg (de_int).w).w (fun _ _ => rfl)).w).w (de_int).w (nomark _)) (dss_cons (ds_set (i := 2) nd (de_ix (dvw 1) (de_neg (de_int).w).w (fun _ _ => rfl)))
      (dss_cons (ds_set (i := 3) nd (de_if (dt_cmp dgt (de_b1 dc_len (by first | rfl | decide +kernel) n_len (dvw 1)).w (de_int).w (nomark _)) (de_ix (dvw 1) (de_neg (de_int).w).w (fun _ _ => rfl)) (de_op dmula (de_lst (da_cons (de_tup (da_cons de_int (da_cons de_int da_nil))) da_nil)).w (de_op dadd (de_b1 dc_len (by first | rfl | decide +kernel) n_len (dv 2).w).w (de_int).w).w)))
      (dss_one (ds_app (i := 1) (pv 1) (DF.de (df_comp (N := ["_law_i", "_law_ahead", "_law_here"]) (k := 1) (fr := [3, 2]) (compOkC (sc := defScope s__law_columns) (N0 := ["_law_sums", "_law_found", "_law_here", "_law_ahead"]) (by rfl) (by rfl) (by decide +kernel) (fun _ h => cell_has h)) (by decide) (di_range1 n_range (de_op dsub_int (de_b1 dc_len (by first | rfl | decide +kernel) n_len (dv 2).w).w (de_int).w)) (fun _ _ _ _ => by exact (dg_name (i := 0) (show List.Nodup (α := Str) ["_law_i", "_law_ahead", "_law_here"] by decide +kernel))) (fun _ _ _ _ => difs_nil) (fun _ _ _ _ => by exact (de_cal h__law_rung hr (da_cons (de_ix (dv 1).w (de_op dadd (dv 0).w (de_int).w).w (fun _ _ => rfl)) (da_cons (de_ix (dv 2).w (dv 0).w (fun _ _ => rfl)) (da_cons (de_ix (dv 2).w (de_op dadd (dv 0).w (de_int).w).w (fun _ _ => rfl)) da_nil))))))))))))
      (dss_one (ds_frz 1 (ds_ret (dv 1))))))), hm, F.kp, F.binds fun _ _ _ _ _ _ us hl => by obtain ⟨a0, rfl⟩ := len1 (show us.length = 1 from hl); rfl⟩
theorem sc__law_places : FnScope ["_law_state", "_law_turn", "_law_way"] ["_law_state", "_law_turn"] (defScope s__law_places) := ⟨rfl, rfl, rfl, by decide +kernel, rfl, by decide +kernel, by decide +kernel⟩
noncomputable def G__law_places : GS := (sSeq (sSet 2 (fCall g__law_take (aCons (fVar 0) (aCons (fC (.int 8)) aNil))))
  (sSeq (sIf (tAndF (asB (f2 gEq (fVar 2) (fC (.int 0)))) (asB (f2 gEq (fVar 1) (fC (.int 0))))) (sRet (f2 gAdd (fC (.int 9)) (fCall g__law_take (aCons (fVar 0) (aCons (fC (.int 4)) aNil))))) sNext)
  (sRet (f2 gIx (eLst (aCons (fC (.int 8)) (aCons (f2 gAdd (fC (.int 1)) (fCall g__law_take (aCons (fVar 0) (aCons (fC (.int 2)) aNil)))) (aCons (fC (.int 3)) (aCons (fC (.int 4)) (aCons (fC (.int 5)) (aCons (fC (.int 6)) (aCons (fC (.int 7)) (aCons (fC (.int 6)) aNil))))))))) (fVar 2)))))
noncomputable def g__law_places : GF := mkFn 2 1 G__law_places
theorem ok__law_places (hf : Is K mg "_law_places" s__law_places) (h__law_take : Cal P w K mg base "_law_take" ["_law_state", "_law_many"] 1 g__law_take) : Cal P w K mg base "_law_places" ["_law_state", "_law_turn"] 2 g__law_places := by
  obtain ⟨f, fd, F, hm⟩ := hf
  have nd := sc__law_places.nd
  exact ⟨f, fd, fnD F sc__law_places rfl (fun cdv A outer s H E hr => (dss_cons (ds_set (i := 2) nd (de_cal h__law_take hr (da_cons (dv 0) (da_cons de_int da_nil))))
      (dss_cons (ds_if (dw_and (dt_cmp (deq hr.units) (dv 2).w (de_int).w (nomark _)) (dw_and1 (dt_cmp (deq hr.units) (dv 1).w (de_int).w (nomark _)))).t (dss_one (ds_ret (de_op dadd (de_int).w (de_cal h__law_take hr (da_cons (dv 0) (da_cons de_int da_nil))).w))) dss_nil)
      (dss_one (ds_ret (de_ix (de_lst (da_cons de_int (da_cons (de_op dadd (de_int).w (de_cal h__law_take hr (da_cons (dv 0) (da_cons de_int da_nil))).w) (da_cons de_int (da_cons de_int (da_cons de_int (da_cons de_int (da_cons de_int (da_cons de_int da_nil))))))))).w (dv 2).w (fun _ _ => rfl))))))), hm, F.kp, F.binds fun _ _ _ _ _ _ us hl => by obtain ⟨a0, a1, rfl⟩ := len2 (show us.length = 2 from hl); rfl⟩
theorem sc__law_x : FnScope ["_law_state"] ["_law_state"] (defScope s__law_x) := ⟨rfl, rfl, rfl, by decide +kernel, rfl, by decide +kernel, by decide +kernel⟩
noncomputable def G__law_x : GS := (sRet (f2 gIx (eLst (aCons (eTup (aCons (fC (.int 0)) (aCons (fC (.int 1)) aNil))) (aCons (eTup (aCons (fC (.int 1)) (aCons (fC (.int 1)) aNil))) (aCons (eTup (aCons (f1 gNeg (fC (.int 1))) (aCons (fC (.int 1)) aNil))) (aCons (fCall g__law_small (aCons (fVar 0) aNil)) (aCons (fCall g__law_part (aCons (f2 gSubI (fCall g__law_take (aCons (fVar 0) (aCons (fC (.int 13)) aNil))) (fC (.int 6))) (aCons (fC (.int 5)) aNil))) aNil)))))) (fCall g__law_take (aCons (fVar 0) (aCons (fC (.int 5)) aNil)))))
noncomputable def g__law_x : GF := mkFn 1 0 G__law_x
theorem ok__law_x (hf : Is K mg "_law_x" s__law_x) (h__law_take : Cal P w K mg base "_law_take" ["_law_state", "_law_many"] 1 g__law_take) (h__law_part : Cal P w K mg base "_law_part" ["_law_top", "_law_below"] 1 g__law_part) (h__law_small : Cal P w K mg base "_law_small" ["_law_state"] 2 g__law_small) : Cal P w K mg base "_law_x" ["_law_state"] 3 g__law_x := by
  obtain ⟨f, fd, F, hm⟩ := hf
  have nd := sc__law_x.nd
  exact ⟨f, fd, fnD F sc__law_x rfl (fun cdv A outer s H E hr => (dss_one (ds_ret (de_ix (de_lst (da_cons (de_tup (da_cons de_int (da_cons de_int da_nil))) (da_cons (de_tup (da_cons de_int (da_cons de_int da_nil))) (da_cons (de_tup (da_cons (de_neg (de_int).w) (da_cons de_int da_nil))) (da_cons (de_cal h__law_small hr (da_cons (dv 0) da_nil)) (da_cons (de_cal h__law_part hr (da_cons (de_op dsub_int (de_cal h__law_take hr (da_cons (dv 0) (da_cons de_int da_nil))).w (de_int).w) (da_cons de_int da_nil))) da_nil)))))).w (de_cal h__law_take hr (da_cons (dv 0) (da_cons de_int da_nil))).w (fun _ _ => rfl))))), hm, F.kp, F.binds fun _ _ _ _ _ _ us hl => by obtain ⟨a0, rfl⟩ := len1 (show us.length = 1 from hl); rfl⟩
theorem sc__law_some_sums : FnScope ["_law_state", "_law_turn", "_law_many", "_law_way"] ["_law_state", "_law_turn"] (defScope s__law_some_sums) := ⟨rfl, rfl, rfl, by decide +kernel, rfl, by decide +kernel, by decide +kernel⟩
noncomputable def C__law_some_sums_1 : FO := fComp 1 [0] (iRange1 (f2 gAdd (fC (.int 20)) (fCall g__law_take (aCons (fVar 0) (aCons (fC (.int 5)) aNil))))) (.one 0) fTrue (eTup (aCons (fCall g__law_take (aCons (fVar 1) (aCons (fC (.int 9)) aNil))) (aCons (fC (.int 1)) aNil)))
noncomputable def C__law_some_sums_2 : FO := fComp 1 [0] (iRange1 (fVar 2)) (.one 0) fTrue (fCall g__law_number (aCons (fVar 1) aNil))
noncomputable def C__law_some_sums_3 : FO := fComp 1 [] (iRange1 (fVar 2)) (.one 0) fTrue (fCall g__law_part (aCons (fC (.int 1)) (aCons (f2 gAdd (fC (.int 1)) (f2 gMulI (fVar 0) (f2 gAdd (fC (.int 1)) (fVar 0)))) aNil)))
noncomputable def G__law_some_sums : GS := (sSeq (sSet 2 (fCall g__law_places (aCons (fVar 0) (aCons (fVar 1) aNil))))
  (sSeq (sIf (tAndF (asB (f2 gEq (fVar 1) (fC (.int 0)))) (asB (f2 gEq (fCall g__law_take (aCons (fVar 0) (aCons (fC (.int 16)) aNil))) (fC (.int 0))))) (sRet (asL C__law_some_sums_1)) sNext)
  (sSeq (sSet 3 (fCall g__law_take (aCons (fVar 0) (aCons (fC (.int 4)) aNil))))
  (sSeq (sIf (asB (f2 gEq (fVar 3) (fC (.int 0)))) (sRet (asL C__law_some_sums_2)) sNext)
  (sSeq (sIf (asB (f2 gEq (fVar 3) (fC (.int 1)))) (sRet (asL C__law_some_sums_3)) sNext)
  (sRet (fCall g_sums_of (aCons (fCall g__law_row (aCons (fVar 0) (aCons (fVar 2) aNil))) (aCons (fCall g__law_x (aCons (fVar 0) aNil)) aNil)))))))))
noncomputable def g__law_some_sums : GF := mkFn 2 2 G__law_some_sums
theorem ok__law_some_sums (hf : Is K mg "_law_some_sums" s__law_some_sums) (h_sums_of : Cal P w K mg base "sums_of" ["row", "x"] 6 g_sums_of) (h__law_take : Cal P w K mg base "_law_take" ["_law_state", "_law_many"] 1 g__law_take) (h__law_part : Cal P w K mg base "_law_part" ["_law_top", "_law_below"] 1 g__law_part) (h__law_number : Cal P w K mg base "_law_number" ["_law_state"] 2 g__law_number) (h__law_row : Cal P w K mg base "_law_row" ["_law_state", "_law_many"] 4 g__law_row) (h__law_places : Cal P w K mg base "_law_places" ["_law_state", "_law_turn"] 2 g__law_places) (h__law_x : Cal P w K mg base "_law_x" ["_law_state"] 3 g__law_x) (n_range : mg "range" = none) : Cal P w K mg base "_law_some_sums" ["_law_state", "_law_turn"] 7 g__law_some_sums := by
  obtain ⟨f, fd, F, hm⟩ := hf
  have nd := sc__law_some_sums.nd
  exact ⟨f, fd, fnD F sc__law_some_sums rfl (fun cdv A outer s H E hr => (dss_cons (ds_set (i := 2) nd (de_cal h__law_places hr (da_cons (dv 0) (da_cons (dv 1) da_nil))))
      (dss_cons (ds_if (dw_and (dt_cmp (deq hr.units) (dv 1).w (de_int).w (nomark _)) (dw_and1 (dt_cmp (deq hr.units) (de_cal h__law_take hr (da_cons (dv 0) (da_cons de_int da_nil))).w (de_int).w (nomark _)))).t (dss_one (ds_ret (DF.de (df_comp (N := ["_law_k", "_law_state"]) (k := 1) (fr := [0]) (compOkC (sc := defScope s__law_some_sums) (N0 := ["_law_state", "_law_turn", "_law_many", "_law_way"]) (by rfl) (by rfl) (by decide +kernel) (fun _ h => cell_has h)) (by decide) (di_range1 n_range (de_op dadd (de_int).w (de_cal h__law_take hr (da_cons (dv 0) (da_cons de_int da_nil))).w)) (fun _ _ _ _ => by exact (dg_name (i := 0) (show List.Nodup (α := Str) ["_law_k", "_law_state"] by decide +kernel))) (fun _ _ _ _ => difs_nil) (fun _ _ _ _ => by exact (de_tup (da_cons (de_cal h__law_take hr (da_cons (dv 1) (da_cons de_int da_nil))) (da_cons de_int da_nil)))))))) dss_nil)
      (dss_cons (ds_set (i := 3) nd (de_cal h__law_take hr (da_cons (dv 0) (da_cons de_int da_nil))))
      (dss_cons (ds_if (dt_cmp (deq hr.units) (dv 3).w (de_int).w (nomark _)) (dss_one (ds_ret (DF.de (df_comp (N := ["_law_k", "_law_state"]) (k := 1) (fr := [0]) (compOkC (sc := defScope s__law_some_sums) (N0 := ["_law_state", "_law_turn", "_law_many", "_law_way"]) (by rfl) (by rfl) (by decide +kernel) (fun _ h => cell_has h)) (by decide) (di_range1 n_range (dv 2)) (fun _ _ _ _ => by exact (dg_name (i := 0) (show List.Nodup (α := Str) ["_law_k", "_law_state"] by decide +kernel))) (fun _ _ _ _ => difs_nil) (fun _ _ _ _ => by exact (de_cal h__law_number hr (da_cons (dv 1) da_nil))))))) dss_nil)
      (dss_cons (ds_if (dt_cmp (deq hr.units) (dv 3).w (de_int).w (nomark _)) (dss_one (ds_ret (DF.de (df_comp (N := ["_law_k"]) (k := 1) (fr := []) (compOk0 rfl (by decide +kernel) (by decide +kernel) (by decide +kernel) rfl) (by decide) (di_range1 n_range (dv 2)) (fun _ _ _ _ => by exact (dg_name (i := 0) (show List.Nodup (α := Str) ["_law_k"] by decide +kernel))) (fun _ _ _ _ => difs_nil) (fun _ _ _ _ => by exact (de_cal h__law_part hr (da_cons de_int (da_cons (de_op dadd (de_int).w (de_op dmul_int (dv 0).w (de_op dadd (de_int).w (dv 0).w).w).w) da_nil)))))))) dss_nil)
      (dss_one (ds_ret (de_cal h_sums_of hr (da_cons (de_cal h__law_row hr (da_cons (dv 0) (da_cons (dv 2) da_nil))) (da_cons (de_cal h__law_x hr (da_cons (dv 0) da_nil)) da_nil))))))))))), hm, F.kp, F.binds fun _ _ _ _ _ _ us hl => by obtain ⟨a0, a1, rfl⟩ := len2 (show us.length = 2 from hl); rfl⟩
theorem sc_law : FnScope ["_law_script", "_law_state", "_law_turn", "_law_sums", "_law_due", "_law_handed", "_law_found", "_law_column"] ["_law_script"] (defScope s_law) := ⟨rfl, rfl, rfl, by decide +kernel, rfl, by decide +kernel, by decide +kernel⟩
noncomputable def B_law_1 : GS := (sSeq (sSet 3 (fCall g__law_some_sums (aCons (fVar 1) (aCons (fVar 2) aNil))))
  (sSeq (sSet 4 (fCall g__law_columns (aCons (fVar 3) aNil)))
  (sSeq (sSet 5 (eIf (asB (f2 gEq (fCall g__law_take (aCons (fVar 1) (aCons (fC (.int 3)) aNil))) (fC (.int 0)))) (f1 gTuple (fVar 3)) (f1 gList (fVar 3))))
  (sSeq (sBlk 6 7 gL_ladder (aCons (fVar 5) aNil) (tOrF (tNotF (asT (fCall g__law_same (aCons (fVar 6) (aCons (fVar 4) aNil))))) (asB (f2 gNe (f1 gList (fVar 5)) (fVar 3)))))
  (sIf (tOrF (tNotF (asT (fCall g__law_same (aCons (fCall g_ladder (aCons (fVar 5) aNil)) (aCons (fVar 4) aNil))))) (asB (f2 gNe (f1 gList (fVar 5)) (fVar 3)))) (sRet (fC (.bool false))) sNext)))))
noncomputable def L_law_2 : GS := sFor (iRange1 (fC (.int 5))) (.one 2) B_law_1
noncomputable def d_law : Sl := [.non, .val (.dict []), .non, .non, .non, .non, .non, .non]
noncomputable def G_law : GS := (sSeq L_law_2
  (sRet (fC (.bool true))))
theorem drawers : ∀ (m : Nat) (f : Nat → Nat), (∀ i, i ≤ m → f i < m) → ∃ i j, i < j ∧ j ≤ m ∧ f i = f j
  | 0, f, h => absurd (h 0 (Nat.le_refl _)) (Nat.not_lt_zero _)
  | m + 1, f, h => by
    by_cases e : ∃ i, i ≤ m ∧ f i = f (m + 1)
    · obtain ⟨i, hi, e⟩ := e
      exact ⟨i, m + 1, by omega, Nat.le_refl _, e⟩
    · obtain ⟨i, j, h1, h2, h3⟩ := drawers m (fun i => if f i = m then f (m + 1) else f i) fun i hi => by
        have a := h i (by omega)
        have b := h (m + 1) (Nat.le_refl _)
        have c : f i ≠ f (m + 1) := fun z => e ⟨i, hi, z⟩
        show (if f i = m then f (m + 1) else f i) < m
        split <;> omega
      refine ⟨i, j, h1, by omega, ?_⟩
      replace h3 : (if f i = m then f (m + 1) else f i) = if f j = m then f (m + 1) else f j := h3
      split at h3 <;> split at h3
      · omega
      · exact absurd ⟨j, h2, h3.symm⟩ e
      · exact absurd ⟨i, by omega, h3⟩ e
      · exact h3
noncomputable def dig (Y : Nat) : Nat → Nat → Nat
  | c, 0 => c % Y
  | c, j + 1 => dig Y (c / Y) j
theorem dig_lt {Y : Nat} (h : 0 < Y) : ∀ (j c : Nat), dig Y c j < Y
  | 0, c => Nat.mod_lt _ h
  | j + 1, c => dig_lt h j _
theorem dig_inj {Y : Nat} : ∀ (n c d : Nat), c < Y ^ n → d < Y ^ n → (∀ j, j < n → dig Y c j = dig Y d j) → c = d
  | 0, c, d, h1, h2, _ => by rw [Nat.pow_zero] at h1 h2; omega
  | n + 1, c, d, h1, h2, h => by
    have a := h 0 (by omega)
    have q : ∀ x, x < Y ^ (n + 1) → x / Y < Y ^ n := fun x hx => Nat.div_lt_of_lt_mul (by rw [Nat.mul_comm, ← Nat.pow_succ]; exact hx)
    have b := dig_inj n (c / Y) (d / Y) (q c h1) (q d h2) fun j hj => h (j + 1) (by omega)
    replace a : c % Y = d % Y := a
    rw [← Nat.div_add_mod c Y, ← Nat.div_add_mod d Y, a, b]
noncomputable def cod (M : Nat) (g : Nat → Nat) : Nat → Nat
  | 0 => 0
  | r + 1 => cod M g r * M + g r
theorem cod_lt {M : Nat} {g : Nat → Nat} : ∀ r : Nat, (∀ i, i < r → g i < M) → cod M g r < M ^ r
  | 0, _ => Nat.one_pos
  | r + 1, h => by
    have a := cod_lt r fun i hi => h i (by omega)
    have b := h r (by omega)
    have c : (cod M g r + 1) * M ≤ M ^ r * M := Nat.mul_le_mul_right _ a
    rw [Nat.pow_succ]
    show cod M g r * M + g r < _
    rw [Nat.add_mul] at c
    omega
theorem cod_inj {M : Nat} {g g' : Nat → Nat} : ∀ r : Nat, (∀ i, i < r → g i < M) → (∀ i, i < r → g' i < M) → cod M g r = cod M g' r → ∀ i, i < r → g i = g' i
  | 0, _, _, _, i, hi => by omega
  | r + 1, h, h', e, i, hi => by
    replace e : cod M g r * M + g r = cod M g' r * M + g' r := e
    have a := h r (by omega)
    have a' := h' r (by omega)
    have m1 : (cod M g r * M + g r) % M = g r := by rw [Nat.add_comm, Nat.add_mul_mod_self_right, Nat.mod_eq_of_lt a]
    have m2 : (cod M g' r * M + g' r) % M = g' r := by rw [Nat.add_comm, Nat.add_mul_mod_self_right, Nat.mod_eq_of_lt a']
    have e1 : g r = g' r := by rw [← m1, ← m2, e]
    have e2 : cod M g r = cod M g' r := Nat.eq_of_mul_eq_mul_right (by omega) (show cod M g r * M = cod M g' r * M by omega)
    by_cases z : i = r
    · rw [z]; exact e1
    · exact cod_inj r (fun i hi => h i (by omega)) (fun i hi => h' i (by omega)) e2 i (by omega)
noncomputable def sm (f : Nat → Int) : Nat → Int
  | 0 => 0
  | n + 1 => sm f n + f n
theorem sm_sub (f g : Nat → Int) : ∀ n, sm (fun j => f j - g j) n = sm f n - sm g n
  | 0 => rfl
  | n + 1 => by show sm _ n + _ = sm f n + f n - (sm g n + g n); rw [sm_sub f g n]; dsimp only; omega
noncomputable def lowS (A : Nat → Int) (X : Nat) : Nat → Int
  | 0 => 0
  | n + 1 => lowS A X n + (if A n < 0 then A n * X else 0)
theorem sm_low {A : Nat → Int} {B X : Nat} {x : Nat → Nat} (hx : ∀ j, x j ≤ X) (hA : ∀ j, (A j).natAbs ≤ B) : ∀ n, lowS A X n ≤ sm (fun j => A j * (x j : Int)) n ∧ sm (fun j => A j * (x j : Int)) n ≤ lowS A X n + ((n * (B * X) : Nat) : Int)
  | 0 => by simp [lowS, sm]
  | n + 1 => by
    obtain ⟨a, b⟩ := sm_low hx hA n
    have h1 := hx n
    have h2 := hA n
    have e : (((n + 1) * (B * X) : Nat) : Int) = ((n * (B * X) : Nat) : Int) + (B : Int) * (X : Int) := by rw [Nat.add_mul, Nat.one_mul, Int.natCast_add, Int.natCast_mul B X]
    rw [e]
    have k0 : (0 : Int) ≤ (x n : Int) := Int.natCast_nonneg _
    have k1 : (x n : Int) ≤ (X : Int) := by omega
    show _ + (if A n < 0 then A n * (X : Int) else 0) ≤ _ + A n * (x n : Int) ∧ _ + A n * (x n : Int) ≤ _ + (if A n < 0 then A n * (X : Int) else 0) + _
    by_cases z : A n < 0
    · rw [if_pos z]
      have p1 : A n * (X : Int) ≤ A n * (x n : Int) := Int.mul_le_mul_of_nonpos_left (by omega) k1
      have p2 : A n * (x n : Int) - A n * (X : Int) ≤ (B : Int) * (X : Int) := by
        have : A n * (x n : Int) - A n * (X : Int) = (-(A n)) * ((X : Int) - (x n : Int)) := by grind
        rw [this]
        exact Int.mul_le_mul (by omega) (by omega) (by omega) (by omega)
      omega
    · rw [if_neg z]
      have p1 : 0 ≤ A n * (x n : Int) := Int.mul_nonneg (by omega) k0
      have p2 : A n * (x n : Int) ≤ (B : Int) * (X : Int) := Int.mul_le_mul (by omega) k1 k0 (by omega)
      omega
theorem siegel {r n B : Nat} (A : Nat → Nat → Int) (hr : r < n) (hB : 0 < B) (hA : ∀ i j, (A i j).natAbs ≤ B) :
    ∃ x : Nat → Int, (∃ j, j < n ∧ x j ≠ 0) ∧ (∀ j, (x j).natAbs ≤ (n * B) ^ r) ∧ ∀ i, i < r → sm (fun j => A i j * x j) n = 0 := by
  generalize hX : (n * B) ^ r = X
  have nB : 0 < n * B := Nat.mul_pos (by omega) hB
  let g : Nat → Nat → Nat := fun c i => (sm (fun j => A i j * ((dig (X + 1) c j : Nat) : Int)) n - lowS (A i) X n).toNat
  have hd : ∀ c j, dig (X + 1) c j ≤ X := fun c j => by have := dig_lt (Y := X + 1) (by omega) j c; omega
  have bnd : ∀ c i, lowS (A i) X n ≤ sm (fun j => A i j * ((dig (X + 1) c j : Nat) : Int)) n ∧ sm (fun j => A i j * ((dig (X + 1) c j : Nat) : Int)) n ≤ lowS (A i) X n + ((n * (B * X) : Nat) : Int) := fun c i => sm_low (x := fun j => dig (X + 1) c j) (hd c) (hA i) n
  have hg : ∀ c i, g c i < n * B * X + 1 := fun c i => by
    have := bnd c i
    rw [← Nat.mul_assoc] at this
    show (_ - _ : Int).toNat < _
    omega
  have big : (n * B * X + 1) ^ r < (X + 1) ^ n := by
    have h1 : n * B * X + 1 ≤ n * B * (X + 1) := by rw [Nat.mul_add]; omega
    have h2 : (n * B * X + 1) ^ r ≤ (n * B * (X + 1)) ^ r := Nat.pow_le_pow_left h1 _
    have h3 : (n * B * (X + 1)) ^ r = X * (X + 1) ^ r := by rw [Nat.mul_pow, hX]
    have h4 : X * (X + 1) ^ r < (X + 1) ^ (r + 1) := by
      rw [Nat.pow_succ, Nat.mul_comm ((X + 1) ^ r)]
      exact Nat.mul_lt_mul_of_pos_right (by omega) (Nat.pow_pos (by omega))
    have h5 : (X + 1) ^ (r + 1) ≤ (X + 1) ^ n := Nat.pow_le_pow_right (by omega) hr
    omega
  obtain ⟨c, d, hcd, hdm, e⟩ := drawers ((n * B * X + 1) ^ r) (fun c => cod (n * B * X + 1) (g c) r) fun c _ => cod_lt r fun i _ => hg c i
  have eg := cod_inj r (fun i _ => hg c i) (fun i _ => hg d i) e
  refine ⟨fun j => ((dig (X + 1) c j : Nat) : Int) - ((dig (X + 1) d j : Nat) : Int), ?_, fun j => ?_, fun i hi => ?_⟩
  · refine Classical.byContradiction fun z => ?_
    have : c = d := dig_inj (Y := X + 1) n c d (by omega) (by omega) fun j hj => Classical.byContradiction fun y => z ⟨j, hj, by dsimp only; omega⟩
    omega
  · have h1 := hd c j
    have h2 := hd d j
    dsimp only
    omega
  · have e1 : (fun j => A i j * (((dig (X + 1) c j : Nat) : Int) - ((dig (X + 1) d j : Nat) : Int))) = fun j => A i j * ((dig (X + 1) c j : Nat) : Int) - A i j * ((dig (X + 1) d j : Nat) : Int) := funext fun j => Int.mul_sub _ _ _
    rw [e1, sm_sub]
    have h1 := eg i hi
    have b1 := bnd c i
    have b2 := bnd d i
    replace h1 : (sm (fun j => A i j * ((dig (X + 1) c j : Nat) : Int)) n - lowS (A i) X n).toNat = (sm (fun j => A i j * ((dig (X + 1) d j : Nat) : Int)) n - lowS (A i) X n).toNat := h1
    omega

noncomputable def ml : (Nat → Rat) → (Nat → Rat) → Nat → Rat
  | a, b, 0 => a 0 * b 0
  | a, b, k + 1 => a 0 * b (k + 1) + ml (fun i => a (i + 1)) b k
theorem ml_right (b : Nat → Rat) : ∀ (k : Nat) (a : Nat → Rat), ml a b (k + 1) = ml a (fun i => b (i + 1)) k + a (k + 1) * b 0
  | 0, a => rfl
  | k + 1, a => by
    show a 0 * b (k + 1 + 1) + ml (fun i => a (i + 1)) b (k + 1) = a 0 * b (k + 1 + 1) + ml (fun i => a (i + 1)) (fun i => b (i + 1)) k + a (k + 1 + 1) * b 0
    rw [ml_right b k]; grind
theorem ml_comm (b : Nat → Rat) : ∀ (k : Nat) (a : Nat → Rat), ml a b k = ml b a k
  | 0, a => Rat.mul_comm _ _
  | k + 1, a => by rw [ml_right a k b, ← ml_comm b k]; show a 0 * b (k + 1) + _ = _; grind
theorem ml_add (b : Nat → Rat) : ∀ (k : Nat) (a a' : Nat → Rat), ml (fun i => a i + a' i) b k = ml a b k + ml a' b k
  | 0, a, a' => by simp only [ml]; grind
  | k + 1, a, a' => by simp only [ml]; rw [ml_add b k]; grind
theorem ml_scale (b : Nat → Rat) (w : Rat) : ∀ (k : Nat) (a : Nat → Rat), ml (fun i => w * a i) b k = w * ml a b k
  | 0, a => by simp only [ml]; grind
  | k + 1, a => by simp only [ml]; rw [ml_scale b w k]; grind
theorem ml_assoc (c : Nat → Rat) : ∀ (k : Nat) (a b : Nat → Rat), ml (ml a b) c k = ml a (ml b c) k
  | 0, a, b => by simp only [ml]; grind
  | k + 1, a, b => by
    show ml a b 0 * c (k + 1) + ml (fun i => a 0 * b (i + 1) + ml (fun i => a (i + 1)) b i) c k = a 0 * (b 0 * c (k + 1) + ml (fun i => b (i + 1)) c k) + ml (fun i => a (i + 1)) (ml b c) k
    rw [ml_add, ml_scale c (a 0) k fun i => b (i + 1), ml_assoc c k]
    show a 0 * b 0 * _ + _ = _
    grind
theorem ml_zero (b : Nat → Rat) : ∀ k, ml (fun _ => 0) b k = 0
  | 0 => by simp only [ml]; grind
  | k + 1 => by simp only [ml]; rw [ml_zero b k]; grind
theorem ml_mono (g : Nat → Rat) (w : Rat) : ∀ N k, ml (fun i => if i = N then w else 0) g k = w * sh N g k
  | 0, 0 => rfl
  | 0, k + 1 => by
    show w * g (k + 1) + ml (fun i => if i + 1 = 0 then w else 0) g k = _
    rw [show (fun i => if i + 1 = 0 then w else (0 : Rat)) = fun _ => 0 from funext fun i => if_neg (by omega), ml_zero]
    unfold sh; rw [if_pos (by omega)]; show _ = w * g (k + 1); grind
  | N + 1, 0 => by show (if 0 = N + 1 then w else 0) * g 0 = _; unfold sh; rw [if_neg (by omega), if_neg (by omega)]; grind
  | N + 1, k + 1 => by
    show (if 0 = N + 1 then w else 0) * g (k + 1) + ml (fun i => if i + 1 = N + 1 then w else 0) g k = _
    rw [show (fun i => if i + 1 = N + 1 then w else (0 : Rat)) = fun i => if i = N then w else 0 from funext fun i => by by_cases h : i = N <;> simp [h], ml_mono g w N k, if_neg (by omega)]
    unfold sh
    by_cases h : N ≤ k
    · rw [if_pos h, if_pos (by omega), show k + 1 - (N + 1) = k - N by omega]; grind
    · rw [if_neg h, if_neg (by omega)]; grind
@[ext] structure Po where
  f : Nat → Rat
namespace Po
noncomputable def C (r : Rat) : Po := ⟨fun k => if k = 0 then r else 0⟩
noncomputable def pw (a : Po) : Nat → Po
  | 0 => C 1
  | n + 1 => ⟨ml (pw a n).f a.f⟩
noncomputable instance : Add Po := ⟨fun a b => ⟨fun k => a.f k + b.f k⟩⟩
noncomputable instance : Mul Po := ⟨fun a b => ⟨ml a.f b.f⟩⟩
noncomputable instance : Neg Po := ⟨fun a => ⟨fun k => -(a.f k)⟩⟩
noncomputable instance : Sub Po := ⟨fun a b => ⟨fun k => a.f k + -(b.f k)⟩⟩
noncomputable instance : NatCast Po := ⟨fun n => C n⟩
noncomputable instance : IntCast Po := ⟨fun n => C n⟩
noncomputable instance (n : Nat) : OfNat Po n := ⟨C (n : Rat)⟩
noncomputable instance : SMul Nat Po := ⟨fun n a => ⟨ml (C n).f a.f⟩⟩
noncomputable instance : SMul Int Po := ⟨fun n a => ⟨ml (C n).f a.f⟩⟩
noncomputable instance : HPow Po Nat Po := ⟨pw⟩
theorem add_f (a b : Po) (k : Nat) : (a + b).f k = a.f k + b.f k := rfl
theorem mul_f (a b : Po) (k : Nat) : (a * b).f k = ml a.f b.f k := rfl
theorem sub_f (a b : Po) (k : Nat) : (a - b).f k = a.f k - b.f k := by show a.f k + -(b.f k) = _; grind
theorem neg_f (a : Po) (k : Nat) : (-a).f k = -(a.f k) := rfl
theorem C_mul (w : Rat) (b : Po) (k : Nat) : (C w * b).f k = w * b.f k := by
  show ml (fun i => if i = 0 then w else 0) b.f k = _
  rw [ml_mono]; unfold sh; rw [if_pos (Nat.zero_le _), Nat.sub_zero]
theorem zero_f (k : Nat) : (0 : Po).f k = 0 := by
  show (if k = 0 then ((0 : Nat) : Rat) else 0) = 0
  split <;> rfl
theorem of {a b : Po} (h : ∀ k, a.f k = b.f k) : a = b := Po.ext (funext h)
theorem cm (a b : Po) : a * b = b * a := of fun k => ml_comm b.f k a.f
theorem C_add (x y : Rat) : C (x + y) = C x + C y := of fun k => by
  show (if k = 0 then x + y else 0) = (if k = 0 then x else 0) + (if k = 0 then y else 0)
  split <;> grind
theorem C_neg (x : Rat) : C (-x) = -(C x) := of fun k => by
  show (if k = 0 then -x else 0) = -(if k = 0 then x else 0)
  split <;> grind
theorem ld (a b c : Po) : a * (b + c) = a * b + a * c := of fun k => by
  rw [add_f, mul_f, mul_f, mul_f, ml_comm, ml_comm b.f, ml_comm c.f]
  exact ml_add a.f k b.f c.f
theorem C_mul' (w v : Rat) : C (w * v) = C w * C v := of fun k => by
  rw [C_mul]; show (if k = 0 then w * v else 0) = w * (if k = 0 then v else 0); split <;> grind
noncomputable instance : Lean.Grind.CommRing Po where
  add_zero a := of fun k => by rw [add_f, zero_f]; grind
  add_comm a b := of fun k => Rat.add_comm _ _
  add_assoc a b c := of fun k => Rat.add_assoc _ _ _
  mul_assoc a b c := of fun k => ml_assoc c.f k a.f b.f
  mul_one a := by rw [cm]; exact of fun k => by rw [show (1 : Po) = C 1 from rfl, C_mul]; grind
  one_mul a := of fun k => by rw [show (1 : Po) = C 1 from rfl, C_mul]; grind
  left_distrib := ld
  right_distrib a b c := by rw [cm, ld, cm c, cm c]
  mul_zero a := by rw [cm]; exact of fun k => by rw [show (0 : Po) = C 0 from rfl, C_mul, show (C 0 : Po) = 0 from rfl, zero_f]; grind
  zero_mul a := of fun k => by rw [show (0 : Po) = C 0 from rfl, C_mul, show (C 0 : Po) = 0 from rfl, zero_f]; grind
  pow_zero a := rfl
  pow_succ a n := rfl
  ofNat_succ n := by show C ((n + 1 : Nat) : Rat) = C (n : Rat) + C 1; rw [← C_add, Rat.natCast_add]; rfl
  neg_add_cancel a := of fun k => by rw [add_f, neg_f, zero_f]; grind
  sub_eq_add_neg a b := rfl
  neg_zsmul i a := of fun k => by
    show (C ((-i : Int) : Rat) * a).f k = -((C (i : Rat) * a).f k)
    rw [C_mul, C_mul, Rat.intCast_neg]; grind
  zsmul_natCast_eq_nsmul n a := by
    show C (((n : Nat) : Int) : Rat) * a = C (n : Rat) * a
    rw [Rat.intCast_natCast]
  intCast_ofNat n := by show C (((n : Nat) : Int) : Rat) = C (n : Rat); rw [Rat.intCast_natCast]
  intCast_neg i := by show C ((-i : Int) : Rat) = -(C (i : Rat)); rw [Rat.intCast_neg, C_neg]
  mul_comm := cm
end Po

theorem ml_nil {b : Nat → Rat} : ∀ (k : Nat) (a : Nat → Rat), (∀ i j, i + j = k → a i * b j = 0) → ml a b k = 0
  | 0, a, h => h 0 0 rfl
  | k + 1, a, h => by
    show a 0 * b (k + 1) + ml (fun i => a (i + 1)) b k = 0
    rw [h 0 (k + 1) (by omega), ml_nil k _ fun i j e => h (i + 1) j (by omega), Rat.add_zero]
noncomputable def Dg (n : Nat) (a : Po) : Prop := ∀ i, n ≤ i → a.f i = 0
theorem Dg.mono {n m : Nat} {a : Po} (h : Dg n a) (hm : n ≤ m) : Dg m a := fun i hi => h i (by omega)
theorem Dg.add {n : Nat} {a b : Po} (h : Dg n a) (h' : Dg n b) : Dg n (a + b) := fun i hi => by rw [Po.add_f, h i hi, h' i hi, Rat.add_zero]
theorem Dg.sub {n : Nat} {a b : Po} (h : Dg n a) (h' : Dg n b) : Dg n (a - b) := fun i hi => by rw [Po.sub_f, h i hi, h' i hi, Rat.sub_self]
theorem Dg.neg {n : Nat} {a : Po} (h : Dg n a) : Dg n (-a) := fun i hi => by rw [Po.neg_f, h i hi]; rfl
theorem Dg.mul {n m : Nat} {a b : Po} (h : Dg n a) (h' : Dg (m + 1) b) : Dg (n + m) (a * b) := fun k hk => ml_nil k _ fun i j e => by
  by_cases z : n ≤ i
  · rw [h i z, Rat.zero_mul]
  · rw [h' j (by omega), Rat.mul_zero]
theorem Dg.C (w : Rat) (n : Nat) : Dg (n + 1) (Po.C w) := fun i hi => if_neg (by omega)
theorem Dg.one (n : Nat) : Dg (n + 1) (1 : Po) := Dg.C 1 n
theorem Dg.zero (n : Nat) : Dg n (0 : Po) := fun i _ => Po.zero_f i
noncomputable def ofZ (n : Nat) (x : Nat → Int) : Po := ⟨fun i => if i < n then (x i : Rat) else 0⟩
theorem sm_le {f : Nat → Int} {B : Nat} (h : ∀ j, (f j).natAbs ≤ B) : ∀ n, (sm f n).natAbs ≤ n * B
  | 0 => by rw [Nat.zero_mul]; exact Nat.le_refl 0
  | n + 1 => by
    have a := sm_le h n
    have b := h n
    have c := Int.natAbs_add_le (sm f n) (f n)
    show (sm f n + f n).natAbs ≤ _
    rw [Nat.add_mul, Nat.one_mul]
    omega
theorem sz_of {n : Nat} {T B : Int} {r : Rat} (h : num T B = enc r) (hB : B ≠ 0) (b1 : Bt n T) (b2 : Bt n B) : Sz n r := by
  obtain ⟨e1, _, _, c1, c2⟩ := Num.num hB b1 b2
  rw [h] at e1
  unfold enc at e1
  simp only [PyData.tuple.injEq, List.cons.injEq, PyData.int.injEq, and_true] at e1
  exact ⟨by rw [e1.1]; exact c1, by rw [e1.2]; exact c2⟩
theorem sz_sub {n : Nat} {a b : Rat} (ha : Sz n a) (hb : Sz n b) : Sz (2 * n + 1) (a - b) :=
  sz_of (sub_enc a b) (Int.mul_ne_zero (den_int a) (den_int b)) (((ha.1.mul hb.2).sub (hb.1.mul ha.2)).mono (by omega)) ((ha.2.mul hb.2).mono (by omega))
theorem sz_inv {n : Nat} {a : Rat} (ha : Sz n a) (h0 : a ≠ 0) : Sz n (1 / a) := by
  have hn : a.num ≠ 0 := fun z => h0 (Rat.num_eq_zero.mp z)
  have e := div_enc 1 a h0
  rw [show (1 : Rat).num * (a.den : Int) = (a.den : Int) from Int.one_mul _, show ((1 : Rat).den : Int) * a.num = a.num from Int.one_mul _] at e
  exact sz_of e hn ha.2 ha.1
theorem sz_one : Sz 1 1 := ⟨by show Bt 1 1; exact .lit (by decide), by show Bt 1 1; exact .lit (by decide)⟩
theorem sz_zero : Sz 1 0 := ⟨by show Bt 1 0; exact .lit (by decide), by show Bt 1 1; exact .lit (by decide)⟩

noncomputable def mo (m : Nat) : Po := ⟨fun i => if i = m then 1 else 0⟩
theorem mo_mul (m : Nat) (g : Po) (k : Nat) : (mo m * g).f k = sh m g.f k := by
  show ml (fun i => if i = m then 1 else 0) g.f k = _
  rw [ml_mono]; grind
theorem castN {z : Int} (h : z ≠ 0) : (z : Rat) ≠ 0 := fun y => h (Rat.intCast_eq_zero_iff.mp y)
theorem szf {m : Nat} {z y : Int} (hz : Bt m z) (hy : Bt m y) (h0 : y ≠ 0) : Sz m ((z : Rat) / (y : Rat)) := by
  rw [← Rat.divInt_eq_div]
  exact sz_of (num_enc h0) h0 hz hy

noncomputable def sR (f : Nat → Rat) : Nat → Rat
  | 0 => 0
  | n + 1 => sR f n + f n
theorem sR_congr {f g : Nat → Rat} : ∀ n, (∀ j, j < n → f j = g j) → sR f n = sR g n
  | 0, _ => rfl
  | n + 1, h => by rw [sR, sR, sR_congr n fun j hj => h j (by omega), h n (by omega)]
theorem sR_add (f g : Nat → Rat) : ∀ n, sR (fun j => f j + g j) n = sR f n + sR g n
  | 0 => by simp only [sR]; grind
  | n + 1 => by simp only [sR]; rw [sR_add f g n]; grind
theorem sR_scale (c : Rat) (f : Nat → Rat) : ∀ n, sR (fun j => c * f j) n = c * sR f n
  | 0 => by simp only [sR]; grind
  | n + 1 => by simp only [sR]; rw [sR_scale c f n]; grind
theorem sR_first (f : Nat → Rat) : ∀ n, sR f (n + 1) = f 0 + sR (fun j => f (j + 1)) n
  | 0 => by simp only [sR]; grind
  | n + 1 => by rw [sR, sR_first f n, sR]; grind
theorem sR_zero : ∀ n, sR (fun _ => 0) n = 0
  | 0 => rfl
  | n + 1 => by rw [sR, sR_zero n]; grind
theorem sR_long {f : Nat → Rat} {n : Nat} (h : ∀ j, n ≤ j → f j = 0) : ∀ m, n ≤ m → sR f m = sR f n
  | 0, hm => by rw [show n = 0 by omega]
  | m + 1, hm => by
    by_cases e : n = m + 1
    · rw [e]
    · rw [sR, sR_long h m (by omega), h m (by omega)]; grind
noncomputable def ap (n : Nat) (a : Po) (S : Nat → Rat) (i : Nat) : Rat := sR (fun j => a.f j * S (i + j)) n
section
variable {n m i : Nat} {a b : Po} {S T : Nat → Rat}
theorem ap_long (h : Dg n a) (hm : n ≤ m) : ap m a S i = ap n a S i := sR_long (fun j hj => by rw [h j hj, Rat.zero_mul]) m hm
theorem ap_add : ap n (a + b) S i = ap n a S i + ap n b S i := by
  unfold ap; rw [← sR_add]; exact sR_congr n fun j _ => by rw [Po.add_f]; grind
theorem ap_C (c : Rat) : ap n (Po.C c * a) S i = c * ap n a S i := by
  unfold ap; rw [← sR_scale]; exact sR_congr n fun j _ => by rw [Po.C_mul]; grind
theorem ap_sub : ap n (a - b) S i = ap n a S i - ap n b S i := by
  rw [show a - b = a + Po.C (-1) * b by rw [Po.C_neg]; show a - b = a + -(1 : Po) * b; grind, ap_add, ap_C]; grind
theorem ap_z : ap (n + 1) (mo 1 * a) S i = ap n a S (i + 1) := by
  unfold ap
  rw [sR_first]
  have e0 : (mo 1 * a).f 0 = 0 := by rw [mo_mul]; rfl
  rw [e0, Rat.zero_mul, Rat.zero_add]
  refine sR_congr n fun j _ => ?_
  rw [mo_mul]
  unfold sh
  rw [if_pos (by omega), Nat.add_sub_cancel, show i + (j + 1) = i + 1 + j by omega]
theorem ap_seq : ap n a (fun j => S j - T j) i = ap n a S i - ap n a T i := by
  unfold ap
  rw [show (fun j => a.f j * (S (i + j) - T (i + j))) = fun j => a.f j * S (i + j) + (-1) * (a.f j * T (i + j)) from funext fun j => by grind, sR_add, sR_scale]; grind
theorem ap_one : ap (n + 1) 1 S i = S i := by
  unfold ap
  rw [sR_long (n := 1) (fun j hj => by rw [Dg.one 0 j hj, Rat.zero_mul]) (n + 1) (by omega)]
  show 0 + (1 : Po).f 0 * S (i + 0) = S i
  rw [show (1 : Po).f 0 = 1 from rfl, Nat.add_zero]; grind
end
noncomputable def dl (S : Nat → Rat) (i : Nat) : Rat := S (i + 1) - S i
theorem ap_dl {n i : Nat} {a : Po} {S : Nat → Rat} : ap n a (dl S) i = ap n a S (i + 1) - ap n a S i := by
  have e : ap n a (fun j => S (j + 1)) i = ap n a S (i + 1) := sR_congr n fun j _ => by show a.f j * S (i + j + 1) = _; rw [show i + j + 1 = i + 1 + j by omega]
  rw [← e, ← ap_seq]; rfl
theorem ap_z1 {n i : Nat} {a : Po} {S : Nat → Rat} (h : Dg n a) : ap (n + 1) ((mo 1 - 1) * a) S i = ap n a (dl S) i := by
  rw [show (mo 1 - 1) * a = mo 1 * a - a by grind, ap_sub, ap_z, ap_long (m := n + 1) h (by omega), ap_dl]
noncomputable def ev (n : Nat) (a : Po) : Rat := ap n a (fun _ => 1) 0
noncomputable def Vl (S : Nat → Rat) : Nat → Nat → Rat
  | 0, _ => 0
  | 1, i => S i
  | c + 2, i => Vl S c (i + 1) + 1 / (Vl S (c + 1) (i + 1) - Vl S (c + 1) i)
noncomputable def Okk (S : Nat → Rat) : Nat → Nat → Prop
  | 0, _ => True
  | 1, _ => True
  | c + 2, i => Okk S c (i + 1) ∧ Okk S (c + 1) (i + 1) ∧ Okk S (c + 1) i ∧ Vl S (c + 1) (i + 1) ≠ Vl S (c + 1) i
noncomputable def mm (c : Nat) : Po := if c % 2 = 1 then 1 else mo 1 - 1
theorem mm_two (c : Nat) : mm (c + 2) = mm c := by unfold mm; rw [show (c + 2) % 2 = c % 2 by omega]
theorem mm_mul (c : Nat) : mm (c + 1) * mm c = mo 1 - 1 := by
  unfold mm
  by_cases h : c % 2 = 1
  · rw [if_pos h, if_neg (by omega)]; grind
  · rw [if_neg h, if_pos (by omega)]; grind
noncomputable def Pl' (S : Nat → Rat) : Nat → Nat → Po
  | 0, _ => 0
  | 1, _ => 1
  | c + 2, i => Pl' S c (i + 1) + Po.C (1 / (Vl S (c + 1) (i + 1) - Vl S (c + 1) i)) * (mm (c + 1) * Pl' S (c + 1) (i + 1))
theorem C_inv {x : Rat} (h : x ≠ 0) : Po.C (1 / x) * Po.C x = 1 := by rw [← Po.C_mul', show 1 / x * x = 1 by grind]; rfl
theorem C_sub (x y : Rat) : Po.C (x - y) = Po.C x - Po.C y := by rw [Rat.sub_eq_add_neg, Po.C_add, Po.C_neg]; grind
section
variable {S : Nat → Rat}
theorem okk_pos {c i : Nat} (h : Okk S (c + 2) i) : Vl S (c + 1) (i + 1) - Vl S (c + 1) i ≠ 0 := fun z => h.2.2.2 (by grind)
theorem pl_diff : ∀ (c i : Nat), Okk S (c + 1) i → Okk S (c + 1) (i + 1) → Pl' S (c + 1) (i + 1) - Pl' S (c + 1) i = Po.C (Vl S (c + 1) (i + 1) - Vl S (c + 1) i) * (mm c * Pl' S c (i + 1))
  | 0, i, _, _ => by show (1 : Po) - 1 = _ * (_ * 0); grind
  | c + 1, i, h, h' => by
    have d0 := okk_pos h
    have d1 := okk_pos h'
    have g0 := pl_diff c i h.2.2.1 h.2.1
    have g1 := pl_diff c (i + 1) h'.2.2.1 h'.2.1
    have i0 := C_inv d0
    have i1 := C_inv d1
    have mu := mm_mul c
    -- z P(c)(i+2) - P(c)(i+1) = dV(c)(i+1) * m * P(c+1)(i+1)
    have K : mo 1 * Pl' S c (i + 2) - Pl' S c (i + 1) = Po.C (Vl S c (i + 2) - Vl S c (i + 1)) * (mm (c + 1) * Pl' S (c + 1) (i + 1)) := by
      cases c with
      | zero => show mo 1 * (0 : Po) - 0 = Po.C ((0 : Rat) - 0) * _; rw [show (0 : Rat) - 0 = 0 by grind, show Po.C 0 = (0 : Po) from rfl]; grind
      | succ c =>
        have gg := pl_diff c (i + 1) h.2.1.2.2.1 h.2.1.2.1
        have dd := okk_pos h.2.1
        have ii := C_inv dd
        have m2 := mm_two c
        have m3 := mm_mul (c + 1)
        have e : Pl' S (c + 2) (i + 1) = Pl' S c (i + 2) + Po.C (1 / (Vl S (c + 1) (i + 2) - Vl S (c + 1) (i + 1))) * (mm (c + 1) * Pl' S (c + 1) (i + 2)) := rfl
        show mo 1 * Pl' S (c + 1) (i + 2) - Pl' S (c + 1) (i + 1) = Po.C (Vl S (c + 1) (i + 2) - Vl S (c + 1) (i + 1)) * (mm (c + 2) * Pl' S (c + 2) (i + 1))
        rw [e, m2]
        rw [m2] at m3
        replace gg : Pl' S (c + 1) (i + 2) - Pl' S (c + 1) (i + 1) = Po.C (Vl S (c + 1) (i + 2) - Vl S (c + 1) (i + 1)) * (mm c * Pl' S c (i + 2)) := gg
        replace ii : Po.C (1 / (Vl S (c + 1) (i + 2) - Vl S (c + 1) (i + 1))) * Po.C (Vl S (c + 1) (i + 2) - Vl S (c + 1) (i + 1)) = 1 := ii
        generalize Po.C (1 / (Vl S (c + 1) (i + 2) - Vl S (c + 1) (i + 1))) = u at *
        generalize Po.C (Vl S (c + 1) (i + 2) - Vl S (c + 1) (i + 1)) = v at *
        generalize Pl' S (c + 1) (i + 2) = p2 at *
        generalize Pl' S (c + 1) (i + 1) = p1 at *
        generalize Pl' S c (i + 2) = q at *
        clear g0 g1 i0 i1 mu d0 d1 h h' dd
        grind
    have eV : Vl S (c + 2) (i + 1) - Vl S (c + 2) i = (Vl S c (i + 2) - Vl S c (i + 1)) + 1 / (Vl S (c + 1) (i + 2) - Vl S (c + 1) (i + 1)) - 1 / (Vl S (c + 1) (i + 1) - Vl S (c + 1) i) := by
      show Vl S c (i + 2) + 1 / (Vl S (c + 1) (i + 2) - Vl S (c + 1) (i + 1)) - (Vl S c (i + 1) + 1 / (Vl S (c + 1) (i + 1) - Vl S (c + 1) i)) = _
      grind
    have e1 : Pl' S (c + 2) (i + 1) = Pl' S c (i + 2) + Po.C (1 / (Vl S (c + 1) (i + 2) - Vl S (c + 1) (i + 1))) * (mm (c + 1) * Pl' S (c + 1) (i + 2)) := rfl
    have e0 : Pl' S (c + 2) i = Pl' S c (i + 1) + Po.C (1 / (Vl S (c + 1) (i + 1) - Vl S (c + 1) i)) * (mm (c + 1) * Pl' S (c + 1) (i + 1)) := rfl
    show Pl' S (c + 2) (i + 1) - Pl' S (c + 2) i = Po.C (Vl S (c + 2) (i + 1) - Vl S (c + 2) i) * (mm (c + 1) * Pl' S (c + 1) (i + 1))
    rw [eV, e1, e0, C_sub, Po.C_add]
    replace g1 : Pl' S (c + 1) (i + 2) - Pl' S (c + 1) (i + 1) = Po.C (Vl S (c + 1) (i + 2) - Vl S (c + 1) (i + 1)) * (mm c * Pl' S c (i + 2)) := g1
    replace i1 : Po.C (1 / (Vl S (c + 1) (i + 2) - Vl S (c + 1) (i + 1))) * Po.C (Vl S (c + 1) (i + 2) - Vl S (c + 1) (i + 1)) = 1 := i1
    generalize Po.C (1 / (Vl S (c + 1) (i + 2) - Vl S (c + 1) (i + 1))) = u1 at *
    generalize Po.C (Vl S (c + 1) (i + 2) - Vl S (c + 1) (i + 1)) = v1 at *
    generalize Po.C (1 / (Vl S (c + 1) (i + 1) - Vl S (c + 1) i)) = u0 at *
    generalize Po.C (Vl S c (i + 2) - Vl S c (i + 1)) = w at *
    generalize Pl' S (c + 1) (i + 2) = p2 at *
    generalize Pl' S (c + 1) (i + 1) = p1 at *
    generalize Pl' S c (i + 2) = q2 at *
    generalize Pl' S c (i + 1) = q1 at *
    clear g0 i0 d0 d1 h h' e0 e1 eV
    grind
theorem pl_other {c i : Nat} (h : Okk S (c + 2) i) : Pl' S (c + 2) i = mo 1 * Pl' S c (i + 1) + Po.C (1 / (Vl S (c + 1) (i + 1) - Vl S (c + 1) i)) * (mm (c + 1) * Pl' S (c + 1) i) := by
  have d0 := okk_pos h
  have g0 := pl_diff c i h.2.2.1 h.2.1
  have i0 := C_inv d0
  have mu := mm_mul c
  show Pl' S c (i + 1) + Po.C (1 / (Vl S (c + 1) (i + 1) - Vl S (c + 1) i)) * (mm (c + 1) * Pl' S (c + 1) (i + 1)) = _
  generalize Po.C (1 / (Vl S (c + 1) (i + 1) - Vl S (c + 1) i)) = u0 at *
  generalize Po.C (Vl S (c + 1) (i + 1) - Vl S (c + 1) i) = v0 at *
  generalize Pl' S (c + 1) (i + 1) = p1 at *
  generalize Pl' S (c + 1) i = p0 at *
  generalize Pl' S c (i + 1) = q1 at *
  clear h d0
  grind
end

theorem mm_odd (k : Nat) : mm (2 * k + 1) = 1 := by unfold mm; rw [if_pos (by omega)]
theorem mm_even (k : Nat) : mm (2 * k + 2) = mo 1 - 1 := by unfold mm; rw [if_neg (by omega)]
theorem dg_mo : Dg 2 (mo 1 - 1) := fun i hi => by
  rw [Po.sub_f, Dg.one 0 i (by omega)]
  show (if i = 1 then (1 : Rat) else 0) - 0 = 0
  rw [if_neg (by omega)]; grind
theorem dgC {n : Nat} {c : Rat} {a : Po} (h : Dg n a) : Dg n (Po.C c * a) := fun i hi => by rw [Po.C_mul, h i hi, Rat.mul_zero]
theorem dl_one : dl (fun _ => (1 : Rat)) = fun _ => 0 := funext fun i => by show (1 : Rat) - 1 = 0; grind
theorem ap_nil {n i : Nat} {a : Po} : ap n a (fun _ => 0) i = 0 := by
  unfold ap; rw [show (fun j => a.f j * (0 : Rat)) = fun _ => 0 from funext fun j => Rat.mul_zero _, sR_zero]
section
variable {S : Nat → Rat}
structure AA (S : Nat → Rat) (k i : Nat) : Prop where
  d : Dg (k + 1) (Pl' S (2 * k + 1) i)
  e : ev (k + 1) (Pl' S (2 * k + 1) i) = 1
  a : ∀ j, j ≤ k → ap (k + 1) (Pl' S (2 * k + 1) i) S (i + j) = Vl S (2 * k + 1) i
structure BB (S : Nat → Rat) (k i : Nat) : Prop where
  d : Dg k (Pl' S (2 * k) i)
  e : ev k (Pl' S (2 * k) i) = Vl S (2 * k) i
  a : ∀ j, j < k → ap k (Pl' S (2 * k) i) (dl S) (i + j) = 1
theorem bb_next {k i : Nat} (o : Okk S (2 * k + 2) i) (a0 : AA S k i) (a1 : AA S k (i + 1)) (b1 : BB S k (i + 1)) : BB S (k + 1) i := by
  have e1 : Pl' S (2 * (k + 1)) i = Pl' S (2 * k) (i + 1) + Po.C (1 / (Vl S (2 * k + 1) (i + 1) - Vl S (2 * k + 1) i)) * Pl' S (2 * k + 1) (i + 1) := by
    show Pl' S (2 * k) (i + 1) + Po.C (1 / (Vl S (2 * k + 1) (i + 1) - Vl S (2 * k + 1) i)) * (mm (2 * k + 1) * Pl' S (2 * k + 1) (i + 1)) = _
    rw [mm_odd]; grind
  have e2 : Pl' S (2 * (k + 1)) i = mo 1 * Pl' S (2 * k) (i + 1) + Po.C (1 / (Vl S (2 * k + 1) (i + 1) - Vl S (2 * k + 1) i)) * Pl' S (2 * k + 1) i := by
    have := pl_other o
    rw [mm_odd] at this
    show Pl' S (2 * k + 2) i = _
    rw [this]; grind
  have d0 := okk_pos o
  refine ⟨by rw [e1]; exact (b1.d.mono (by omega)).add (dgC a1.d), ?_, fun j hj => ?_⟩
  · rw [e1]
    unfold ev
    rw [ap_add, ap_C, ap_long b1.d (by omega)]
    have x := b1.e
    have y := a1.e
    unfold ev at x y
    rw [x, y]
    show _ = Vl S (2 * k) (i + 1) + 1 / (Vl S (2 * k + 1) (i + 1) - Vl S (2 * k + 1) i)
    grind
  · by_cases hj0 : j = 0
    · subst hj0
      rw [e2, ap_add, ap_C, ap_z]
      simp only [Nat.add_zero]
      rcases Nat.eq_zero_or_pos k with hk | hk
      · subst hk
        have z : ap 0 (Pl' S (2 * 0) (i + 1)) (dl S) (i + 1) = 0 := rfl
        have o1 : ap (0 + 1) (Pl' S (2 * 0 + 1) i) (dl S) i = dl S i := ap_one
        rw [z, o1]
        replace d0 : S (i + 1) - S i ≠ 0 := d0
        show 0 + 1 / (S (i + 1) - S i) * (S (i + 1) - S i) = 1
        grind
      · have x := b1.a 0 hk
        rw [Nat.add_zero] at x
        rw [x, ap_dl]
        have y0 := a0.a 0 (by omega)
        have y1 := a0.a 1 hk
        simp only [Nat.add_zero] at y0
        rw [y0, y1]; grind
    · rw [e1, ap_add, ap_C, ap_long b1.d (by omega)]
      have x := b1.a (j - 1) (by omega)
      rw [show i + 1 + (j - 1) = i + j by omega] at x
      rw [x, ap_dl]
      have y0 := a1.a (j - 1) (by omega)
      have y1 := a1.a j (by omega)
      rw [show i + 1 + (j - 1) = i + j by omega] at y0
      rw [show i + 1 + j = i + j + 1 by omega] at y1
      rw [y0, y1]; grind
theorem aa_next {k i : Nat} (o : Okk S (2 * k + 3) i) (b0 : BB S (k + 1) i) (b1 : BB S (k + 1) (i + 1)) (a1 : AA S k (i + 1)) : AA S (k + 1) i := by
  have e1 : Pl' S (2 * (k + 1) + 1) i = Pl' S (2 * k + 1) (i + 1) + Po.C (1 / (Vl S (2 * k + 2) (i + 1) - Vl S (2 * k + 2) i)) * ((mo 1 - 1) * Pl' S (2 * k + 2) (i + 1)) := by
    show Pl' S (2 * k + 1) (i + 1) + Po.C (1 / (Vl S (2 * k + 2) (i + 1) - Vl S (2 * k + 2) i)) * (mm (2 * k + 2) * Pl' S (2 * k + 2) (i + 1)) = _
    rw [mm_even]
  have e2 : Pl' S (2 * (k + 1) + 1) i = mo 1 * Pl' S (2 * k + 1) (i + 1) + Po.C (1 / (Vl S (2 * k + 2) (i + 1) - Vl S (2 * k + 2) i)) * ((mo 1 - 1) * Pl' S (2 * k + 2) i) := by
    have := pl_other o
    rw [mm_even] at this
    exact this
  have bd0 : Dg (k + 1) (Pl' S (2 * k + 2) i) := b0.d
  have bd1 : Dg (k + 1) (Pl' S (2 * k + 2) (i + 1)) := b1.d
  refine ⟨by rw [e1]; exact (a1.d.mono (by omega)).add (dgC ((dg_mo.mul bd1).mono (by omega))), ?_, fun j hj => ?_⟩
  · rw [e1]
    unfold ev
    rw [ap_add, ap_C, ap_long a1.d (by omega), ap_z1 bd1, dl_one, ap_nil]
    have y := a1.e
    unfold ev at y
    rw [y]; grind
  · have fin : Vl S (2 * (k + 1) + 1) i = Vl S (2 * k + 1) (i + 1) + 1 / (Vl S (2 * k + 2) (i + 1) - Vl S (2 * k + 2) i) := rfl
    by_cases hj0 : j = 0
    · subst hj0
      rw [e2, ap_add, ap_C, ap_z, ap_z1 bd0]
      simp only [Nat.add_zero]
      have x := b0.a 0 (by omega)
      have y := a1.a 0 (by omega)
      simp only [Nat.add_zero] at x y
      replace x : ap (k + 1) (Pl' S (2 * k + 2) i) (dl S) i = 1 := x
      rw [x, y, fin]; grind
    · rw [e1, ap_add, ap_C, ap_long a1.d (by omega), ap_z1 bd1]
      have x := b1.a (j - 1) (by omega)
      have y := a1.a (j - 1) (by omega)
      rw [show i + 1 + (j - 1) = i + j by omega] at x y
      replace x : ap (k + 1) (Pl' S (2 * k + 2) (i + 1)) (dl S) (i + j) = 1 := x
      rw [x, y, fin]; grind
theorem pl_all : ∀ k, (∀ i, Okk S (2 * k) i → BB S k i) ∧ ∀ i, Okk S (2 * k + 1) i → AA S k i
  | 0 => ⟨fun i _ => ⟨Dg.zero _, rfl, fun j hj => absurd hj (Nat.not_lt_zero _)⟩, fun i _ => ⟨Dg.one 0, ap_one, fun j hj => by rw [show j = 0 by omega]; exact ap_one⟩⟩
  | k + 1 => by
    obtain ⟨hb, ha⟩ := pl_all k
    have hb' : ∀ i, Okk S (2 * (k + 1)) i → BB S (k + 1) i := fun i o => bb_next o (ha i o.2.2.1) (ha (i + 1) o.2.1) (hb (i + 1) o.1)
    exact ⟨hb', fun i o => aa_next o (hb' i o.2.2.1) (hb' (i + 1) o.2.1) (ha (i + 1) o.1)⟩
theorem uo_next {k i : Nat} (o : Okk S (2 * k + 2) i) (b : BB S (k + 1) i) (u : ∀ d, Dg k d → (∀ j, j < k → ap k d (dl (dl S)) (i + j) = 0) → d = 0) (d : Po) (hd : Dg (k + 1) d) (h : ∀ j, j < k + 1 → ap (k + 1) d (dl S) (i + j) = 0) : d = 0 := by
  have bd : Dg (k + 1) (Pl' S (2 * (k + 1)) i) := b.d
  have ba := b.a
  generalize Pl' S (2 * (k + 1)) i = p at *
  have cut : ∀ e : Po, Dg (k + 1) e → e.f k = 0 → Dg k e := fun e he z m hm => by
    by_cases y : m = k
    · rw [y]; exact z
    · exact he m (by omega)
  have eq : Po.C (p.f k) * d - Po.C (d.f k) * p = 0 := by
    have dg : Dg k (Po.C (p.f k) * d - Po.C (d.f k) * p) := cut _ ((dgC hd).sub (dgC bd)) (by rw [Po.sub_f, Po.C_mul, Po.C_mul]; grind)
    refine u _ dg fun j hj => ?_
    rw [← ap_long (m := k + 1) dg (by omega), ap_sub, ap_C, ap_C, ap_dl (S := dl S), ap_dl (S := dl S), show i + j + 1 = i + (j + 1) by omega, h j (by omega), h (j + 1) (by omega), ba j (by omega), ba (j + 1) (by omega)]
    grind
  have z : d.f k = 0 := by
    have x : ap (k + 1) (Po.C (p.f k) * d - Po.C (d.f k) * p) (dl S) (i + 0) = 0 := by rw [eq]; unfold ap; rw [show (fun j => (0 : Po).f j * dl S (i + 0 + j)) = fun _ => 0 from funext fun j => by rw [Po.zero_f, Rat.zero_mul], sR_zero]
    rw [ap_sub, ap_C, ap_C, h 0 (by omega), ba 0 (by omega)] at x
    grind
  have dk := cut d hd z
  exact u d dk fun j hj => by rw [← ap_long (m := k + 1) dk (by omega), ap_dl (S := dl S), show i + j + 1 = i + (j + 1) by omega, h j (by omega), h (j + 1) (by omega)]; grind
theorem ue_next {k i : Nat} (o : Okk S (2 * k + 3) i) (b0 : BB S (k + 1) i) (b1 : BB S (k + 1) (i + 1)) (u0 : ∀ d, Dg (k + 1) d → (∀ j, j < k + 1 → ap (k + 1) d (dl S) (i + j) = 0) → d = 0) (u1 : ∀ d, Dg (k + 1) d → (∀ j, j < k + 1 → ap (k + 1) d (dl S) (i + 1 + j) = 0) → d = 0)
    (d : Po) (hd : Dg (k + 1) d) (h : ∀ j, j < k + 1 → ap (k + 1) d (dl (dl S)) (i + j) = 0) : d = 0 := by
  have c : ∀ j, j ≤ k + 1 → ap (k + 1) d (dl S) (i + j) = ap (k + 1) d (dl S) i := fun j => by
    induction j with
    | zero => intro _; rfl
    | succ j ih =>
      intro hj
      have x := h j (by omega)
      rw [ap_dl (S := dl S)] at x
      rw [← ih (by omega), show i + (j + 1) = i + j + 1 by omega]; grind
  generalize ap (k + 1) d (dl S) i = μ at *
  have a0 := b0.a
  have a1 := b1.a
  have ne := okk_pos o
  have v0 := b0.e
  have v1 := b1.e
  replace v0 : ev (k + 1) (Pl' S (2 * k + 2) i) = Vl S (2 * k + 2) i := v0
  replace v1 : ev (k + 1) (Pl' S (2 * k + 2) (i + 1)) = Vl S (2 * k + 2) (i + 1) := v1
  replace ne : Vl S (2 * k + 2) (i + 1) - Vl S (2 * k + 2) i ≠ 0 := ne
  have e0 : d - Po.C μ * Pl' S (2 * k + 2) i = 0 := u0 _ (hd.sub (dgC b0.d)) fun j hj => by
    have := a0 j hj
    replace this : ap (k + 1) (Pl' S (2 * k + 2) i) (dl S) (i + j) = 1 := this
    rw [ap_sub, ap_C, c j (by omega), this]; grind
  have e1 : d - Po.C μ * Pl' S (2 * k + 2) (i + 1) = 0 := u1 _ (hd.sub (dgC b1.d)) fun j hj => by
    have := a1 j hj
    replace this : ap (k + 1) (Pl' S (2 * k + 2) (i + 1)) (dl S) (i + 1 + j) = 1 := this
    have x := c (j + 1) (by omega)
    rw [show i + (j + 1) = i + 1 + j by omega] at x
    rw [ap_sub, ap_C, x, this]; grind
  have m0 : μ = 0 := by
    have x0 : ev (k + 1) d = μ * Vl S (2 * k + 2) i := by
      rw [show d = Po.C μ * Pl' S (2 * k + 2) i by grind]
      unfold ev at v0 ⊢
      rw [ap_C, v0]
    have x1 : ev (k + 1) d = μ * Vl S (2 * k + 2) (i + 1) := by
      rw [show d = Po.C μ * Pl' S (2 * k + 2) (i + 1) by grind]
      unfold ev at v1 ⊢
      rw [ap_C, v1]
    have : μ * (Vl S (2 * k + 2) (i + 1) - Vl S (2 * k + 2) i) = 0 := by grind
    rcases Rat.mul_eq_zero.mp this with z | z
    · exact z
    · exact absurd z ne
  rw [m0, show Po.C 0 = (0 : Po) from rfl] at e0
  grind
theorem un_all : ∀ k, (∀ i, Okk S (2 * k) i → ∀ d, Dg k d → (∀ j, j < k → ap k d (dl S) (i + j) = 0) → d = 0) ∧ ∀ i, Okk S (2 * k + 1) i → ∀ d, Dg k d → (∀ j, j < k → ap k d (dl (dl S)) (i + j) = 0) → d = 0
  | 0 => ⟨fun i _ d hd _ => Po.of fun k => by rw [hd k (Nat.zero_le _), Po.zero_f], fun i _ d hd _ => Po.of fun k => by rw [hd k (Nat.zero_le _), Po.zero_f]⟩
  | k + 1 => by
    obtain ⟨_, ue⟩ := un_all k
    have pb := (pl_all (S := S) (k + 1)).1
    have uo : ∀ i, Okk S (2 * (k + 1)) i → ∀ d, Dg (k + 1) d → (∀ j, j < k + 1 → ap (k + 1) d (dl S) (i + j) = 0) → d = 0 := fun i o => uo_next o (pb i o) (ue i o.2.2.1)
    exact ⟨uo, fun i o => ue_next o (pb i o.2.2.1) (pb (i + 1) o.2.1) (uo i o.2.2.1) (uo (i + 1) o.2.1)⟩
theorem div_z1 {k : Nat} {p : Po} (hp : Dg (k + 1) p) (h : ev (k + 1) p = 0) : ∃ d, Dg k d ∧ p = (mo 1 - 1) * d := by
  have h0 : sR p.f (k + 1) = 0 := by
    rw [← h]; exact sR_congr _ fun j _ => (Rat.mul_one _).symm
  refine ⟨⟨fun j => -(sR p.f (j + 1))⟩, fun j hj => ?_, Po.of fun j => ?_⟩
  · show -(sR p.f (j + 1)) = 0
    rw [sR_long (n := k + 1) hp (j + 1) (by omega), h0]; grind
  · rw [show (mo 1 - 1) * (⟨fun j => -(sR p.f (j + 1))⟩ : Po) = mo 1 * ⟨fun j => -(sR p.f (j + 1))⟩ - ⟨fun j => -(sR p.f (j + 1))⟩ by grind, Po.sub_f, mo_mul]
    unfold sh
    cases j with
    | zero => rw [if_neg (by omega)]; show p.f 0 = 0 - -(0 + p.f 0); grind
    | succ j => rw [if_pos (by omega), Nat.add_sub_cancel]; show p.f (j + 1) = -(sR p.f (j + 1)) - -(sR p.f (j + 1) + p.f (j + 1)); grind
theorem ap_ofZ {k i : Nat} {x Z : Nat → Int} {M : Rat} (hM : M ≠ 0) (hZ : ∀ j, S j = (Z j : Rat) / M) : ap k (ofZ k x) S i = ((sm (fun t => Z (i + t) * x t) k : Int) : Rat) / M := by
  have : ∀ n, n ≤ k → sR (fun j => (ofZ k x).f j * S (i + j)) n = ((sm (fun t => Z (i + t) * x t) n : Int) : Rat) / M := fun n => by
    induction n with
    | zero => intro _; show (0 : Rat) = ((0 : Int) : Rat) / M; rw [show ((0 : Int) : Rat) = 0 from rfl]; grind
    | succ n ih =>
      intro hn
      rw [sR, ih (by omega), hZ, show (ofZ k x).f n = (x n : Rat) from if_pos (by omega)]
      show _ = ((sm _ n + Z (i + n) * x n : Int) : Rat) / M
      rw [Rat.intCast_add, Rat.intCast_mul]; grind
  exact this k (Nat.le_refl _)
theorem ev_ofZ {k : Nat} {x : Nat → Int} : ev k (ofZ k x) = ((sm x k : Int) : Rat) := by
  have : ∀ n, n ≤ k → sR (fun j => (ofZ k x).f j * 1) n = ((sm x n : Int) : Rat) := fun n => by
    induction n with
    | zero => intro _; rfl
    | succ n ih =>
      intro hn
      rw [sR, ih (by omega), show (ofZ k x).f n = (x n : Rat) from if_pos (by omega)]
      show _ = ((sm x n + x n : Int) : Rat)
      rw [Rat.intCast_add]; grind
  exact this k (Nat.le_refl _)
theorem dg_ofZ (n : Nat) (x : Nat → Int) : Dg n (ofZ n x) := fun i hi => if_neg (by omega)
theorem ofZ_zero {n : Nat} {x : Nat → Int} (h : ofZ n x = 0) (j : Nat) (hj : j < n) : x j = 0 := by
  have : (ofZ n x).f j = 0 := by rw [h, Po.zero_f]
  rw [show (ofZ n x).f j = (x j : Rat) from if_pos hj] at this
  exact Rat.intCast_eq_zero_iff.mp this
theorem small_eq {k i B : Nat} {Z : Nat → Int} (hB : 0 < B) (bZ : ∀ j, (Z j).natAbs ≤ B) : ∃ x : Nat → Int, (∃ j, j < k + 2 ∧ x j ≠ 0) ∧ (∀ j, (x j).natAbs ≤ ((k + 2) * B) ^ (k + 1)) ∧ ∀ j, j ≤ k → sm (fun t => Z (i + j + t) * x t) (k + 1) = x (k + 1) := by
  obtain ⟨x, h1, h2, h3⟩ := siegel (r := k + 1) (n := k + 2) (B := B) (fun j t => if t ≤ k then Z (i + j + t) else -1) (by omega) hB fun j t => by
    split
    · exact bZ _
    · show (1 : Nat) ≤ B; omega
  refine ⟨x, h1, h2, fun j hj => ?_⟩
  have := h3 j (by omega)
  have cong : ∀ n, n ≤ k + 1 → sm (fun t => (if t ≤ k then Z (i + j + t) else -1) * x t) n = sm (fun t => Z (i + j + t) * x t) n := fun n => by
    induction n with
    | zero => intro _; rfl
    | succ n ih => intro hn; show sm _ n + (if n ≤ k then Z (i + j + n) else -1) * x n = sm _ n + Z (i + j + n) * x n; rw [ih (by omega), if_pos (by omega)]
  replace this : sm (fun t => (if t ≤ k then Z (i + j + t) else -1) * x t) (k + 1) + (if k + 1 ≤ k then Z (i + j + (k + 1)) else -1) * x (k + 1) = 0 := this
  rw [cong _ (Nat.le_refl _), if_neg (by omega)] at this
  omega
theorem even_size {k i B M : Nat} {Z : Nat → Int} (hM : 0 < M) (hZ : ∀ j, S j = (Z j : Rat) / (M : Rat)) (hB : 0 < B) (bZ : ∀ j, (Z j).natAbs ≤ B) (o : Okk S (2 * k + 1) i) :
    ∃ p q : Int, q ≠ 0 ∧ Vl S (2 * k + 1) i = (p : Rat) / (q : Rat) ∧ p.natAbs ≤ ((k + 2) * B) ^ (k + 1) ∧ q.natAbs ≤ M * ((k + 1) * ((k + 2) * B) ^ (k + 1)) := by
  have Mq : (M : Rat) ≠ 0 := fun z => by have := Rat.natCast_eq_zero_iff.mp z; omega
  have A := (pl_all (S := S) k).2 i o
  obtain ⟨x, ⟨j0, hj0, x0⟩, bx, hx⟩ := small_eq (k := k) (i := i) hB bZ
  have ap' : ∀ j, j ≤ k → ap (k + 1) (ofZ (k + 1) x) S (i + j) = (x (k + 1) : Rat) / (M : Rat) := fun j hj => by rw [ap_ofZ Mq hZ, hx j hj]
  have eqp : ofZ (k + 1) x - Po.C ((sm x (k + 1) : Int) : Rat) * Pl' S (2 * k + 1) i = 0 := by
    have e0 : ev (k + 1) (ofZ (k + 1) x - Po.C ((sm x (k + 1) : Int) : Rat) * Pl' S (2 * k + 1) i) = 0 := by
      have y := A.e
      have z := ev_ofZ (k := k + 1) (x := x)
      unfold ev at y z ⊢
      rw [ap_sub, ap_C, y, z]; grind
    obtain ⟨d, hd, ed⟩ := div_z1 ((dg_ofZ _ _).sub (dgC A.d)) e0
    have c : ∀ j, j ≤ k → ap k d (dl S) (i + j) = (x (k + 1) : Rat) / (M : Rat) - ((sm x (k + 1) : Int) : Rat) * Vl S (2 * k + 1) i := fun j hj => by rw [← ap_z1 hd, ← ed, ap_sub, ap_C, ap' j hj, A.a j hj]
    have z := (un_all (S := S) k).2 i o d hd fun j hj => by rw [ap_dl (S := dl S), show i + j + 1 = i + (j + 1) by omega, c j (by omega), c (j + 1) (by omega)]; grind
    rw [ed, z]; grind
  have e1 : (x (k + 1) : Rat) / (M : Rat) = ((sm x (k + 1) : Int) : Rat) * Vl S (2 * k + 1) i := by
    have y : ap (k + 1) (ofZ (k + 1) x) S (i + 0) = ((sm x (k + 1) : Int) : Rat) * Vl S (2 * k + 1) i := by
      rw [show ofZ (k + 1) x = Po.C ((sm x (k + 1) : Int) : Rat) * Pl' S (2 * k + 1) i by grind, ap_C, A.a 0 (by omega)]
    rw [← y, ap' 0 (by omega)]
  have k0 : sm x (k + 1) ≠ 0 := fun z => by
    rw [z, show Po.C ((0 : Int) : Rat) = (0 : Po) from rfl] at eqp
    rw [z, show ((0 : Int) : Rat) = 0 from rfl, Rat.zero_mul] at e1
    have xz : x (k + 1) = 0 := Rat.intCast_eq_zero_iff.mp (by grind)
    by_cases y : j0 < k + 1
    · exact x0 (ofZ_zero (by grind) j0 y)
    · exact x0 (by rw [show j0 = k + 1 by omega]; exact xz)
  have kq := castN k0
  refine ⟨x (k + 1), (M : Int) * sm x (k + 1), Int.mul_ne_zero (by omega) k0, ?_, bx _, ?_⟩
  · rw [Rat.intCast_mul, Rat.intCast_natCast]; grind
  · rw [Int.natAbs_mul, Int.natAbs_natCast]
    exact Nat.mul_le_mul_left _ (sm_le bx _)
theorem odd_size {k i B M : Nat} {Z : Nat → Int} (hM : 0 < M) (hZ : ∀ j, S j = (Z j : Rat) / (M : Rat)) (hB : 0 < B) (bZ : ∀ j, (Z j).natAbs ≤ B) (o : Okk S (2 * k + 2) i) :
    ∃ p q : Int, q ≠ 0 ∧ Vl S (2 * k + 2) i = (p : Rat) / (q : Rat) ∧ q.natAbs ≤ ((k + 2) * (2 * B)) ^ (k + 1) ∧ p.natAbs ≤ M * ((k + 1) * ((k + 2) * (2 * B)) ^ (k + 1)) := by
  have Mq : (M : Rat) ≠ 0 := fun z => by have := Rat.natCast_eq_zero_iff.mp z; omega
  have A := (pl_all (S := S) (k + 1)).1 i o
  have Aa : ∀ j, j < k + 1 → ap (k + 1) (Pl' S (2 * k + 2) i) (dl S) (i + j) = 1 := A.a
  have Ae : ev (k + 1) (Pl' S (2 * k + 2) i) = Vl S (2 * k + 2) i := A.e
  have Ad : Dg (k + 1) (Pl' S (2 * k + 2) i) := A.d
  have hZ' : ∀ j, dl S j = ((Z (j + 1) - Z j : Int) : Rat) / (M : Rat) := fun j => by unfold dl; rw [hZ, hZ, Rat.intCast_sub]; grind
  obtain ⟨x, ⟨j0, hj0, x0⟩, bx, hx⟩ := small_eq (k := k) (i := i) (B := 2 * B) (Z := fun j => Z (j + 1) - Z j) (by omega) fun j => by have := bZ j; have := bZ (j + 1); omega
  have ap' : ∀ j, j < k + 1 → ap (k + 1) (ofZ (k + 1) x) (dl S) (i + j) = (x (k + 1) : Rat) / (M : Rat) := fun j hj => by
    have := hx j (by omega)
    rw [ap_ofZ Mq hZ', this]
  have eqp : ofZ (k + 1) x - Po.C ((x (k + 1) : Rat) / (M : Rat)) * Pl' S (2 * k + 2) i = 0 := (un_all (S := S) (k + 1)).1 i o _ ((dg_ofZ _ _).sub (dgC Ad)) fun j hj => by rw [ap_sub, ap_C, ap' j hj, Aa j hj]; grind
  have e1 : ((sm x (k + 1) : Int) : Rat) = (x (k + 1) : Rat) / (M : Rat) * Vl S (2 * k + 2) i := by
    rw [← ev_ofZ, ← Ae, show ofZ (k + 1) x = Po.C ((x (k + 1) : Rat) / (M : Rat)) * Pl' S (2 * k + 2) i by grind]
    unfold ev
    rw [ap_C]
  have k0 : x (k + 1) ≠ 0 := fun z => by
    rw [z, show ((0 : Int) : Rat) / (M : Rat) = 0 by show (0 : Rat) / _ = 0; grind, show Po.C 0 = (0 : Po) from rfl] at eqp
    by_cases y : j0 < k + 1
    · exact x0 (ofZ_zero (by grind) j0 y)
    · exact x0 (by rw [show j0 = k + 1 by omega]; exact z)
  have kq := castN k0
  refine ⟨(M : Int) * sm x (k + 1), x (k + 1), k0, ?_, bx _, ?_⟩
  · rw [Rat.intCast_mul, Rat.intCast_natCast, e1]; grind
  · rw [Int.natAbs_mul, Int.natAbs_natCast]
    exact Nat.mul_le_mul_left _ (sm_le bx _)
end

theorem draw {n : Nat} {s : Sx} (h : Good (n + 1) s) (many : Int) (h1 : 0 < many) (h2 : many < 2 ^ 100) : ∃ r s', g__law_take [.dict [], .int many] s = some (.int r, s') ∧ 0 ≤ r ∧ r < many ∧ Good n s' := take_spec h h1 h2

theorem gd_run {k : Nat} {a b : Int} (s : Sx) (hb : Bt k a ∨ Bt k b) (hk : k ≤ 2000) : g_greatest_divisor [.int a, .int b] s = some (.int (Int.gcd a b), s) := by
  have e1 : sPar 0 1 (aCons (f1 gAbs (fVar 0)) (aCons (f1 gAbs (fVar 1)) aNil)) [.val (.int a), .val (.int b)] s = some (.next [.val (.int (a.natAbs : Int)), .val (.int (b.natAbs : Int))], s) := by
    simp [sPar, aCons, aNil, f1, fVar, gAbs, abs_if]
  obtain ⟨x, y, e2, hy, hg⟩ : ∃ x y : Nat, sIf (asB (f2 gLt (fVar 0) (fVar 1))) (sPar 0 1 (aCons (fVar 1) (aCons (fVar 0) aNil))) sNext [.val (.int (a.natAbs : Int)), .val (.int (b.natAbs : Int))] s = some (.next [.val (.int (x : Int)), .val (.int (y : Int))], s) ∧ y < 2 ^ k ∧ Nat.gcd x y = Int.gcd a b := by
    by_cases h : (a.natAbs : Int) < (b.natAbs : Int)
    · refine ⟨b.natAbs, a.natAbs, by simp [sIf, asB, f2, fVar, gLt, gI, h, sPar, aCons, aNil], ?_, by unfold Int.gcd; exact Nat.gcd_comm _ _⟩
      rcases hb with hb | hb
      · exact hb
      · exact Nat.lt_trans (by omega) hb
    · refine ⟨a.natAbs, b.natAbs, by simp [sIf, asB, f2, fVar, gLt, gI, h, sNext], ?_, rfl⟩
      rcases hb with hb | hb
      · exact Nat.lt_of_le_of_lt (by omega) hb
      · exact hb
  have e3 : W_greatest_divisor_1 [.val (.int (x : Int)), .val (.int (y : Int))] s = some (.next [.val (.int (x : Int)), .val (.int (y : Int))], s) := by
    refine sWhile_done ?_
    have h8 : bitsOf (y : Int) ≤ ((k : Nat) : Int) := bits_le (show (y : Int).natAbs < 2 ^ k by omega)
    have h9 : ¬ 2000 < bitsOf (y : Int) := by omega
    simp [asB, f2, f1, fVar, fC, gBits, gGt, gI, h9]
  have e4 : W_greatest_divisor_2 [.val (.int (x : Int)), .val (.int (y : Int))] s = some (.next [.val (.int ((Nat.gcd x y : Nat) : Int)), .val (.int ((0 : Nat) : Int))], s) :=
    euclidF (fun x y => [.val (.int (x : Int)), .val (.int (y : Int))]) (fun x => by simp [asT, fVar, tru]) (fun x y hy => by
      have h0 : ¬ y = 0 := by omega
      simp [asT, fVar, tru, h0]) (fun x y hy => by
      have h0 : ¬ y = 0 := by omega
      simp [sPar, aCons, aNil, f2, fVar, gModI, gI, h0, fmod_nat]) hy (by omega)
  show (match G_greatest_divisor [.val (.int a), .val (.int b)] s with | some (.ret d, s') => some (d, s') | some (.next _, s') => some (.none, s') | _ => none) = _
  unfold G_greatest_divisor
  rw [sSeq_next e1, sSeq_next e2, sSeq_next e3, sSeq_next e4, hg]
  rfl

theorem number_run {k : Nat} {t b : Int} (s : Sx) (hb : Bt k b) (hk : k ≤ 2000) (h0 : b ≠ 0) : g_number [.int t, .int b] s = some (num t b, s) := by
  have hg := Bt.gcd (a := t) hb h0
  have gp := gcd_pos (t := t) h0
  have e := gd_run (a := t) s (.inr hb) hk
  by_cases hn : b < 0
  · have d1 : divOk t (-(Int.gcd t b : Int)) = true := Bt.div hg.neg (by omega) (by omega)
    have d2 : divOk b (-(Int.gcd t b : Int)) = true := Bt.div hg.neg (by omega) (by omega)
    simp [g_number, mkFn, G_number, sSeq, sSet, fCall, aCons, aNil, fVar, fC, e, sIf, asB, f2, f1, gLt, gI, hn, gNeg, sRet, eTup, gDivI, d1, d2, small2, num, numT, numB, sgn, fdiv_neg_sgn]
  · have d1 : divOk t (Int.gcd t b : Int) = true := Bt.div hg (by omega) (by omega)
    have d2 : divOk b (Int.gcd t b : Int) = true := Bt.div hg (by omega) (by omega)
    simp [g_number, mkFn, G_number, sSeq, sSet, fCall, aCons, aNil, fVar, fC, e, sIf, asB, f2, f1, gLt, gI, hn, gNeg, sRet, eTup, gDivI, d1, d2, small2, num, numT, numB, sgn, sNext]

theorem part_run {k : Nat} {t b : Int} (s : Sx) (ht : Bt k t) (hb : Bt k b) (hk : k ≤ 9000) (h0 : b ≠ 0) : g__law_part [.int t, .int b] s = some (num t b, s) := by
  have hg := Bt.gcd (a := t) hb h0
  have gp := gcd_pos (t := t) h0
  have loop : W__law_part_1 [.val (.int t), .val (.int b), .val (.int (t.natAbs : Int)), .val (.int (b.natAbs : Int)), .non] s = some (.next [.val (.int t), .val (.int b), .val (.int ((Nat.gcd t.natAbs b.natAbs : Nat) : Int)), .val (.int ((0 : Nat) : Int)), .non], s) :=
    euclidF (fun x y => [.val (.int t), .val (.int b), .val (.int (x : Int)), .val (.int (y : Int)), .non]) (fun x => by simp [asB, f2, fC, fVar, gGt, gI]) (fun x y hy => by
      simp [asB, f2, fC, fVar, gGt, gI, hy]) (fun x y hy => by
      have h0 : ¬ y = 0 := by omega
      simp [sPar, aCons, aNil, f2, fVar, gModI, gI, h0, fmod_nat]) hb (by omega)
  have e1 : sPar 2 3 (aCons (f1 gAbs (fVar 0)) (aCons (f1 gAbs (fVar 1)) aNil)) [.val (.int t), .val (.int b), .non, .non, .non] s = some (.next [.val (.int t), .val (.int b), .val (.int (t.natAbs : Int)), .val (.int (b.natAbs : Int)), .non], s) := by
    simp [sPar, aCons, aNil, f1, fVar, gAbs, abs_if]
  have d1 : ∀ x, divOk x (Int.gcd t b : Int) = true := fun x => Bt.div hg (by omega) hk
  have m0 : ∀ x : Int, Bt k x → mulOk (sgn b) x = true := fun x hx => (show Bt 1 (sgn b) by unfold Bt; rw [sgn_abs]; decide).ok hx (by omega)
  have m1 : mulOk 2 (if b < 0 then 1 else 0) = true := by split <;> decide
  have e3 : (1 - 2 * (if b < 0 then 1 else 0) : Int) = sgn b := by unfold sgn; split <;> rfl
  have e2 : sSeq (sSet 4 (f2 gSubI (fC (.int 1)) (f2 gMulI (fC (.int 2)) (f1 gInt (f2 gLt (fVar 1) (fC (.int 0))))))) (sRet (eTup (aCons (f2 gDivI (f2 gMulI (fVar 4) (fVar 0)) (fVar 2)) (aCons (f2 gDivI (f2 gMulI (fVar 4) (fVar 1)) (fVar 2)) aNil)))) [.val (.int t), .val (.int b), .val (.int (Int.gcd t b : Int)), .val (.int ((0 : Nat) : Int)), .non] s = some (.ret (num t b), s) := by
    simp only [sSeq, sSet, f2, f1, fC, fVar, gLt, gI, gInt, gMulI, gSubI, Option.bind_some, Option.map_some, List.getElem?_cons_zero, List.getElem?_cons_succ, List.set_cons_zero, List.set_cons_succ, decide_eq_true_eq, m1, e3, if_true]
    simp [sRet, eTup, aCons, aNil, f2, fVar, gDivI, gMulI, gI, m0 t ht, m0 b hb, d1, small2, num, numT, numB]
  show (match G__law_part [.val (.int t), .val (.int b), .non, .non, .non] s with | some (.ret d, s') => some (d, s') | some (.next _, s') => some (.none, s') | _ => none) = _
  unfold G__law_part
  rw [sSeq.eq_1, e1]
  show (match sSeq W__law_part_1 _ _ s with | some (.ret d, s') => some (d, s') | some (.next _, s') => some (.none, s') | _ => none) = _
  rw [sSeq.eq_1, loop]
  show (match sSeq _ _ _ s with | some (.ret d, s') => some (d, s') | some (.next _, s') => some (.none, s') | _ => none) = _
  rw [show ((Nat.gcd t.natAbs b.natAbs : Nat) : Int) = (Int.gcd t b : Int) from rfl, e2]

theorem same_int (n : Nat) (a : Int) (s : Sx) : r__law_same (n + 1) [.int a, .int a] s = some (.bool true, s) := by
  simp [r__law_same, mkFn, G__law_same, sSeq, sIf, asB, asT, tOrF, f1, f2, fVar, fC, gIs, sNext, gInst, tyN, tru, sRet, eAnd, gNot, gEq_int]
theorem same_pair (n : Nat) (a b : Int) (s : Sx) : r__law_same (n + 2) [.tuple [.int a, .int b], .tuple [.int a, .int b]] s = some (.bool true, s) := by
  have sm : small [PyData.tuple [PyData.int a, PyData.int a], PyData.tuple [PyData.int b, PyData.int b]] = true := small2 _ _
  rw [r__law_same]
  simp [mkFn, G__law_same, sSeq, sIf, asB, asT, tOrF, f1, f2, fVar, fC, gIs, sNext, gInst, tyN, tru, sRet, gNe_bool, gNe_int, gLen, asL, fComp, iZipF, seqOf, sm, compD, Tgt.run, setD, compDl, fTrue, fCall, aCons, aNil, same_int, gAll, bools]

theorem summed_run {k : Nat} {a b c d : Int} (s : Sx) (hk : k ≤ 2000) (ba : Bt k a) (bb : Bt k b) (bc : Bt k c) (bd : Bt k d) (hb : 0 < b) (hd : 0 < d) (h1 : Int.gcd a b = 1) (h2 : Int.gcd c d = 1) :
    g_summed [.int a, .int b, .int c, .int d] s = some (num (a * d + c * b) (b * d), s) := by
  have e1 := gd_run (a := b) (b := d) s (.inl bb) hk
  have hg0 : (Int.gcd b d : Int) ≠ 0 := by have := gcd_pos (t := b) (b := d) (by omega); omega
  have bg : Bt k (Int.gcd b d : Int) := Bt.gcd bd (by omega)
  have d1 : ∀ x, divOk x (Int.gcd b d : Int) = true := fun x => Bt.div bg hg0 (by omega)
  have b1 : Bt k (b.fdiv (Int.gcd b d)) := bb.fdiv
  have b2 : Bt k (d.fdiv (Int.gcd b d)) := bd.fdiv
  have m1 : mulOk a (d.fdiv (Int.gcd b d)) = true := ba.ok b2 (by omega)
  have m2 : mulOk c (b.fdiv (Int.gcd b d)) = true := bc.ok b1 (by omega)
  have e2 := number_run (t := a * (d.fdiv (Int.gcd b d)) + c * (b.fdiv (Int.gcd b d))) s bg hk hg0
  have m3 : mulOk (b.fdiv (Int.gcd b d)) (d.fdiv (Int.gcd b d)) = true := b1.ok b2 (by omega)
  have m4 : mulOk (b.fdiv (Int.gcd b d) * (d.fdiv (Int.gcd b d))) (numB (a * (d.fdiv (Int.gcd b d)) + c * (b.fdiv (Int.gcd b d))) (Int.gcd b d)) = true := (b1.mul b2).ok (Bt.numB bg) (by omega)
  obtain ⟨r1, r2⟩ := sum_num hb hd h1 h2
  have e2' : g_number [.int (a * (d.fdiv (Int.gcd b d)) + c * (b.fdiv (Int.gcd b d))), .int (Int.gcd b d : Int)] s = some (.tuple [.int (numT (a * (d.fdiv (Int.gcd b d)) + c * (b.fdiv (Int.gcd b d))) (Int.gcd b d)), .int (numB (a * (d.fdiv (Int.gcd b d)) + c * (b.fdiv (Int.gcd b d))) (Int.gcd b d))], s) := e2
  simp [g_summed, mkFn, G_summed, sSeq, sSet, sUnp, Tgt.run, setD, fCall, aCons, aNil, fVar, e1, f2, gDivI, gI, d1, gAdd, gAddI, gMulI, m1, m2, e2', sRet, eTup, m3, m4, small2]
  rw [r1, r2]; rfl

theorem plus_run {k : Nat} {x y : D} {a b c d : Int} (s : Sx) (hk : k ≤ 2000) (hx : Num k x a b) (hy : Num k y c d) : g_plus [x, y] s = some (num (a * d + c * b) (b * d), s) := by
  obtain ⟨rfl, hb, h1, ba, bb⟩ := hx
  obtain ⟨rfl, hd, h2, bc, bd⟩ := hy
  have e := summed_run s hk ba bb bc bd hb hd h1 h2
  simp [g_plus, mkFn, G_plus, sRet, fCall, aCons, aNil, f2, fVar, fC, gIx, atI0, atI1, e]

theorem times_run {k : Nat} {x y : D} {a b c d : Int} (s : Sx) (hk : k ≤ 2000) (hx : Num k x a b) (hy : Num k y c d) : g_times [x, y] s = some (num (a * c) (b * d), s) := by
  obtain ⟨rfl, hb, h1, ba, bb⟩ := hx
  obtain ⟨rfl, hd, h2, bc, bd⟩ := hy
  have e1 : g_number [.int a, .int d] s = some (.tuple [.int (numT a d), .int (numB a d)], s) := number_run (t := a) s bd hk (by omega)
  have e2 : g_number [.int c, .int b] s = some (.tuple [.int (numT c b), .int (numB c b)], s) := number_run (t := c) s bb hk (by omega)
  have m1 : mulOk (numT a d) (numT c b) = true := (Bt.numT ba).ok (Bt.numT bc) (by omega)
  have m2 : mulOk (numB a d) (numB c b) = true := (Bt.numB bd).ok (Bt.numB bb) (by omega)
  obtain ⟨r1, r2⟩ := mul_num hb (show d ≠ 0 by omega) h1 h2
  simp [g_times, mkFn, G_times, sSeq, sPar, sRet, fCall, aCons, aNil, f2, fVar, fC, gIx, atI0, atI1, e1, e2, eTup, gMulI, gI, m1, m2, small2]
  rw [r1, r2]; rfl

theorem lplus_run {k : Nat} {x y : D} {a b c d : Int} (s : Sx) (hk : k ≤ 4000) (hx : Num k x a b) (hy : Num k y c d) : g__law_plus [x, y] s = some (num (a * d + c * b) (b * d), s) := by
  obtain ⟨rfl, hb, h1, ba, bb⟩ := hx
  obtain ⟨rfl, hd, h2, bc, bd⟩ := hy
  have m1 : mulOk a d = true := ba.ok bd (by omega)
  have m2 : mulOk c b = true := bc.ok bb (by omega)
  have m3 : mulOk b d = true := bb.ok bd (by omega)
  have e := part_run (t := a * d + c * b) (b := b * d) s (((ba.mul bd).add (bc.mul bb)).mono (m := 2 * k + 1) (by omega)) ((bb.mul bd).mono (by omega)) (by omega) (Int.mul_ne_zero (by omega) (by omega))
  simp [g__law_plus, mkFn, G__law_plus, sRet, fCall, aCons, aNil, f2, fVar, fC, gIx, atI0, atI1, gMulI, gAdd, gAddI, gI, m1, m2, m3, e]

theorem lminus_run {k : Nat} {x y : D} {a b c d : Int} (s : Sx) (hk : k ≤ 4000) (hx : Num k x a b) (hy : Num k y c d) : g__law_minus [x, y] s = some (num (a * d - c * b) (b * d), s) := by
  obtain ⟨rfl, hb, h1, ba, bb⟩ := hx
  obtain ⟨rfl, hd, h2, bc, bd⟩ := hy
  have m1 : mulOk a d = true := ba.ok bd (by omega)
  have m2 : mulOk c b = true := bc.ok bb (by omega)
  have m3 : mulOk b d = true := bb.ok bd (by omega)
  have e := part_run (t := a * d - c * b) (b := b * d) s (((ba.mul bd).sub (bc.mul bb)).mono (m := 2 * k + 1) (by omega)) ((bb.mul bd).mono (by omega)) (by omega) (Int.mul_ne_zero (by omega) (by omega))
  simp [g__law_minus, mkFn, G__law_minus, sRet, fCall, aCons, aNil, f2, fVar, fC, gIx, atI0, atI1, gMulI, gSubI, gI, m1, m2, m3, e]

theorem ltimes_run {k : Nat} {x y : D} {a b c d : Int} (s : Sx) (hk : k ≤ 4000) (hx : Num k x a b) (hy : Num k y c d) : g__law_times [x, y] s = some (num (a * c) (b * d), s) := by
  obtain ⟨rfl, hb, h1, ba, bb⟩ := hx
  obtain ⟨rfl, hd, h2, bc, bd⟩ := hy
  have m1 : mulOk a c = true := ba.ok bc (by omega)
  have m3 : mulOk b d = true := bb.ok bd (by omega)
  have e := part_run (t := a * c) (b := b * d) s ((ba.mul bc).mono (m := 2 * k) (by omega)) ((bb.mul bd).mono (by omega)) (by omega) (Int.mul_ne_zero (by omega) (by omega))
  simp [g__law_times, mkFn, G__law_times, sRet, fCall, aCons, aNil, f2, fVar, fC, gIx, atI0, atI1, gMulI, gI, m1, m3, e]

theorem small_fit : ∀ t ∈ ([1, -1, 2, -2, 3, -3] : List Int), ∀ b ∈ ([1, 2] : List Int), Rat.divInt t b ≠ 0 ∧ Rat.divInt t b * ((2 : Nat) : Rat) = ((t * 2 / b : Int) : Rat) ∧ (t * 2 / b).natAbs ≤ 6 ∧ (Rat.divInt t b)⁻¹ * ((6 : Nat) : Rat) = ((6 * b / t : Int) : Rat) ∧ (6 * b / t).natAbs ≤ 12 ∧ b ≠ 0 ∧ t.natAbs < 2 ^ 40 ∧ b.natAbs < 2 ^ 40 := by decide +kernel
noncomputable def Lead (r : Rat) : Prop := r ≠ 0 ∧ Fit 2 6 r ∧ Fit 6 12 r⁻¹
theorem lsmall_run {n : Nat} {s : Sx} (h : Good (n + 2) s) : ∃ r s', g__law_small [.dict []] s = some (enc r, s') ∧ Lead r ∧ Good n s' := by
  obtain ⟨a, s1, e1, a0, a1, g1⟩ := draw (n := n + 1) h 8 (by decide) (by decide)
  obtain ⟨c, s2, e2, c0, c1, g2⟩ := draw (n := n) g1 8 (by decide) (by decide)
  obtain ⟨t, ht, et⟩ : ∃ t : Int, t ∈ ([1, -1, 2, -2, 3, -3] : List Int) ∧ gIx (.list [(.int 1), (.int (-1)), (.int 2), (.int (-2)), (.int 3), (.int (-3)), (.int 1), (.int (-1))]) (.int a) = some (.int t) := by
    have cs : a = 0 ∨ a = 1 ∨ a = 2 ∨ a = 3 ∨ a = 4 ∨ a = 5 ∨ a = 6 ∨ a = 7 := by omega
    rcases cs with rfl | rfl | rfl | rfl | rfl | rfl | rfl | rfl
    · exact ⟨1, by decide, rfl⟩
    · exact ⟨-1, by decide, rfl⟩
    · exact ⟨2, by decide, rfl⟩
    · exact ⟨-2, by decide, rfl⟩
    · exact ⟨3, by decide, rfl⟩
    · exact ⟨-3, by decide, rfl⟩
    · exact ⟨1, by decide, rfl⟩
    · exact ⟨-1, by decide, rfl⟩
  have dk : divOk c 6 = true := Bt.div (n := 7) (.lit (by decide)) (by decide) (by decide)
  obtain ⟨b, hb, eb⟩ : ∃ b : Int, b ∈ ([1, 2] : List Int) ∧ 1 + c.fdiv 6 = b := by
    rw [Int.fdiv_eq_ediv_of_nonneg _ (by decide)]
    by_cases h6 : c < 6
    · exact ⟨1, by decide, by omega⟩
    · exact ⟨2, by decide, by omega⟩
  obtain ⟨q1, q2, q3, q4, q5, q6, q7, q8⟩ := small_fit t ht b hb
  have e3 := part_run (k := 40) (t := t) (b := b) s2 q7 q8 (by decide) q6
  refine ⟨Rat.divInt t b, s2, ?_, ⟨q1, ⟨_, q2, q3⟩, ⟨_, q4, q5⟩⟩, g2⟩
  rw [← num_enc q6]
  simp [g__law_small, mkFn, G__law_small, sRet, fCall, aCons, aNil, fVar, fC, f2, e1, e2, et, gDivI, gI, dk, gAdd, gAddI, eb, e3]

theorem rOk_le {z : Int} (h0 : 0 ≤ z) (h1 : z ≤ 1000) : rOk z = true := by
  unfold rOk
  simp only [Bool.and_eq_true, decide_eq_true_eq]
  exact ⟨by omega, by omega⟩
theorem rep_run {z : Int} {d : D} (h0 : 0 ≤ z) (h1 : z ≤ 1000) : lRep (.list [d]) (.int z) = some (List.replicate z.toNat d) := by
  have e : [d].length * z.toNat ≤ sizeLine := by
    have : [d].length * z.toNat ≤ 1000 := by simp; omega
    exact Nat.le_trans this (by decide)
  have c : (decide (-(2 ^ 63) ≤ z) && decide (z < 2 ^ 63) && decide ([d].length * z.toNat ≤ sizeLine)) = true := by
    simp only [Bool.and_eq_true, decide_eq_true_eq]; exact ⟨⟨by omega, by omega⟩, e⟩
  unfold lRep
  simp only
  rw [if_pos c]
  simp
theorem o2_run {g : D → D → Option (List D)} {Fa Fb : FE} {δ : Sl} {s s1 s2 : Sx} {a b : D} {xs : List D} (h : Fa δ s = some (a, s1)) (h' : Fb δ s1 = some (b, s2)) (e : g a b = some xs) : o2 g Fa Fb δ s = some (xs, s2) := by
  unfold o2; rw [h]; simp only [Option.bind_some, h', Option.map_some, e]
theorem sSetO_run {i : Nat} {F : FO} {δ : Sl} {s s1 : Sx} {xs : List D} (h : F δ s = some (xs, s1)) : sSetO i F δ s = some (.next (δ.set i (.own xs)), s1) := by
  unfold sSetO; rw [h]; rfl
theorem eLst_run {FL : FA} {δ : Sl} {s s1 : Sx} {ds : List D} (h : FL δ s = some (ds, s1)) (hs : small ds = true) : eLst FL δ s = some (.list ds, s1) := by
  unfold eLst; rw [h]; simp only [Option.bind_some, hs, if_true]
theorem rep_nat {n : Nat} {d : D} (h : n ≤ 1000) : lRep (.list [d]) (.int (n : Int)) = some (List.replicate n d) := by
  have r := rep_run (z := (n : Int)) (d := d) (Int.natCast_nonneg _) (by omega)
  rwa [Int.toNat_natCast] at r
theorem sApp_run {i : Nat} {F : FE} {δ : Sl} {s s1 : Sx} {v : D} {xs : List D} (h : F δ s = some (v, s1)) (hi : δ[i]? = some (.own xs)) (hl : xs.length < 1000) : sApp i F δ s = some (.next (δ.set i (.own (xs ++ [v]))), s1) := by
  unfold sApp
  rw [h]
  simp only [Option.bind_some, hi]
  rw [if_pos (decide_eq_true (Nat.lt_of_lt_of_le hl (by decide)))]
theorem iRange1_r {F : FE} {δ : Sl} {s s' : Sx} {z : Int} (e : F δ s = some (.int z, s')) (h0 : 0 ≤ z) (h1 : z ≤ 1000) : iRange1 F δ s = some (rng 0 z.toNat, s') := by
  have r1 := rOk_le h0 h1
  unfold iRange1
  rw [e]
  simp only [Option.bind_some, r1, if_true]
theorem iRange1_nat {F : FE} {δ : Sl} {s s' : Sx} {n : Nat} (e : F δ s = some (.int (n : Int), s')) (h1 : n ≤ 1000) : iRange1 F δ s = some (rng 0 n, s') := by
  have := iRange1_r e (Int.natCast_nonneg _) (by omega)
  rwa [Int.toNat_natCast] at this
theorem rng_len (n : Nat) : (rng 0 n).length = n := by simp [rng]
theorem fCall_run {g : GF} {FL : FA} {δ : Sl} {s s1 : Sx} {ds : List D} {r : Option (D × Sx)} (h : FL δ s = some (ds, s1)) (e : g ds s1 = r) : fCall g FL δ s = r := by
  unfold fCall; rw [h]; exact e
theorem fn_run {n m : Nat} {G : GS} {ds : List D} {s s' : Sx} {d : D} (hl : ds.length = n) (h : G (ds.map .val ++ List.replicate m .non) s = some (.ret d, s')) : mkFn n m G ds s = some (d, s') := by
  unfold mkFn; rw [if_pos hl, h]

theorem plus_enc {n : Nat} {a b : Rat} (s : Sx) (hn : n ≤ 2000) (ha : Sz n a) (hb : Sz n b) : g_plus [enc a, enc b] s = some (enc (a + b), s) := by
  rw [plus_run s hn ha.num hb.num, add_enc]

theorem times_enc {n : Nat} {a b : Rat} (s : Sx) (hn : n ≤ 2000) (ha : Sz n a) (hb : Sz n b) : g_times [enc a, enc b] s = some (enc (a * b), s) := by
  rw [times_run s hn ha.num hb.num, mul_enc]

theorem lplus_enc {n : Nat} {a b : Rat} (s : Sx) (hn : n ≤ 4000) (ha : Sz n a) (hb : Sz n b) : g__law_plus [enc a, enc b] s = some (enc (a + b), s) := by
  rw [lplus_run s hn ha.num hb.num, add_enc]

theorem lminus_enc {n : Nat} {a b : Rat} (s : Sx) (hn : n ≤ 4000) (ha : Sz n a) (hb : Sz n b) : g__law_minus [enc a, enc b] s = some (enc (a - b), s) := by
  rw [lminus_run s hn ha.num hb.num, sub_enc]

theorem ltimes_enc {n : Nat} {a b : Rat} (s : Sx) (hn : n ≤ 4000) (ha : Sz n a) (hb : Sz n b) : g__law_times [enc a, enc b] s = some (enc (a * b), s) := by
  rw [ltimes_run s hn ha.num hb.num, mul_enc]

theorem getD_get {l : List D} {n : Nat} (h : n < l.length) : l[n]? = some (l.getD n zD) := by
  rw [List.getD_eq_getElem?_getD, List.getElem?_eq_getElem h]; rfl
theorem ltrimmed_run {n : Nat} {row : D} {l : List D} (s : Sx) (hl : seqOf row = some l) (h : AllN n l) (hb : l.length ≤ 1000) : g__law_trimmed [row] s = some (.tuple (trimD l), s) := by
  have loop : ∀ k : Nat, k ≤ l.length → whileN (tAndF (asB (f2 gNe (fVarW 1) (eLst aNil))) (asB (f2 gEq (f2 gIx (f2 gIx (fVarW 1) (f1 gNeg (fC (.int 1)))) (fC (.int 0))) (fC (.int 0))))) (sPop 1) (k + 1) [.val row, .own (l.take k)] s = some (.next [.val row, .own (l.take (trimLen l k))], s) := by
    intro k
    induction k with
    | zero =>
      intro _
      have e := gNe_list_nil (n := n) (l := []) (fun _ z => nomatch z)
      have sm : small [] = true := by decide
      simp [whileN, tAndF, asB, f2, fVarW, eLst, aNil, e, trimLen, sm]
    | succ k ih =>
      intro hk
      have hN := h.take (k + 1)
      have e := gNe_list_nil hN
      have sm : small [] = true := by decide
      have ne : l.take (k + 1) ≠ [] := by
        intro z; have := congrArg List.length z; rw [List.length_take, Nat.min_eq_left hk] at this; simp at this
      have hemp : (l.take (k + 1)).isEmpty = false := by
        cases hz : (l.take (k + 1)).isEmpty with
        | false => rfl
        | true => exact absurd (List.isEmpty_iff.mp hz) ne
      have hlast : (l.take (k + 1)).getLast ne = l.getD k zD := by
        rw [List.getLast_eq_getElem, List.getElem_take, List.getD_eq_getElem?_getD, List.getElem?_eq_getElem (by omega)]
        simp only [List.length_take, Nat.min_eq_left hk, Nat.add_sub_cancel, Option.getD_some]
      have hd : IsN n (l.getD k zD) := h _ (by have := getD_get (l := l) (n := k) (by omega); exact List.mem_of_getElem? this)
      obtain ⟨p, q, hpq⟩ := hd
      have hz0 := isZ_num hpq
      have e0 := num_ix0 hpq
      have e1 : gIx (.list (l.take (k + 1))) (.int (-1)) = some (l.getD k zD) := by
        show L2.atI (l.take (k + 1)) (-1) = _
        rw [atI_last ne, hlast]
      rw [hemp] at e
      have t1 : tAndF (asB (f2 gNe (fVarW 1) (eLst aNil))) (asB (f2 gEq (f2 gIx (f2 gIx (fVarW 1) (f1 gNeg (fC (.int 1)))) (fC (.int 0))) (fC (.int 0)))) [.val row, .own (l.take (k + 1))] s = some (isZ (l.getD k zD), s) := by
        simp only [tAndF, asB, f2, f1, fVarW, eLst, aNil, fC, gNeg, sm, e, e1, e0, gEq_int, hz0, Bool.not_false, List.getElem?_cons_zero, List.getElem?_cons_succ, Option.bind_some, Option.map_some, if_true]
      have t2 : sPop 1 [.val row, .own (l.take (k + 1))] s = some (.next [.val row, .own (l.take k)], s) := by
        have hdl : (l.take (k + 1)).dropLast = l.take k := by
          rw [List.dropLast_eq_take, List.length_take, Nat.min_eq_left hk, List.take_take, Nat.add_sub_cancel, Nat.min_eq_left (Nat.le_succ k)]
        simp only [sPop, List.getElem?_cons_zero, List.getElem?_cons_succ, hemp, Bool.false_eq_true, if_false, hdl]
        rfl
      rw [whileN.eq_2, t1]
      simp only [Option.bind_some]
      by_cases hz : isZ (l.getD k zD) = true
      · rw [if_pos hz, t2]
        simp only
        rw [ih (by omega), trimLen, if_pos hz]
      · rw [if_neg hz, trimLen, if_neg hz]
  have e1 : sSetO 1 (oList (fVar 0)) [.val row, .non] s = some (.next [.val row, .own (l.take l.length)], s) := by
    simp [sSetO, oList, fVar, hl]
  have e2 : W__law_trimmed_1 [.val row, .own (l.take l.length)] s = some (.next [.val row, .own (trimD l)], s) := whileN_mono (loop l.length (Nat.le_refl _)) (by unfold fuel; omega)
  show (match G__law_trimmed [.val row, .non] s with | some (.ret d, s') => some (d, s') | some (.next _, s') => some (.none, s') | _ => none) = _
  unfold G__law_trimmed
  rw [sSeq_next e1, sSeq_next e2]
  simp [sRet, f1, fVarW, gTuple]

theorem co_app {l : List Rat} {v : Rat} (k : Nat) : co (l ++ [v]) k = if k < l.length then co l k else if k = l.length then v else 0 := by
  unfold co
  rw [List.getD_eq_getElem?_getD, List.getD_eq_getElem?_getD]
  by_cases h : k < l.length
  · rw [if_pos h, List.getElem?_append_left h]
  · rw [if_neg h, List.getElem?_append_right (by omega)]
    by_cases h2 : k = l.length
    · rw [if_pos h2, h2, Nat.sub_self]; rfl
    · rw [if_neg h2, List.getElem?_eq_none (by simp; omega)]; rfl
theorem co_mem {l : List Rat} {P : Rat → Prop} (h : ∀ r ∈ l, P r) (h0 : P 0) (k : Nat) : P (co l k) := by
  by_cases hk : k < l.length
  · unfold co
    rw [List.getD_eq_getElem?_getD, List.getElem?_eq_getElem hk]
    exact h _ (List.getElem_mem hk)
  · rw [co_out (by omega)]; exact h0
theorem rats {P : Rat → Prop} : ∀ {l : List D}, (∀ d ∈ l, ∃ r, d = enc r ∧ P r) → ∃ m : List Rat, l = m.map enc ∧ ∀ r ∈ m, P r
  | [], _ => ⟨[], rfl, fun _ z => nomatch z⟩
  | d :: l, h => by
    obtain ⟨m, e, hm⟩ := rats (l := l) fun x hx => h x (List.mem_cons_of_mem _ hx)
    obtain ⟨r, rfl, hr⟩ := h d List.mem_cons_self
    exact ⟨r :: m, by rw [e]; rfl, fun x hx => by
      rcases List.mem_cons.mp hx with rfl | hx
      · exact hr
      · exact hm x hx⟩
theorem catL {a b : List D} (h : a.length + b.length ≤ 1000) : gAdd (.list a) (.list b) = some (.list (a ++ b)) := by
  have sm : small (a ++ b) = true := small_le (by rw [List.length_append]; exact h)
  simp [gAdd, gAddI, gI, gCatL, sm]
theorem mul_1 (d : D) : gMulA (.list [d]) (.int 1) = some (.list [d]) := by
  have := rep_run (z := 1) (d := d) (by decide) (by decide)
  simp only [gMulA, gMulI, gI, this, Option.map_some, Option.none_or]; rfl
theorem mul_0 (d : D) : gMulA (.list [d]) (.int 0) = some (.list []) := by
  have := rep_run (z := 0) (d := d) (by decide) (by decide)
  simp only [gMulA, gMulI, gI, this, Option.map_some, Option.none_or]; rfl
theorem oLst_run {FL : FA} {δ : Sl} {s s1 : Sx} {ds : List D} (h : FL δ s = some (ds, s1)) (hs : small ds = true) : oLst FL δ s = some (ds, s1) := by
  unfold oLst; rw [h]; simp only [Option.bind_some, hs, if_true]
theorem mulA_nat {m : Nat} {d : D} (h : m ≤ 1000) : gMulA (.list [d]) (.int (m : Int)) = some (.list (List.replicate m d)) := by
  simp only [gMulA, gMulI, gI, rep_nat h, Option.map_some, Option.none_or]
theorem add_one (j : Nat) : gAdd (.int (j : Int)) (.int 1) = some (.int ((j + 1 : Nat) : Int)) := by simp [gAdd, gAddI, gI]
theorem sub_one {n : Nat} (h : 1 ≤ n) : gSubI (.int (n : Int)) (.int 1) = some (.int ((n - 1 : Nat) : Int)) := by
  simp only [gSubI, gI, if_true]; congr 2; omega
theorem gEq_enc (x y : Rat) : gEq (enc x) (enc y) = some (.bool (decide (x = y))) := by
  unfold enc
  rw [gEq_pair]
  congr 2
  rw [← Bool.decide_and]
  refine decide_eq_decide.mpr ⟨fun h => Rat.ext h.1 (by omega), fun h => by subst h; exact ⟨rfl, rfl⟩⟩

theorem pick_run {δ : Sl} {s : Sx} {i v j : Nat} {xd : D} {a : List Rat} (hv : δ[v]? = some (.val xd)) (hi : δ[i]? = some (.val (.int (j : Int)))) (hx : seqOf xd = some (a.map enc)) :
    eIf (asB (f2 gLt (fVar i) (f1 gLen (fVar v)))) (f2 gIx (fVar v) (fVar i)) (eTup (aCons (fC (.int 0)) (aCons (fC (.int 1)) aNil))) δ s = some (enc (co a j), s) := by
  have f1' : fVar v δ s = some (xd, s) := by unfold fVar; rw [hv]
  have f2' : fVar i δ s = some (.int (j : Int), s) := by unfold fVar; rw [hi]
  have e1 : f2 gLt (fVar i) (f1 gLen (fVar v)) δ s = some (.bool (decide (j < a.length)), s) := by
    refine f2_run f2' (f1_run f1' (len_seq hx)) ?_
    rw [List.length_map]
    have : decide ((j : Int) < (a.length : Int)) = decide (j < a.length) := decide_eq_decide.mpr (by omega)
    simp only [gLt, gI, if_true, this]
  unfold eIf asB
  rw [e1]
  simp only [Option.bind_some, decide_eq_true_eq]
  by_cases h : j < a.length
  · rw [if_pos h]
    exact f2_run f1' f2' (by rw [ix_seq hx, at_co h])
  · rw [if_neg h, co_out (by omega), enc_zero]
    simp [eTup, aCons, aNil, fC, small2, zD]

theorem common {n : Nat} : ∀ {l : List Rat}, (∀ r ∈ l, Sz n r) → ∃ M, 0 < M ∧ M ≤ 2 ^ (n * l.length) ∧ ∀ r ∈ l, Fit M (2 ^ (n * (l.length + 1))) r
  | [], _ => ⟨1, by decide, Nat.pow_pos (by decide), fun r hr => nomatch hr⟩
  | a :: l, h => by
    obtain ⟨M, h0, h1, h2⟩ := common (l := l) fun r hr => h r (List.mem_cons_of_mem _ hr)
    obtain ⟨ha, hb⟩ := h a List.mem_cons_self
    have hd : a.den ≤ 2 ^ n := by have : (a.den : Int).natAbs < 2 ^ n := hb; omega
    have hn : a.num.natAbs ≤ 2 ^ n := Nat.le_of_lt ha
    have e1 : 2 ^ (n * (a :: l).length) = 2 ^ (n * l.length) * 2 ^ n := by rw [List.length_cons, Nat.mul_succ, Nat.pow_add]
    have e2 : 2 ^ (n * ((a :: l).length + 1)) = 2 ^ (n * (l.length + 1)) * 2 ^ n := by rw [List.length_cons, Nat.mul_succ n (l.length + 1), Nat.pow_add]
    refine ⟨M * a.den, Nat.mul_pos h0 (by have := a.den_nz; omega), by rw [e1]; exact Nat.mul_le_mul h1 hd, fun r hr => ?_⟩
    rw [e2]
    rcases List.mem_cons.mp hr with rfl | hr
    · have := (Fit.self r).scale M
      rw [Nat.mul_comm r.den M] at this
      refine this.mono ?_
      rw [Nat.mul_comm]
      refine Nat.mul_le_mul (Nat.le_trans h1 (Nat.pow_le_pow_right (by decide) (Nat.mul_le_mul_left _ (by omega)))) hn
    · exact ((h2 r hr).scale a.den).mono (Nat.mul_le_mul_left _ hd)

theorem sIf_t {Ft : FT} {G1 G2 : GS} {δ : Sl} {s s' : Sx} {r : Option (Out × Sx)} (h : Ft δ s = some (true, s')) (g : G1 δ s' = r) : sIf Ft G1 G2 δ s = r := by
  unfold sIf; rw [h]; exact g
theorem sIf_f {Ft : FT} {G1 G2 : GS} {δ : Sl} {s s' : Sx} {r : Option (Out × Sx)} (h : Ft δ s = some (false, s')) (g : G2 δ s' = r) : sIf Ft G1 G2 δ s = r := by
  unfold sIf; rw [h]; exact g
theorem draw_le {n : Nat} {s : Sx} {M : Int} (h : Good (n + 1) s) (h1 : 0 < M) (h2 : M ≤ 1000) : ∃ r s', g__law_take [.dict [], .int M] s = some (.int r, s') ∧ 0 ≤ r ∧ r < M ∧ Good n s' := draw h M h1 (by omega)
theorem draw_nat {n m : Nat} {s : Sx} (h : Good (n + 1) s) (h1 : 0 < m) (h2 : m ≤ 1000) : ∃ (j : Nat) (s' : Sx), g__law_take [.dict [], .int (m : Int)] s = some (.int (j : Int), s') ∧ j < m ∧ Good n s' := by
  obtain ⟨r, s', e, r0, r1, g⟩ := draw_le (M := (m : Int)) h (by omega) (by omega)
  obtain ⟨j, hj⟩ : ∃ j : Nat, r = (j : Int) := ⟨r.toNat, by omega⟩
  subst hj
  exact ⟨j, s', e, by omega, g⟩
theorem compD_in {T : Tgt} {Ft : FT} {F : FE} {δc : Sl} (P Q : D → Prop) (c : Nat) (step : ∀ n s d, Q d → Good (n + c) s → ∃ δ1 x s', T.run d δc = some δ1 ∧ Ft δ1 s = some (true, s) ∧ F δ1 s = some (x, s') ∧ P x ∧ Good n s') :
    ∀ (ds : List D) (n : Nat) (s : Sx), (∀ d ∈ ds, Q d) → Good (n + c * ds.length) s → ∃ xs s', compD T Ft F δc ds s = some (xs, s') ∧ (∀ x ∈ xs, P x) ∧ xs.length = ds.length ∧ Good n s'
  | [], n, s, _, h => ⟨[], s, rfl, (fun _ z => nomatch z), rfl, by simpa using h⟩
  | d :: ds, n, s, hq, h => by
    obtain ⟨δ1, x, s1, e1, e2, e3, hx, g1⟩ := step (n + c * ds.length) s d (hq d List.mem_cons_self) (h.mono (by rw [List.length_cons, Nat.mul_add]; omega))
    obtain ⟨xs, s2, e4, hxs, hl, g2⟩ := compD_in P Q c step ds n s1 (fun d hd => hq d (List.mem_cons_of_mem _ hd)) g1
    refine ⟨x :: xs, s2, ?_, ?_, by simp [hl], g2⟩
    · unfold compD
      rw [e1]
      simp only [Option.bind_some, e2, if_true, e3, e4, Option.map_some]
    · intro y hy
      rcases List.mem_cons.mp hy with rfl | hy
      · exact hx
      · exact hxs y hy
theorem rng_int {m : Nat} : ∀ d ∈ rng 0 m, ∃ j : Nat, d = .int (j : Int) ∧ j < m := fun d hd => by
  obtain ⟨j, hj⟩ := List.getElem?_of_mem hd
  obtain ⟨h, rfl⟩ := rng_get hj
  exact ⟨j, rfl, h⟩
theorem iRange1_any {F : FE} {δ : Sl} {s s' : Sx} {z : Int} (e : F δ s = some (.int z, s')) (h0 : -1000 ≤ z) (h1 : z ≤ 1000) : iRange1 F δ s = some (rng 0 z.toNat, s') := by
  have r1 : rOk z = true := by
    unfold rOk
    simp only [Bool.and_eq_true, decide_eq_true_eq]
    exact ⟨by omega, by omega⟩
  unfold iRange1
  rw [e]
  simp only [Option.bind_some, r1, if_true]
theorem enc_int (z : Int) : PyData.tuple [.int z, .int 1] = enc (z : Rat) := rfl
theorem sz_int {z : Int} {n : Nat} (h : Bt n z) (h1 : 1 ≤ n) : Sz n (z : Rat) := ⟨h, by show Bt n 1; exact Bt.mono (n := 1) (.lit (by decide)) h1⟩
theorem fit_int {z : Int} {B : Nat} (h : z.natAbs ≤ B) : Fit 1 B (z : Rat) := ⟨z, by grind, h⟩
theorem fit_int2 {z : Int} (h : z.natAbs ≤ 3) : Fit 2 6 (z : Rat) := (fit_int h).scale 2
theorem take_elem {n k c : Nat} {s : Sx} {δ : Sl} {i : Nat} (h : Good (n + 1) s) (hk : 0 < k) (hk2 : k ≤ 1000) (hi : δ[i]? = some (.val (.dict []))) (hc : c ≤ 1000) :
    ∃ (z : Int) (s' : Sx), eTup (aCons (f2 gSubI (fCall g__law_take (aCons (fVar i) (aCons (fC (.int (k : Int))) aNil))) (fC (.int (c : Int)))) (aCons (fC (.int 1)) aNil)) δ s = some (enc (z : Rat), s') ∧ -(c : Int) ≤ z ∧ z < (k : Int) - c ∧ Good n s' := by
  obtain ⟨j, s', e, hj, g⟩ := draw_nat (n := n) h hk hk2
  have v : fVar i δ s = some (.dict [], s) := by unfold fVar; rw [hi]
  refine ⟨(j : Int) - (c : Int), s', ?_, by omega, by omega, g⟩
  rw [← enc_int]
  unfold eTup
  rw [aCons_run (f2_run (a := .int (j : Int)) (b := .int (c : Int)) (d := .int ((j : Int) - (c : Int))) (fCall_run (aCons_run v (aCons_run (F := fC (.int (k : Int))) (FL := aNil) rfl rfl)) e) rfl (by simp only [gSubI, gI, if_true])) (aCons_run (F := fC (.int 1)) (FL := aNil) rfl rfl)]
  simp only [Option.bind_some, small2, if_true]
theorem cat_co {l m : List Rat} {P : Rat → Prop} (hl : ∀ r ∈ l, P r) (hm : ∀ r ∈ m, P r) : ∀ r ∈ l ++ m, P r := fun r hr => (List.mem_append.mp hr).elim (hl r) (hm r)

theorem fnC_run {n m : Nat} {G : GS} {ds : List D} {s s' : Sx} {xs : List D} (hl : ds.length = n) (h : G (ds.map .val ++ List.replicate m .non) s = some (.own xs, s')) : mkFnC n m G ds s = some (.own xs, s') := by
  unfold mkFnC; rw [if_pos hl, h]
theorem sSetC_run {i : Nat} {F : FC} {δ : Sl} {s s1 : Sx} {xs : List D} (h : F δ s = some (.own xs, s1)) : sSetC i F δ s = some (.next (δ.set i (.own xs)), s1) := by
  unfold sSetC; rw [h]; rfl
theorem fCallC_run {g : GC} {FL : FA} {δ : Sl} {s s1 : Sx} {ds : List D} {r : Option (Ce × Sx)} (h : FL δ s = some (ds, s1)) (e : g ds s1 = r) : fCallC g FL δ s = r := by
  unfold fCallC; rw [h]; exact e
theorem forD_cons {T : Tgt} {G : GS} {d : D} {ds : List D} {δ δ1 δ2 : Sl} {s s1 : Sx} {r : Option (Out × Sx)} (h : T.run d δ = some δ1) (g : G δ1 s = some (.next δ2, s1)) (w : forD T G ds δ2 s1 = r) : forD T G (d :: ds) δ s = r := by
  show ((T.run d δ).bind fun δ1 => _) = _
  rw [h]
  simp only [Option.bind_some, g]
  exact w

theorem range2_i {Fa Fb : FE} {δ : Sl} {s s1 s2 : Sx} {z w : Int} (ha : Fa δ s = some (.int z, s1)) (hb : Fb δ s1 = some (.int w, s2)) (h0 : 0 ≤ z) (h1 : z ≤ 1000) (h2 : 0 ≤ w) (h3 : w ≤ 1000) : iRange2 Fa Fb δ s = some (rng z (w - z).toNat, s2) := by
  have r1 := rOk_le h0 h1
  have r2 := rOk_le h2 h3
  unfold iRange2
  rw [ha]
  simp only [Option.bind_some, hb, r1, r2, Bool.and_self, if_true]
theorem range2_nat {Fa Fb : FE} {δ : Sl} {s s1 s2 : Sx} {a b : Nat} (ha : Fa δ s = some (.int (a : Int), s1)) (hb : Fb δ s1 = some (.int (b : Int), s2)) (h1 : a ≤ 1000) (h2 : b ≤ 1000) : iRange2 Fa Fb δ s = some (rng (a : Int) (b - a), s2) := by
  have e := range2_i ha hb (Int.natCast_nonneg _) (by omega) (Int.natCast_nonneg _) (by omega)
  rwa [show ((b : Int) - (a : Int)).toNat = b - a by omega] at e
theorem rngA_get {a n j : Nat} {d : D} (h : (rng (a : Int) n)[j]? = some d) : j < n ∧ d = .int ((a + j : Nat) : Int) := by
  unfold rng at h
  rw [List.getElem?_map] at h
  by_cases hj : j < n
  · rw [List.getElem?_range hj] at h
    simp only [Option.map_some, Option.some.injEq] at h
    refine ⟨hj, ?_⟩
    rw [← h]
    congr 1
  · rw [List.getElem?_eq_none (by simpa using hj)] at h; simp at h
theorem min_nat (a b : Nat) : gMin (.int (a : Int)) (.int (b : Int)) = some (.int ((min a b : Nat) : Int)) := by
  simp only [gMin, gI, if_true]; congr 2; split <;> omega
theorem sub_nat {a b : Nat} (h : b ≤ a) : gSubI (.int (a : Int)) (.int (b : Int)) = some (.int ((a - b : Nat) : Int)) := by
  simp only [gSubI, gI, if_true]; congr 2; omega

theorem pw_two (i : Nat) : 2 ^ i ≤ 2 * 64 ^ (i - 1) := by
  cases i with
  | zero => decide
  | succ k => rw [Nat.pow_succ, Nat.mul_comm, Nat.add_sub_cancel]; exact Nat.mul_le_mul_left _ (Nat.pow_le_pow_left (by decide) _)
theorem pw_end {B i t : Nat} (ht : t ≤ 8) (hi : t ≤ i) : B * 2 ^ i + t * (6 * (B * 64 ^ (i - 1))) ≤ B * 64 ^ i := by
  cases i with
  | zero =>
    have : t = 0 := by omega
    subst this
    simp
  | succ k =>
    have h1 : B * 2 ^ (k + 1) ≤ 2 * (B * 64 ^ k) := by
      have := Nat.mul_le_mul_left B (pw_two (k + 1))
      rw [Nat.add_sub_cancel] at this
      rw [Nat.mul_left_comm]; exact this
    have h2 : t * (6 * (B * 64 ^ k)) ≤ 8 * (6 * (B * 64 ^ k)) := Nat.mul_le_mul_right _ ht
    have h3 : B * 64 ^ (k + 1) = 64 * (B * 64 ^ k) := by rw [Nat.pow_succ]; generalize 64 ^ k = P; rw [← Nat.mul_assoc, Nat.mul_comm]
    rw [Nat.add_sub_cancel, h3]
    omega
theorem pw_step {M i j : Nat} (h1 : 1 ≤ j) (h2 : j ≤ i) : 2 * (M * 2 ^ (i - j)) * 2 ^ (j - 1) = M * 2 ^ i := by
  have : 2 ^ i = 2 * (2 ^ (i - j) * 2 ^ (j - 1)) := by rw [← Nat.pow_add, ← Nat.pow_succ', show (i - j + (j - 1)).succ = i by omega]
  rw [this]
  generalize 2 ^ (i - j) = P
  generalize 2 ^ (j - 1) = Q
  grind
theorem pw_w {B i j : Nat} (h1 : 1 ≤ j) (h2 : j ≤ i) : 6 * (B * 64 ^ (i - j)) * 2 ^ (j - 1) ≤ 6 * (B * 64 ^ (i - 1)) := by
  have e : 64 ^ (i - 1) = 64 ^ (i - j) * 64 ^ (j - 1) := by rw [← Nat.pow_add, show i - j + (j - 1) = i - 1 by omega]
  have l : 2 ^ (j - 1) ≤ 64 ^ (j - 1) := Nat.pow_le_pow_left (by decide) _
  rw [e, Nat.mul_assoc, ← Nat.mul_assoc B]
  exact Nat.mul_le_mul_left _ (Nat.mul_le_mul_left _ l)
noncomputable def Ser (M B : Nat) (c : List Rat) : Prop := ∀ k, k < c.length → Fit (M * 2 ^ k) (B * 64 ^ k) (co c k)
theorem ser_inner {N M B i m : Nat} {top below found : List Rat} {f0 : Rat} {x6 : Ce} (s : Sx) (hN : N ≤ 2000) (hN3 : 3 ≤ N) (hS : ∀ k r, k ≤ 24 → Fit (M * 2 ^ k) (B * 64 ^ k) r → Sz N r) (hb : ∀ k, Fit 2 6 (co below k)) (hbl : below.length ≤ 9) (hi : i ≤ 24) (hf : found.length = i) (hF : Ser M B found)
    (h0 : Fit (M * 2 ^ i) (B * 2 ^ i) f0) :
    ∃ f x6', L__law_series_2 [.val (.tuple (top.map enc)), .val (.tuple (below.map enc)), .val (.int (m : Int)), .own (found.map enc), .val (.int (i : Int)), .val (enc f0), x6] s = some (.next [.val (.tuple (top.map enc)), .val (.tuple (below.map enc)), .val (.int (m : Int)), .own (found.map enc), .val (.int (i : Int)), .val (enc f), x6'], s) ∧ Fit (M * 2 ^ i) (B * 64 ^ i) f := by
  obtain ⟨δ', s', e, hs, f, x6', hδ, hfit⟩ := forD_at (T := .one 6) (G := B__law_series_1) (fun t δ s' => s' = s ∧ ∃ f x6, δ = [.val (.tuple (top.map enc)), .val (.tuple (below.map enc)), .val (.int (m : Int)), .own (found.map enc), .val (.int (i : Int)), .val (enc f), x6] ∧ Fit (M * 2 ^ i) (B * 2 ^ i + t * (6 * (B * 64 ^ (i - 1)))) f)
    (rng ((1 : Nat) : Int) (min (i + 1) below.length - 1)) [.val (.tuple (top.map enc)), .val (.tuple (below.map enc)), .val (.int (m : Int)), .own (found.map enc), .val (.int (i : Int)), .val (enc f0), x6] s ⟨rfl, f0, x6, rfl, h0.mono (by omega)⟩ (fun t d δ s' hd x__142 => by
      obtain ⟨hs, f, x6, hδ, hfit⟩ := x__142
      subst hs hδ
      obtain ⟨ht, rfl⟩ := rngA_get hd
      have t4 : t ≤ 8 := by omega
      have hj : 1 + t ≤ i := by omega
      have hk : i - (1 + t) < found.length := by omega
      have hjb : 1 + t < below.length := by omega
      have f26 := hb (1 + t)
      have fk := hF (i - (1 + t)) hk
      have fw := (f26.mul fk).scale (2 ^ (1 + t - 1))
      rw [pw_step (by omega) hj] at fw
      replace fw := fw.mono (pw_w (B := B) (by omega) hj)
      have sf : Sz N f := hS i f hi (hfit.mono (pw_end t4 (by omega)))
      have sb : Sz N (co below (1 + t)) := (f26.sz (n := 3) (by decide) (by decide) (by decide)).mono hN3
      have sk : Sz N (co found (i - (1 + t))) := hS _ _ (by omega) fk
      have hY : 6 * (B * 64 ^ (i - 1)) ≤ B * 64 ^ i := Nat.le_trans (by rw [Nat.one_mul]; exact Nat.le_add_left _ _) (pw_end (t := 1) (by decide) (by omega))
      have sw : Sz N (co below (1 + t) * co found (i - (1 + t))) := hS i _ hi (fw.mono hY)
      have e1 := ltimes_enc s' (by omega) sb sk
      have e2 := lminus_enc s' (by omega) sf sw
      have nf := hfit.sub fw
      rw [Nat.add_assoc, ← Nat.succ_mul] at nf
      refine ⟨[.val (.tuple (top.map enc)), .val (.tuple (below.map enc)), .val (.int (m : Int)), .own (found.map enc), .val (.int (i : Int)), .val (enc f), .val (.int ((1 + t : Nat) : Int))], [.val (.tuple (top.map enc)), .val (.tuple (below.map enc)), .val (.int (m : Int)), .own (found.map enc), .val (.int (i : Int)), .val (enc (f - co below (1 + t) * co found (i - (1 + t)))), .val (.int ((1 + t : Nat) : Int))], s', rfl, ?_, rfl, _, _, rfl, nf⟩
      exact sSet_run (fCall_run (aCons_run (F := fVar 5) rfl (aCons_run (FL := aNil) (fCall_run (aCons_run (f2_run (a := .tuple (below.map enc)) (b := .int ((1 + t : Nat) : Int)) rfl rfl (at_co hjb)) (aCons_run (FL := aNil) (f2_run (a := .list (found.map enc)) (b := .int ((i - (1 + t) : Nat) : Int)) rfl (f2_run rfl rfl (sub_nat hj)) (at_co hk)) rfl)) e1) rfl)) e2))
  subst hs hδ
  have er : iRange2 (fC (.int 1)) (f2 gMin (f2 gAdd (fVar 4) (fC (.int 1))) (f1 gLen (fVar 1))) [.val (.tuple (top.map enc)), .val (.tuple (below.map enc)), .val (.int (m : Int)), .own (found.map enc), .val (.int (i : Int)), .val (enc f0), x6] s' = some (rng ((1 : Nat) : Int) (min (i + 1) below.length - 1), s') :=
    range2_nat (a := 1) (b := min (i + 1) below.length) rfl (f2_run (f2_run rfl rfl (add_one i)) (f1_run rfl (show gLen (.tuple (below.map enc)) = some (.int (below.length : Int)) by simp [gLen])) (min_nat _ _)) (by decide) (by omega)
  refine ⟨f, x6', ?_, hfit.mono (pw_end (by simp [rng]; omega) (by simp [rng]; omega))⟩
  unfold L__law_series_2 sFor
  rw [er]
  exact e
theorem series_run {N M B m : Nat} {top below : List Rat} (s : Sx) (hN : N ≤ 2000) (hN3 : 3 ≤ N) (hS : ∀ k r, k ≤ 24 → Fit (M * 2 ^ k) (B * 64 ^ k) r → Sz N r) (ht : ∀ k, Fit M B (co top k)) (hb : ∀ k, Fit 2 6 (co below k)) (hbl : below.length ≤ 9) (hm : m ≤ 24) :
    ∃ c : List Rat, gC__law_series [.tuple (top.map enc), .tuple (below.map enc), .int (m : Int)] s = some (.own (c.map enc), s) ∧ c.length = m ∧ Ser M B c := by
  obtain ⟨δ', s', e, hs, c, x4, x5, x6, hδ, hl, hF⟩ := forD_at (T := .one 4) (G := B__law_series_3) (fun i δ s' => s' = s ∧ ∃ c x4 x5 x6, δ = [.val (.tuple (top.map enc)), .val (.tuple (below.map enc)), .val (.int (m : Int)), .own (c.map enc), x4, x5, x6] ∧ c.length = i ∧ Ser M B c)
    (rng 0 m) [.val (.tuple (top.map enc)), .val (.tuple (below.map enc)), .val (.int (m : Int)), .own (([] : List Rat).map enc), .non, .non, .non] s ⟨rfl, [], .non, .non, .non, rfl, rfl, fun k hk => absurd hk (Nat.not_lt_zero _)⟩ (fun i d δ s' hd x__143 => by
      obtain ⟨hs, c, x4, x5, x6, hδ, hl, hF⟩ := x__143
      subst hs hδ
      obtain ⟨hi, rfl⟩ := rng_get hd
      have f0 : Fit (M * 2 ^ i) (B * 2 ^ i) (co top i) := (ht i).scale (2 ^ i)
      obtain ⟨f, x6', e2, hf⟩ := ser_inner (m := m) (top := top) (x6 := x6) s' hN hN3 hS hb hbl (show i ≤ 24 by omega) hl hF f0
      refine ⟨[.val (.tuple (top.map enc)), .val (.tuple (below.map enc)), .val (.int (m : Int)), .own (c.map enc), .val (.int (i : Int)), x5, x6], [.val (.tuple (top.map enc)), .val (.tuple (below.map enc)), .val (.int (m : Int)), .own ((c ++ [f]).map enc), .val (.int (i : Int)), .val (enc f), x6'], s', rfl, ?_, rfl, _, _, _, _, rfl, by simp [hl], fun k hk => ?_⟩
      · unfold B__law_series_3
        have a1 : sSet 5 (eIf (asB (f2 gLt (fVar 4) (f1 gLen (fVar 0)))) (f2 gIx (fVar 0) (fVar 4)) (eTup (aCons (fC (.int 0)) (aCons (fC (.int 1)) aNil)))) [.val (.tuple (top.map enc)), .val (.tuple (below.map enc)), .val (.int (m : Int)), .own (c.map enc), .val (.int (i : Int)), x5, x6] s' = some (.next [.val (.tuple (top.map enc)), .val (.tuple (below.map enc)), .val (.int (m : Int)), .own (c.map enc), .val (.int (i : Int)), .val (enc (co top i)), x6], s') :=
          sSet_run (pick_run (i := 4) (v := 0) (j := i) (a := top) (xd := .tuple (top.map enc)) rfl rfl rfl)
        rw [sSeq_next a1, sSeq_next e2]
        rw [sApp_run (v := enc f) (s1 := s') (xs := c.map enc) rfl rfl (by rw [List.length_map]; omega), List.map_append]
        rfl
      · rw [co_app, hl]
        rw [List.length_append, List.length_singleton, hl] at hk
        by_cases h : k < i
        · rw [if_pos h]; exact hF k (by omega)
        · have : k = i := by omega
          subst this
          rw [if_neg (by omega), if_pos rfl]; exact hf)
  subst hs hδ
  rw [rng_len] at hl
  refine ⟨c, fnC_run (n := 3) (m := 4) (G := G__law_series) rfl ?_, hl, hF⟩
  show G__law_series [.val (.tuple (top.map enc)), .val (.tuple (below.map enc)), .val (.int (m : Int)), .non, .non, .non, .non] s' = _
  have er : iRange1 (fVar 2) [.val (.tuple (top.map enc)), .val (.tuple (below.map enc)), .val (.int (m : Int)), .own (([] : List Rat).map enc), .non, .non, .non] s' = some (rng 0 m, s') := iRange1_nat rfl (by omega)
  have e2 : L__law_series_4 [.val (.tuple (top.map enc)), .val (.tuple (below.map enc)), .val (.int (m : Int)), .own (([] : List Rat).map enc), .non, .non, .non] s' = some (.next [.val (.tuple (top.map enc)), .val (.tuple (below.map enc)), .val (.int (m : Int)), .own (c.map enc), x4, x5, x6], s') := by
    unfold L__law_series_4 sFor
    rw [er]
    exact e
  unfold G__law_series
  rw [sSeq_next (sSetO_run (oLst_run rfl (small_le (by simp))))]
  show sSeq L__law_series_4 _ [.val (.tuple (top.map enc)), .val (.tuple (below.map enc)), .val (.int (m : Int)), .own (([] : List Rat).map enc), .non, .non, .non] s' = _
  rw [sSeq_next e2]
  rfl

theorem sm_list {k : Nat} {l : List D} (h : ∀ d ∈ l, ∀ s, r__law_same k [d, d] s = some (.bool true, s)) (hb : l.length ≤ 1000) (s : Sx) : r__law_same (k + 1) [.list l, .list l] s = some (.bool true, s) := by
  have hz : (l.zip l).map (fun z => PyData.tuple [z.1, z.2]) = l.map fun d => .tuple [d, d] := by
    clear hb h
    induction l with
    | nil => rfl
    | cons a r ih => simp [ih]
  have hc : compD (.tup [0, 1]) fTrue (fCall (r__law_same k) (aCons (fVar 0) (aCons (fVar 1) aNil))) [.non, .non] (l.map fun d => PyData.tuple [d, d]) s = some ((l.map fun d => PyData.tuple [d, d]).map (fun _ => PyData.bool true), s) := by
    refine compD_pure _ fun d hd => ?_
    obtain ⟨x, hx, rfl⟩ := List.mem_map.mp hd
    exact ⟨[.val x, .val x], rfl, rfl, by simp [fCall, aCons, aNil, fVar, h x hx s]⟩
  have hsm : small (l.map fun d => PyData.tuple [d, d]) = true := small_le (by simpa using hb)
  have hb2 := bools_map (l.map fun d => PyData.tuple [d, d]) (fun _ => true)
  have ht : (List.map (fun _ => true) (l.map fun d => PyData.tuple [d, d])).all (fun b => b) = true := by simp
  rw [r__law_same]
  simp [mkFn, G__law_same, sSeq, sIf, asB, asT, tOrF, f1, f2, fVar, fC, gIs, sNext, gInst, tyN, tru, sRet, gNe_bool, gNe_int, gLen, asL, fComp, iZipF, seqOf, compDl]
  rw [hz]
  simp only [hsm, if_true]
  rw [hc]
  simp only [Option.map_some, Option.bind_some, Function.comp, gAll, hb2, ht]

theorem while_stop {Ft : FT} {G : GS} {δ : Sl} {s : Sx} {k : Nat} (h : Ft δ s = some (false, s)) : whileN Ft G (k + 1) δ s = some (.next δ, s) := by
  rw [whileN.eq_2, h]; rfl

noncomputable def IsSeq (d : D) (l : List D) : Prop := d = .list l ∨ d = .tuple l
theorem IsSeq.seq {d : D} {l : List D} (h : IsSeq d l) : seqOf d = some l := by rcases h with rfl | rfl <;> rfl
theorem IsSeq.lst {d : D} {l : List D} (h : IsSeq d l) : gList d = some (.list l) := by rcases h with rfl | rfl <;> rfl
theorem IsSeq.tup {d : D} {l : List D} (h : IsSeq d l) : gTuple d = some (.tuple l) := by rcases h with rfl | rfl <;> rfl
theorem eTup_run {FL : FA} {δ : Sl} {s s1 : Sx} {ds : List D} (h : FL δ s = some (ds, s1)) (hs : small ds = true) : eTup FL δ s = some (.tuple ds, s1) := by
  unfold eTup; rw [h]; simp only [Option.bind_some, hs, if_true]
theorem mul_small {a b : Nat} (ha : a < 100) (hb : b < 100) : gMulI (.int (a : Int)) (.int (b : Int)) = some (.int ((a * b : Nat) : Int)) := by
  have mk : mulOk (a : Int) (b : Int) = true := Bt.ok (n := 7) (m := 7) (bt_lt (by omega) (by omega)) (bt_lt (by omega) (by omega)) (by decide)
  simp only [gMulI, gI, mk, if_true, Int.natCast_mul]
theorem tOrF_f {Ga Gb : FT} {δ : Sl} {s s1 : Sx} {r : Option (Bool × Sx)} (h : Ga δ s = some (false, s1)) (g : Gb δ s1 = r) : tOrF Ga Gb δ s = r := by
  unfold tOrF; rw [h]; exact g
theorem tAndF_t {Ga Gb : FT} {δ : Sl} {s s1 : Sx} {r : Option (Bool × Sx)} (h : Ga δ s = some (true, s1)) (g : Gb δ s1 = r) : tAndF Ga Gb δ s = r := by
  unfold tAndF; rw [h]; exact g
theorem tNotF_r {Ga : FT} {δ : Sl} {s s1 : Sx} {b : Bool} (h : Ga δ s = some (b, s1)) : tNotF Ga δ s = some (!b, s1) := by
  unfold tNotF; rw [h]; rfl
theorem asT_r {F : FE} {δ : Sl} {s s1 : Sx} {b : Bool} (h : F δ s = some (.bool b, s1)) : asT F δ s = some (b, s1) := by
  unfold asT; rw [h]; rfl
theorem asB_r {F : FE} {δ : Sl} {s s1 : Sx} {b : Bool} (h : F δ s = some (.bool b, s1)) : asB F δ s = some (b, s1) := by
  unfold asB; rw [h]; rfl
theorem sSeq_n {G1 G2 : GS} {δ δ1 : Sl} {s s1 : Sx} {r : Option (Out × Sx)} (h : G1 δ s = some (.next δ1, s1)) (h2 : G2 δ1 s1 = r) : sSeq G1 G2 δ s = r := by
  rw [sSeq_next h]; exact h2
theorem sRet_run {F : FE} {δ : Sl} {s s1 : Sx} {d : D} (h : F δ s = some (d, s1)) : sRet F δ s = some (.ret d, s1) := by
  unfold sRet; rw [h]; rfl
theorem mulI {a b : Int} (h : mulOk a b = true) : gMulI (.int a) (.int b) = some (.int (a * b)) := by simp only [gMulI, gI, h, if_true]
theorem divI {a b : Int} (h : divOk a b = true) : gDivI (.int a) (.int b) = some (.int (a.fdiv b)) := by simp only [gDivI, gI, h, if_true]
theorem addI (a b : Int) : gAdd (.int a) (.int b) = some (.int (a + b)) := rfl
theorem subI (a b : Int) : gSubI (.int a) (.int b) = some (.int (a - b)) := rfl
theorem eIf_t {Ga : FT} {Fa Fb : FE} {δ : Sl} {s s1 : Sx} {r : Option (D × Sx)} (h : Ga δ s = some (true, s1)) (e : Fa δ s1 = r) : eIf Ga Fa Fb δ s = r := by
  unfold eIf; rw [h]; exact e
theorem eIf_f {Ga : FT} {Fa Fb : FE} {δ : Sl} {s s1 : Sx} {r : Option (D × Sx)} (h : Ga δ s = some (false, s1)) (e : Fb δ s1 = r) : eIf Ga Fa Fb δ s = r := by
  unfold eIf; rw [h]; exact e
theorem part_run2 {k m : Nat} {t b : Int} (s : Sx) (ht : Bt k t) (hk : k ≤ 50000) (hb : Bt m b) (hm : m ≤ 9000) (h0 : b ≠ 0) : g__law_part [.int t, .int b] s = some (num t b, s) := by
  have hg := Bt.gcd (a := t) hb h0
  have gp := gcd_pos (t := t) h0
  have loop : W__law_part_1 [.val (.int t), .val (.int b), .val (.int (t.natAbs : Int)), .val (.int (b.natAbs : Int)), .non] s = some (.next [.val (.int t), .val (.int b), .val (.int ((Nat.gcd t.natAbs b.natAbs : Nat) : Int)), .val (.int ((0 : Nat) : Int)), .non], s) :=
    euclidF (fun x y => [.val (.int t), .val (.int b), .val (.int (x : Int)), .val (.int (y : Int)), .non]) (fun x => by simp [asB, f2, fC, fVar, gGt, gI]) (fun x y hy => by
      simp [asB, f2, fC, fVar, gGt, gI, hy]) (fun x y hy => by
      have h0 : ¬ y = 0 := by omega
      simp [sPar, aCons, aNil, f2, fVar, gModI, gI, h0, fmod_nat]) hb (by omega)
  have d1 : ∀ x, divOk x (Int.gcd t b : Int) = true := fun x => Bt.div hg (by omega) hm
  have s1 : Bt 1 (sgn b) := by unfold Bt; rw [sgn_abs]; decide
  have m1 : mulOk 2 (if b < 0 then 1 else 0) = true := by split <;> decide
  have e3 : (1 - 2 * (if b < 0 then 1 else 0) : Int) = sgn b := by unfold sgn; split <;> rfl
  refine fn_run (n := 2) (m := 3) (G := G__law_part) rfl ?_
  show G__law_part [.val (.int t), .val (.int b), .non, .non, .non] s = _
  unfold G__law_part
  refine sSeq_n (δ1 := [.val (.int t), .val (.int b), .val (.int (t.natAbs : Int)), .val (.int (b.natAbs : Int)), .non]) (s1 := s) (by simp [sPar, aCons, aNil, f1, fVar, gAbs, abs_if]) (sSeq_n loop (sSeq_n (δ1 := [.val (.int t), .val (.int b), .val (.int (Int.gcd t b : Int)), .val (.int ((0 : Nat) : Int)), .val (.int (sgn b))]) (s1 := s) ?_ (sRet_run ?_)))
  · rw [← e3]
    simp only [sSet, f2, f1, fC, fVar, gLt, gI, gInt, gMulI, gSubI, Option.bind_some, Option.map_some, List.getElem?_cons_zero, List.getElem?_cons_succ, List.set_cons_zero, List.set_cons_succ, decide_eq_true_eq, m1, if_true]
    rfl
  · exact eTup_run (ds := [.int (numT t b), .int (numB t b)]) (aCons_run (f2_run (a := .int (sgn b * t)) (b := .int (Int.gcd t b : Int)) (f2_run (a := .int (sgn b)) (b := .int t) rfl rfl (mulI (s1.ok ht (by omega)))) rfl (divI (d1 _))) (aCons_run (FL := aNil) (f2_run (a := .int (sgn b * b)) (b := .int (Int.gcd t b : Int)) (f2_run (a := .int (sgn b)) (b := .int b) rfl rfl (mulI (s1.ok hb (by omega)))) rfl (divI (d1 _))) rfl)) (small2 _ _)
section
variable {p q : Nat} {a b : Rat} (s : Sx)
theorem ix0 (r : Rat) : gIx (enc r) (.int 0) = some (.int r.num) := rfl
theorem ix1 (r : Rat) : gIx (enc r) (.int 1) = some (.int (r.den : Int)) := rfl
theorem lplus2 (ha : Sz p a) (hb : Sz q b) (h : p + q ≤ 9000) : g__law_plus [enc a, enc b] s = some (enc (a + b), s) := by
  rw [← add_enc]
  refine fn_run (n := 2) (m := 0) (G := G__law_plus) rfl (sRet_run (fCall_run (aCons_run (f2_run (f2_run (f2_run (a := enc a) (b := .int 0) rfl rfl (ix0 a)) (f2_run (a := enc b) (b := .int 1) rfl rfl (ix1 b)) (mulI (ha.1.ok hb.2 (by omega)))) (f2_run (f2_run (a := enc b) (b := .int 0) rfl rfl (ix0 b)) (f2_run (a := enc a) (b := .int 1) rfl rfl (ix1 a)) (mulI (hb.1.ok ha.2 (by omega)))) (addI _ _)) (aCons_run (FL := aNil) (f2_run (f2_run (a := enc a) (b := .int 1) rfl rfl (ix1 a)) (f2_run (a := enc b) (b := .int 1) rfl rfl (ix1 b)) (mulI (ha.2.ok hb.2 (by omega)))) rfl)) ?_))
  exact part_run2 s (((ha.1.mul hb.2).add (hb.1.mul ha.2)).mono (m := p + q + 1) (by omega)) (by omega) (ha.2.mul hb.2) h (Int.mul_ne_zero (den_int a) (den_int b))
theorem lminus2 (ha : Sz p a) (hb : Sz q b) (h : p + q ≤ 9000) : g__law_minus [enc a, enc b] s = some (enc (a - b), s) := by
  rw [← sub_enc]
  refine fn_run (n := 2) (m := 0) (G := G__law_minus) rfl (sRet_run (fCall_run (aCons_run (f2_run (f2_run (f2_run (a := enc a) (b := .int 0) rfl rfl (ix0 a)) (f2_run (a := enc b) (b := .int 1) rfl rfl (ix1 b)) (mulI (ha.1.ok hb.2 (by omega)))) (f2_run (f2_run (a := enc b) (b := .int 0) rfl rfl (ix0 b)) (f2_run (a := enc a) (b := .int 1) rfl rfl (ix1 a)) (mulI (hb.1.ok ha.2 (by omega)))) (subI _ _)) (aCons_run (FL := aNil) (f2_run (f2_run (a := enc a) (b := .int 1) rfl rfl (ix1 a)) (f2_run (a := enc b) (b := .int 1) rfl rfl (ix1 b)) (mulI (ha.2.ok hb.2 (by omega)))) rfl)) ?_))
  exact part_run2 s (((ha.1.mul hb.2).sub (hb.1.mul ha.2)).mono (m := p + q + 1) (by omega)) (by omega) (ha.2.mul hb.2) h (Int.mul_ne_zero (den_int a) (den_int b))
theorem lover2 (ha : Sz p a) (hb : Sz q b) (h0 : b ≠ 0) (h : p + q ≤ 9000) : g__law_over [enc a, enc b] s = some (enc (a / b), s) := by
  rw [← div_enc a b h0]
  refine fn_run (n := 2) (m := 0) (G := G__law_over) rfl (sRet_run (fCall_run (aCons_run (f2_run (f2_run (a := enc a) (b := .int 0) rfl rfl (ix0 a)) (f2_run (a := enc b) (b := .int 1) rfl rfl (ix1 b)) (mulI (ha.1.ok hb.2 (by omega)))) (aCons_run (FL := aNil) (f2_run (f2_run (a := enc a) (b := .int 1) rfl rfl (ix1 a)) (f2_run (a := enc b) (b := .int 0) rfl rfl (ix0 b)) (mulI (ha.2.ok hb.1 (by omega)))) rfl)) ?_))
  exact part_run2 s (ha.1.mul hb.2) (by omega) (ha.2.mul hb.1) h (Int.mul_ne_zero (den_int a) fun z => h0 (Rat.num_eq_zero.mp z))
end
theorem number_run2 {k m : Nat} {t b : Int} (s : Sx) (hor : Bt k t ∨ Bt k b) (hk : k ≤ 2000) (hb : Bt m b) (hm : m ≤ 9000) (h0 : b ≠ 0) : g_number [.int t, .int b] s = some (num t b, s) := by
  have hg := Bt.gcd (a := t) hb h0
  have gp := gcd_pos (t := t) h0
  have e := gd_run (a := t) (b := b) s hor hk
  have d1 : ∀ x, divOk x (Int.gcd t b : Int) = true := fun x => Bt.div hg (by omega) hm
  have d2 : ∀ x, divOk x (-(Int.gcd t b : Int)) = true := fun x => Bt.div hg.neg (by omega) hm
  by_cases hn : b < 0
  · simp [g_number, mkFn, G_number, sSeq, sSet, fCall, aCons, aNil, fVar, fC, e, sIf, asB, f2, f1, gLt, gI, hn, gNeg, sRet, eTup, gDivI, d2, small2, num, numT, numB, sgn, fdiv_neg_sgn]
  · simp [g_number, mkFn, G_number, sSeq, sSet, fCall, aCons, aNil, fVar, fC, e, sIf, asB, f2, f1, gLt, gI, hn, gNeg, sRet, eTup, gDivI, d1, small2, num, numT, numB, sgn, sNext]
theorem over2 {m : Nat} {a b : Rat} (s : Sx) (ha : Sz m a) (hb : Sz m b) (hm : m ≤ 9000) (h1 : Bt 2000 a.num ∨ Bt 2000 b.num) (h2 : Bt 2000 (b.den : Int) ∨ Bt 2000 (a.den : Int)) (h0 : b ≠ 0) : g_over [enc a, enc b] s = some (enc (a / b), s) := by
  have c0 : b.num ≠ 0 := fun z => h0 (Rat.num_eq_zero.mp z)
  have e1 : g_number [.int a.num, .int b.num] s = some (.tuple [.int (numT a.num b.num), .int (numB a.num b.num)], s) := number_run2 s h1 (by decide) hb.1 hm c0
  have e2 : g_number [.int (b.den : Int), .int (a.den : Int)] s = some (.tuple [.int (numT b.den a.den), .int (numB b.den a.den)], s) := number_run2 s h2 (by decide) ha.2 hm (den_int a)
  have m1 : mulOk (numT a.num b.num) (numT b.den a.den) = true := (Bt.numT ha.1).ok (Bt.numT hb.2) (by omega)
  have m2 : mulOk (numB a.num b.num) (numB b.den a.den) = true := (Bt.numB hb.1).ok (Bt.numB ha.2) (by omega)
  obtain ⟨r1, r2⟩ := mul_num (a := a.num) (b := (a.den : Int)) (c := (b.den : Int)) (d := b.num) (by have := a.den_nz; omega) c0 a.reduced (by rw [Int.gcd_comm]; exact b.reduced)
  rw [← div_enc a b h0]
  unfold enc
  simp [g_over, mkFn, G_over, sSeq, sPar, sRet, fCall, aCons, aNil, f2, fVar, fC, gIx, atI0, atI1, e1, e2, eTup, gMulI, gI, m1, m2, small2]
  rw [r1, r2]; rfl
theorem p20 : (2 : Nat) ^ 20 = 1048576 := by decide
theorem p30 : (2 : Nat) ^ 30 = 1073741824 := by decide
noncomputable def NF (r : Rat) : Prop := ∃ M, 0 < M ∧ M ≤ 2 ^ 20 ∧ Fit M (2 ^ 30) r
theorem fit_div {T B : Int} (hB : 0 < B) : Fit B.toNat T.natAbs (Rat.divInt T B) := ⟨T, by
  have : (B : Rat) ≠ 0 := fun z => by have := Rat.intCast_eq_zero_iff.mp z; omega
  rw [Rat.divInt_eq_div, show ((B.toNat : Nat) : Rat) = (B : Rat) by rw [← Rat.intCast_natCast, show ((B.toNat : Nat) : Int) = B by omega]]
  grind, Nat.le_refl _⟩
theorem number_fit {n : Nat} {s : Sx} (h : Good (n + 5) s) : ∃ r s', g__law_number [.dict []] s = some (enc r, s') ∧ NF r ∧ Good n s' := by
  obtain ⟨w, s1, e1, w0, w1, g1⟩ := draw (n := n + 4) h 16 (by decide) (by decide)
  by_cases h1 : w < 10
  · obtain ⟨r, s2, e2, p1, p2, g2⟩ := draw (n := n + 3) g1 9 (by decide) (by decide)
    refine ⟨((r - 4 : Int) : Rat), s2, ?_, ⟨1, by decide, by decide, r - 4, by grind, by have := p30; omega⟩, g2.mono (by omega)⟩
    show _ = some (PyData.tuple [.int (r - 4), .int 1], s2)
    simp [g__law_number, mkFn, G__law_number, sSeq, sSet, fCall, aCons, aNil, fVar, fC, e1, sIf, asB, f2, gLt, gI, h1, sRet, eTup, e2, gSubI, small2]
  by_cases h2 : w < 15
  · obtain ⟨r, s2, e2, p1, p2, g2⟩ := draw (n := n + 3) g1 25 (by decide) (by decide)
    obtain ⟨r', s3, e3, p3, p4, g3⟩ := draw (n := n + 2) g2 4 (by decide) (by decide)
    have b1 : Bt 40 (r - 12) := bt_lt (by omega) (by omega)
    have b2 : Bt 40 (2 + r') := bt_lt (by omega) (by omega)
    have e4 := part_run (t := r - 12) (b := 2 + r') s3 b1 b2 (by decide) (by omega)
    rw [num_enc (by omega)] at e4
    refine ⟨Rat.divInt (r - 12) (2 + r'), s3, ?_, ⟨(2 + r').toNat, by omega, by have := p20; omega, (fit_div (by omega)).mono (by have := p30; omega)⟩, g3.mono (by omega)⟩
    simp [g__law_number, mkFn, G__law_number, sSeq, sSet, fCall, aCons, aNil, fVar, fC, e1, sIf, asB, f2, gLt, gI, h1, h2, sRet, e2, e3, gSubI, gAdd, gAddI, sNext, e4]
  · obtain ⟨r1, s2, e2, p1, p2, g2⟩ := draw (n := n + 3) g1 1000 (by decide) (by decide)
    obtain ⟨r2, s3, e3, p3, p4, g3⟩ := draw (n := n + 2) g2 1000000 (by decide) (by decide)
    obtain ⟨r3, s4, e4, p5, p6, g4⟩ := draw (n := n + 1) g3 2 (by decide) (by decide)
    obtain ⟨r4, s5, e5, p7, p8, g5⟩ := draw (n := n) g4 999999 (by decide) (by decide)
    have m1 : mulOk r1 1000000 = true := Bt.ok (n := 20) (m := 20) (bt_lt (by omega) (by omega)) (.lit (by decide)) (by decide)
    have m2 : mulOk 2 r3 = true := Bt.ok (n := 2) (m := 20) (.lit (by decide)) (bt_lt (by omega) (by omega)) (by decide)
    have b1 : Bt 32 (r1 * 1000000 + r2) := bt_lt (by omega) (by omega)
    have b3 : Bt 1 (1 - 2 * r3) := bt_lt (by omega) (by omega)
    have m3 : mulOk (r1 * 1000000 + r2) (1 - 2 * r3) = true := b1.ok b3 (by decide)
    have b4 : Bt 40 ((r1 * 1000000 + r2) * (1 - 2 * r3)) := (b1.mul b3).mono (by decide)
    have b5 : Bt 40 (1 + r4) := bt_lt (by omega) (by omega)
    have e6 := part_run (t := (r1 * 1000000 + r2) * (1 - 2 * r3)) (b := 1 + r4) s5 b4 b5 (by decide) (by omega)
    rw [num_enc (by omega)] at e6
    have ab : ((r1 * 1000000 + r2) * (1 - 2 * r3)).natAbs ≤ 2 ^ 30 := by
      rw [Int.natAbs_mul]
      have u : (r1 * 1000000 + r2).natAbs ≤ 1000000000 := by omega
      have v : (1 - 2 * r3).natAbs ≤ 1 := by omega
      have := Nat.mul_le_mul u v
      have := p30
      omega
    refine ⟨Rat.divInt ((r1 * 1000000 + r2) * (1 - 2 * r3)) (1 + r4), s5, ?_, ⟨(1 + r4).toNat, by omega, by have := p20; omega, (fit_div (by omega)).mono ab⟩, g5⟩
    simp [g__law_number, mkFn, G__law_number, sSeq, sSet, fCall, aCons, aNil, fVar, fC, e1, sIf, asB, f2, gLt, gI, h1, h2, sRet, e2, e3, e4, e5, gSubI, gAdd, gAddI, sNext, gPowI, gMulI, m1, m2, m3, e6]
theorem nf_zero : NF 0 := ⟨1, by decide, by decide, Fit.zero _ _⟩

theorem bt1' {n : Nat} (h : 0 < n) : Bt n 1 := Nat.one_lt_two_pow (by omega)
theorem summed2 {k m : Nat} {a b c d : Int} (s : Sx) (hk : k ≤ 2000) (hm : m ≤ 9000) (ba : Bt k a) (bb : Bt k b) (bc : Bt m c) (bd : Bt m d) (hb : 0 < b) (hd : 0 < d) (h1 : Int.gcd a b = 1) (h2 : Int.gcd c d = 1) :
    g_summed [.int a, .int b, .int c, .int d] s = some (num (a * d + c * b) (b * d), s) := by
  have e1 := gd_run (a := b) (b := d) s (.inl bb) hk
  have hg0 : (Int.gcd b d : Int) ≠ 0 := by have := gcd_pos (t := b) (b := d) (by omega); omega
  have bg : Bt k (Int.gcd b d : Int) := by rw [Int.gcd_comm]; exact Bt.gcd bb (by omega)
  have d1 : ∀ x, divOk x (Int.gcd b d : Int) = true := fun x => Bt.div bg hg0 (by omega)
  have b1 : Bt k (b.fdiv (Int.gcd b d)) := bb.fdiv
  have b2 : Bt m (d.fdiv (Int.gcd b d)) := bd.fdiv
  have m1 : mulOk a (d.fdiv (Int.gcd b d)) = true := ba.ok b2 (by omega)
  have m2 : mulOk c (b.fdiv (Int.gcd b d)) = true := bc.ok b1 (by omega)
  have e2 := number_run2 (t := a * (d.fdiv (Int.gcd b d)) + c * (b.fdiv (Int.gcd b d))) s (.inr bg) hk bg (by omega) hg0
  have m3 : mulOk (b.fdiv (Int.gcd b d)) (d.fdiv (Int.gcd b d)) = true := b1.ok b2 (by omega)
  have m4 : mulOk (b.fdiv (Int.gcd b d) * (d.fdiv (Int.gcd b d))) (numB (a * (d.fdiv (Int.gcd b d)) + c * (b.fdiv (Int.gcd b d))) (Int.gcd b d)) = true := (b1.mul b2).ok (Bt.numB bg) (by omega)
  obtain ⟨r1, r2⟩ := sum_num hb hd h1 h2
  have e2' : g_number [.int (a * (d.fdiv (Int.gcd b d)) + c * (b.fdiv (Int.gcd b d))), .int (Int.gcd b d : Int)] s = some (.tuple [.int (numT (a * (d.fdiv (Int.gcd b d)) + c * (b.fdiv (Int.gcd b d))) (Int.gcd b d)), .int (numB (a * (d.fdiv (Int.gcd b d)) + c * (b.fdiv (Int.gcd b d))) (Int.gcd b d))], s) := e2
  simp [g_summed, mkFn, G_summed, sSeq, sSet, sUnp, Tgt.run, setD, fCall, aCons, aNil, fVar, e1, f2, gDivI, gI, d1, gAdd, gAddI, gMulI, m1, m2, e2', sRet, eTup, m3, m4, small2]
  rw [r1, r2]; rfl
theorem plus2 {k m : Nat} {a b : Rat} (s : Sx) (hk : k ≤ 2000) (hm : m ≤ 9000) (ha : Sz k a) (hb : Sz m b) : g_plus [enc a, enc b] s = some (enc (a + b), s) := by
  have e := summed2 s hk hm ha.1 ha.2 hb.1 hb.2 (by have := a.den_nz; omega) (by have := b.den_nz; omega) a.reduced b.reduced
  rw [← add_enc]
  exact fn_run (n := 2) (m := 0) (G := G_plus) rfl (sRet_run (fCall_run (ds := [.int a.num, .int (a.den : Int), .int b.num, .int (b.den : Int)]) rfl e))
theorem minus2 {k m : Nat} {a b : Rat} (s : Sx) (hk : k ≤ 2000) (hm : m ≤ 9000) (ha : Sz k a) (hb : Sz m b) : g_minus [enc a, enc b] s = some (enc (a - b), s) := by
  have e := summed2 s hk hm ha.1 ha.2 hb.1.neg hb.2 (by have := a.den_nz; omega) (by have := b.den_nz; omega) a.reduced (by rw [Int.neg_gcd]; exact b.reduced)
  rw [show a.num * (b.den : Int) + -b.num * (a.den : Int) = a.num * b.den - b.num * a.den by rw [Int.neg_mul, Int.sub_eq_add_neg], sub_enc] at e
  exact fn_run (n := 2) (m := 0) (G := G_minus) rfl (sRet_run (fCall_run (ds := [.int a.num, .int (a.den : Int), .int (-b.num), .int (b.den : Int)]) rfl e))
noncomputable abbrev O := Option Rat
noncomputable def encO : O → D
  | none => .none
  | some r => enc r
noncomputable def stp : O → O → O → O
  | some a, some x, some y => if x = y then none else some (a + 1 / (x - y))
  | _, _, _ => none
noncomputable def gt (l : List O) (i : Nat) : O := l.getD i none
noncomputable def nx (a n : List O) : List O := (List.range (n.length - 1)).map fun i => stp (gt a (i + 1)) (gt n (i + 1)) (gt n i)
noncomputable def OkL (N : Nat) (l : List O) : Prop := ∀ i r, gt l i = some r → Sz N r
theorem gIs_enc (r : Rat) : gIs (enc r) .none = some (.bool false) := rfl
theorem enc_one : PyData.tuple [.int 1, .int 1] = enc 1 := rfl
theorem stp_ne {a x y : Rat} (h : x ≠ y) : stp (some a) (some x) (some y) = some (a + 1 / (x - y)) := if_neg h
theorem stp_eq {a x : Rat} : stp (some a) (some x) (some x) = none := if_pos rfl
theorem sub_nz {x y : Rat} (h : x ≠ y) : x - y ≠ 0 := fun z => h (by grind)
theorem step_run {a x y : O} (s : Sx) (ha : ∀ r, a = some r → Sz 1990 r) (hx : ∀ r, x = some r → Sz 1990 r) (hy : ∀ r, y = some r → Sz 1990 r) :
    g_step_up [encO a, encO x, encO y] s = some (encO (stp a x y), s) := by
  cases a with
  | none => rfl
  | some a =>
    cases x with
    | none => rfl
    | some x =>
      cases y with
      | none => rfl
      | some y =>
        by_cases h : x = y
        · subst h
          rw [stp_eq]
          simp [g_step_up, mkFn, G_step_up, sSeq, sIf, tOrF, asB, f2, fVar, fC, encO, gIs_enc, gEq_enc, sRet]
        · have d0 := sub_nz h
          have sd : Sz 3981 (x - y) := sz_sub (hx x rfl) (hy y rfl)
          have e1 := minus2 s (show 1990 ≤ 2000 by decide) (show 1990 ≤ 9000 by decide) (hx x rfl) (hy y rfl)
          have e2 := over2 (m := 9000) s (sz_one.mono (by decide)) (sd.mono (by decide)) (by decide) (.inl (bt1' (by decide))) (.inr (bt1' (by decide))) d0
          have e3 := plus2 s (show 1990 ≤ 2000 by decide) (show 3981 ≤ 9000 by decide) (ha a rfl) (sz_inv sd d0)
          rw [stp_ne h]
          simp [g_step_up, mkFn, G_step_up, sSeq, sIf, tOrF, asB, f2, fVar, fC, encO, gIs_enc, gEq_enc, h, sNext, sRet, fCall, aCons, aNil, e1, enc_one, e2, e3]
theorem rung_run {a x y : O} (s : Sx) (ha : ∀ r, a = some r → Sz 1990 r) (hx : ∀ r, x = some r → Sz 1990 r) (hy : ∀ r, y = some r → Sz 1990 r) :
    g__law_rung [encO a, encO y, encO x] s = some (encO (stp a x y), s) := by
  cases a with
  | none => rfl
  | some a =>
    cases y with
    | none => cases x <;> rfl
    | some y =>
      cases x with
      | none => rfl
      | some x =>
        by_cases h : x = y
        · subst h
          rw [stp_eq]
          simp [g__law_rung, mkFn, G__law_rung, sSeq, sIf, tOrF, asB, f2, fVar, fC, encO, gIs_enc, gEq_enc, sRet]
        · have d0 := sub_nz h
          have h' : ¬ y = x := fun z => h z.symm
          have sd : Sz 3981 (x - y) := sz_sub (hx x rfl) (hy y rfl)
          have e1 := lminus2 s (hx x rfl) (hy y rfl) (by decide)
          have e2 := lover2 s sz_one sd d0 (by decide)
          have e3 := lplus2 s (ha a rfl) (sz_inv sd d0) (by decide)
          rw [stp_ne h]
          simp [g__law_rung, mkFn, G__law_rung, sSeq, sIf, tOrF, asB, f2, fVar, fC, encO, gIs_enc, gEq_enc, h', sNext, sRet, fCall, aCons, aNil, e1, eTup, small2, enc_one, e2, e3]
noncomputable def enL (l : List O) : D := .list (l.map encO)
theorem at_encO {l : List O} {i : Nat} (h : i < l.length) : gIx (enL l) (.int (i : Int)) = some (encO (gt l i)) := by
  show L2.atI (l.map encO) (i : Int) = _
  refine L3.atI_nat ?_
  unfold gt
  rw [List.getElem?_map, List.getD_eq_getElem?_getD, List.getElem?_eq_getElem h]; rfl
theorem len_enL (l : List O) : gLen (enL l) = some (.int (l.length : Int)) := by simp [enL, gLen]
theorem OkL.at {N : Nat} {l : List O} (h : OkL N l) (i : Nat) : ∀ r, gt l i = some r → Sz N r := h i
theorem nx_len (a n : List O) : (nx a n).length = n.length - 1 := by simp [nx]
theorem next_run {a n : List O} (s : Sx) (ha : OkL 1990 a) (hn : OkL 1990 n) (h1 : 1 ≤ n.length) (hl : n.length ≤ a.length) (hb : n.length ≤ 100) :
    g_next_column [enL a, enL n] s = some (enL (nx a n), s) := by
  obtain ⟨δ', s', e, hs, x3, hδ⟩ := forD_at (T := .one 3) (G := B_next_column_1) (fun j δ s' => s' = s ∧ ∃ x3, δ = [.val (enL a), .val (enL n), .own (((List.range j).map fun i => stp (gt a (i + 1)) (gt n (i + 1)) (gt n i)).map encO), x3])
    (rng 0 (n.length - 1)) [.val (enL a), .val (enL n), .own [], .non] s ⟨rfl, .non, rfl⟩ (fun j d δ s' hd x__144 => by
      obtain ⟨hs, x3, hδ⟩ := x__144
      subst hs hδ
      obtain ⟨hj, rfl⟩ := rng_get hd
      refine ⟨[.val (enL a), .val (enL n), .own (((List.range j).map fun i => stp (gt a (i + 1)) (gt n (i + 1)) (gt n i)).map encO), .val (.int (j : Int))], [.val (enL a), .val (enL n), .own (((List.range (j + 1)).map fun i => stp (gt a (i + 1)) (gt n (i + 1)) (gt n i)).map encO), .val (.int (j : Int))], s', rfl, ?_, rfl, _, rfl⟩
      have e1 := step_run (a := gt a (j + 1)) (x := gt n (j + 1)) (y := gt n j) s' (ha.at _) (hn.at _) (hn.at _)
      unfold B_next_column_1
      rw [sApp_run (v := encO (stp (gt a (j + 1)) (gt n (j + 1)) (gt n j))) (s1 := s') (xs := ((List.range j).map fun i => stp (gt a (i + 1)) (gt n (i + 1)) (gt n i)).map encO) ?_ rfl (by simp; omega)]
      · rw [List.range_succ, List.map_append, List.map_append]; rfl
      · refine fCall_run (aCons_run (f2_run (b := .int ((j + 1 : Nat) : Int)) rfl (f2_run rfl rfl (add_one j)) (at_encO (by omega))) (aCons_run (f2_run (b := .int ((j + 1 : Nat) : Int)) rfl (f2_run rfl rfl (add_one j)) (at_encO (by omega))) (aCons_run (f2_run (b := .int (j : Int)) rfl rfl (at_encO (by omega))) rfl))) e1)
  subst hs hδ
  rw [rng_len] at e
  have er : iRange1 (f2 gSubI (f1 gLen (fVar 1)) (fC (.int 1))) [.val (enL a), .val (enL n), .own [], .non] s' = some (rng 0 (n.length - 1), s') :=
    iRange1_nat (f2_run (f1_run rfl (len_enL n)) rfl (sub_one h1)) (by omega)
  have e2 : L_next_column_2 [.val (enL a), .val (enL n), .own [], .non] s' = some (.next [.val (enL a), .val (enL n), .own ((nx a n).map encO), x3], s') := by
    unfold L_next_column_2 sFor
    rw [er]
    exact e
  show (match G_next_column [.val (enL a), .val (enL n), .non, .non] s' with | some (.ret d, s') => some (d, s') | some (.next _, s') => some (.none, s') | _ => none) = _
  unfold G_next_column
  rw [sSeq_next (δ' := [.val (enL a), .val (enL n), .own [], .non]) (s' := s') rfl, sSeq_next e2]
  rfl
noncomputable def cols : Nat → List O → List O → List (List O)
  | 0, _, n => [n]
  | k + 1, a, n => n :: cols k n (nx a n)
noncomputable def Fine : Nat → List O → List O → Prop
  | 0, _, _ => True
  | k + 1, a, n => OkL 1990 a ∧ OkL 1990 n ∧ Fine k n (nx a n)
theorem at_snoc {xs : List D} {d : D} : gIx (.list (xs ++ [d])) (.int (-1)) = some d := by
  show L2.atI (xs ++ [d]) (-1) = _
  rw [atI_last (by simp)]; simp
theorem at_snoc2 {xs : List D} {d d' : D} : gIx (.list (xs ++ [d'] ++ [d])) (.int (-2)) = some d' := by
  show L2.atI (xs ++ [d'] ++ [d]) (-2) = _
  unfold L2.atI ixN
  have hl : (xs ++ [d'] ++ [d]).length = xs.length + 2 := by simp
  rw [if_neg (by decide), if_pos (by omega)]
  show (xs ++ [d'] ++ [d])[(-2 + ((xs ++ [d'] ++ [d]).length : Int)).toNat]? = _
  rw [show (-2 + ((xs ++ [d'] ++ [d]).length : Int)).toNat = xs.length by omega]
  simp
theorem gt_one {n : Nat} : gGt (.int (n : Int)) (.int 1) = some (.bool (decide (1 < n))) := by
  have : decide ((1 : Int) < (n : Int)) = decide (1 < n) := decide_eq_decide.mpr (by omega)
  simp only [gGt, gI, if_true, this]
theorem len_own {xs : List D} : gLen (.list xs) = some (.int (xs.length : Int)) := rfl
theorem while_stepL {Ft : FT} {G : GS} {δ δ' : Sl} {s s' : Sx} {k : Nat} {r : Option (Out × Sx)} (h : Ft δ s = some (true, s)) (g : G δ s = some (.next δ', s')) (w : whileN Ft G k δ' s' = r) : whileN Ft G (k + 1) δ s = r := by
  rw [whileN.eq_2, h]
  simp only [Option.bind_some, if_true, g]
  exact w
theorem test_run {xs : List D} {n : List O} {S x y : Ce} (s : Sx) : asB (f2 gGt (f1 gLen (f2 gIx (fVarW 1) (f1 gNeg (fC (.int 1))))) (fC (.int 1))) [S, .own (xs ++ [enL n]), x, y] s = some (decide (1 < n.length), s) := by
  have : f2 gGt (f1 gLen (f2 gIx (fVarW 1) (f1 gNeg (fC (.int 1))))) (fC (.int 1)) [S, .own (xs ++ [enL n]), x, y] s = some (.bool (decide (1 < n.length)), s) :=
    f2_run (f1_run (f2_run (a := .list (xs ++ [enL n])) (b := .int (-1)) rfl rfl at_snoc) (len_enL n)) rfl gt_one
  unfold asB
  rw [this]; rfl
theorem lad_while {S : Ce} (s : Sx) : ∀ (k : Nat) (a n : List O) (done : List D) (c3 : Ce), n.length = k + 1 → n.length ≤ a.length → done.length + k < 500 → k < 90 → Fine k a n →
    ∃ c2' c3', whileN (asB (f2 gGt (f1 gLen (f2 gIx (fVarW 1) (f1 gNeg (fC (.int 1))))) (fC (.int 1)))) (sSeq (sSet 3 (f2 gIx (fVarW 1) (f1 gNeg (fC (.int 1))))) (sSeq (sApp 1 (fCall g_next_column (aCons (fVar 2) (aCons (fVar 3) aNil)))) (sSet 2 (fVar 3)))) (k + 1)
      [S, .own (done ++ [enL n]), .val (enL a), c3] s = some (.next [S, .own (done ++ (cols k a n).map enL), c2', c3'], s)
  | 0, a, n, done, c3, h1, h2, h3, h4, h5 => ⟨_, _, while_stop (by rw [test_run, h1]; rfl)⟩
  | k + 1, a, n, done, c3, h1, h2, h3, h4, h5 => by
    obtain ⟨f1', f2', f3'⟩ := h5
    obtain ⟨x, y, e⟩ := lad_while (S := S) s k n (nx a n) (done ++ [enL n]) (.val (enL n)) (by rw [nx_len]; omega) (by rw [nx_len]; omega) (by simp; omega) (by omega) f3'
    have en := next_run s f1' f2' (by omega) h2 (by omega)
    refine ⟨x, y, while_stepL (δ' := [S, .own (done ++ [enL n] ++ [enL (nx a n)]), .val (enL n), .val (enL n)]) (s' := s) (by rw [test_run, h1]; simp) ?_ (by rw [e]; simp [cols])⟩
    rw [sSeq_next (sSet_run (f2_run (a := .list (done ++ [enL n])) (b := .int (-1)) rfl rfl at_snoc))]
    rw [sSeq_next (sApp_run (v := enL (nx a n)) (s1 := s) (xs := done ++ [enL n]) (fCall_run (ds := [enL a, enL n]) rfl en) rfl (by simp; omega))]
    rfl
noncomputable def zs (m : Nat) : List O := List.replicate m (some 0)
theorem enL_zs (m : Nat) : enL (zs m) = .list (List.replicate m (.tuple [.int 0, .int 1])) := by
  unfold enL zs
  rw [List.map_replicate]; rfl
theorem lad_body {n : List O} {c0 : Ce} (s : Sx) (h1 : 1 ≤ n.length) (h2 : n.length ≤ 80) (hF : Fine (n.length - 1) (zs n.length) n) :
    sSeq W_ladder_1 (sRetO 1) [c0, .own [enL n], .val (enL (zs n.length)), .non] s = some (.own ((cols (n.length - 1) (zs n.length) n).map enL), s) := by
  obtain ⟨x, y, e⟩ := lad_while (S := c0) s (n.length - 1) (zs n.length) n [] .non (by omega) (by simp [zs]) (by simp; omega) (by omega) hF
  have w : W_ladder_1 [c0, .own [enL n], .val (enL (zs n.length)), .non] s = some (.next [c0, .own ((cols (n.length - 1) (zs n.length) n).map enL), x, y], s) := whileN_mono e (by unfold fuel; omega)
  rw [sSeq_next w]
  rfl
theorem ladder_run {n : List O} {hd : D} (s : Sx) (hs : IsSeq hd (n.map encO)) (h1 : 1 ≤ n.length) (h2 : n.length ≤ 80) (hF : Fine (n.length - 1) (zs n.length) n) :
    g_ladder [hd] s = some (.list ((cols (n.length - 1) (zs n.length) n).map enL), s) := by
  have hln : gLen hd = some (.int (n.length : Int)) := by rcases hs with rfl | rfl <;> simp [gLen]
  have m : f2 gMulA (eLst (aCons (fC (.tuple [.int 0, .int 1])) aNil)) (f1 gLen (fVar 0)) [.val hd, .own [enL n], .non, .non] s = some (enL (zs n.length), s) :=
    f2_run (eLst_run rfl (small_le (by simp))) (f1_run rfl hln) (by rw [enL_zs]; exact mulA_nat (by omega))
  have q0 : sSetO 1 (oLst (aCons (f1 gList (fVar 0)) aNil)) [.val hd, .non, .non, .non] s = some (.next [.val hd, .own [enL n], .non, .non], s) := sSetO_run (oLst_run (ds := [enL n]) (aCons_run (FL := aNil) (f1_run (a := hd) rfl hs.lst) rfl) (small_le (by simp)))
  have q1 : sSet 2 (f2 gMulA (eLst (aCons (fC (.tuple [.int 0, .int 1])) aNil)) (f1 gLen (fVar 0))) [.val hd, .own [enL n], .non, .non] s = some (.next [.val hd, .own [enL n], .val (enL (zs n.length)), .non], s) := sSet_run m
  have c : G_ladder [.val hd, .non, .non, .non] s = some (.own ((cols (n.length - 1) (zs n.length) n).map enL), s) := by
    unfold G_ladder
    rw [sSeq_next q0, sSeq_next q1]
    exact lad_body s h1 h2 hF
  have c2 : gC_ladder [hd] s = some (.own ((cols (n.length - 1) (zs n.length) n).map enL), s) := by
    show (match G_ladder [.val hd, .non, .non, .non] s with | some (.ret d, s') => some (Ce.val d, s') | some (.own xs, s') => some (Ce.own xs, s') | some (.next _, s') => some (Ce.val .none, s') | _ => none) = _
    rw [c]
  unfold g_ladder gOf
  rw [c2]; rfl
theorem noL_encO : ∀ o : O, noList (encO o) = true
  | none => rfl
  | some _ => rfl
theorem noLs_encO : ∀ l : List O, noLists (l.map encO) = true
  | [] => rfl
  | o :: l => by
    show (noList (encO o) && noLists (l.map encO)) = true
    rw [noL_encO, noLs_encO l]; rfl
theorem gL_run {n : List O} {hd : D} (s : Sx) (hs : IsSeq hd (n.map encO)) (h1 : 1 ≤ n.length) (h2 : n.length ≤ 80) (hF : Fine (n.length - 1) (zs n.length) n) :
    gL_ladder [hd] s = some ((cols (n.length - 1) (zs n.length) n).map enL, s) := by
  have hln : gLen hd = some (.int (n.length : Int)) := by rcases hs with rfl | rfl <;> simp [gLen]
  have e1 : oList (fVar 0) [.val hd, .non, .non, .non] s = some (n.map encO, s) := by rcases hs with rfl | rfl <;> rfl
  have e2 : o2 lRep (eLst (aCons (fC (.tuple [.int 0, .int 1])) aNil)) (f1 gLen (fVar 0)) [.val hd, .non, .non, .non] s = some ((zs n.length).map encO, s) := by
    refine o2_run (a := .list [.tuple [.int 0, .int 1]]) (b := .int (n.length : Int)) (eLst_run rfl (small_le (by simp))) (f1_run rfl hln) ?_
    rw [rep_nat (by omega)]
    unfold zs
    rw [List.map_replicate]; rfl
  have e3 := lad_body (c0 := .non) s h1 h2 hF
  unfold gL_ladder gL
  simp only [e1, e2, Option.bind_some, noLs_encO, if_true]
  rw [show Ce.own [PyData.list (n.map encO)] = .own [enL n] from rfl, show Ce.val (PyData.list ((zs n.length).map encO)) = .val (enL (zs n.length)) from rfl, e3]
theorem lcomp_run {a n : List O} {S C : Ce} (s : Sx) (ha : OkL 1990 a) (hn : OkL 1990 n) (h1 : 1 ≤ n.length) (hl : n.length ≤ a.length) (hb : n.length ≤ 100) :
    C__law_columns_1 [S, C, .val (enL n), .val (enL a)] s = some ((nx a n).map encO, s) := by
  have er : iRange1 (f2 gSubI (f1 gLen (fVar 2)) (fC (.int 1))) [S, C, .val (enL n), .val (enL a)] s = some (rng 0 (n.length - 1), s) :=
    iRange1_nat (f2_run (f1_run rfl (len_enL n)) rfl (sub_one h1)) (by omega)
  have hs : small (rng 0 (n.length - 1)) = true := small_le (by rw [rng_len]; omega)
  have hc : compD (.one 0) fTrue (fCall g__law_rung (aCons (f2 gIx (fVar 1) (f2 gAdd (fVar 0) (fC (.int 1)))) (aCons (f2 gIx (fVar 2) (fVar 0)) (aCons (f2 gIx (fVar 2) (f2 gAdd (fVar 0) (fC (.int 1)))) aNil)))) [.non, .val (enL a), .val (enL n)] (rng 0 (n.length - 1)) s
      = some ((rng 0 (n.length - 1)).map (fun d => match d with | .int z => encO (stp (gt a (z.toNat + 1)) (gt n (z.toNat + 1)) (gt n z.toNat)) | _ => .none), s) := by
    refine compD_pure _ fun d hd => ?_
    obtain ⟨j, hj⟩ := List.getElem?_of_mem hd
    obtain ⟨hj, rfl⟩ := rng_get hj
    refine ⟨[.val (.int (j : Int)), .val (enL a), .val (enL n)], rfl, rfl, ?_⟩
    have e1 := rung_run (a := gt a (j + 1)) (x := gt n (j + 1)) (y := gt n j) s (ha.at _) (hn.at _) (hn.at _)
    simp only [Int.toNat_natCast]
    exact fCall_run (aCons_run (f2_run (b := .int ((j + 1 : Nat) : Int)) rfl (f2_run rfl rfl (add_one j)) (at_encO (by omega))) (aCons_run (f2_run (b := .int (j : Int)) rfl rfl (at_encO (by omega))) (aCons_run (f2_run (b := .int ((j + 1 : Nat) : Int)) rfl (f2_run rfl rfl (add_one j)) (at_encO (by omega))) rfl))) e1
  have ec : compDl 1 [3, 2] [S, C, .val (enL n), .val (enL a)] = [.non, .val (enL a), .val (enL n)] := rfl
  unfold C__law_columns_1 fComp
  rw [er]
  simp only [Option.bind_some, hs, if_true]
  rw [ec, hc]
  unfold nx rng
  rw [List.map_map, List.map_map]
  congr 2
  refine List.map_congr_left fun i _ => ?_
  simp
theorem lcol_while {S : D} (s : Sx) : ∀ (k : Nat) (a n : List O) (done : List D) (c2 c3 : Ce), n.length = k + 1 → n.length ≤ a.length → done.length + k < 500 → k < 90 → Fine k a n → ((done = [] ∧ a = zs (n.length + 1)) ∨ ∃ d', done = d' ++ [enL a]) →
    ∃ c2' c3', whileN (asB (f2 gGt (f1 gLen (f2 gIx (fVarW 1) (f1 gNeg (fC (.int 1))))) (fC (.int 1)))) (sSeq (sSet 2 (f2 gIx (fVarW 1) (f1 gNeg (fC (.int 1))))) (sSeq (sSet 3 (eIf (asB (f2 gGt (f1 gLen (fVarW 1)) (fC (.int 1)))) (f2 gIx (fVarW 1) (f1 gNeg (fC (.int 2)))) (f2 gMulA (eLst (aCons (eTup (aCons (fC (.int 0)) (aCons (fC (.int 1)) aNil))) aNil)) (f2 gAdd (f1 gLen (fVar 2)) (fC (.int 1)))))) (sApp 1 (asL C__law_columns_1)))) (k + 1)
      [.val S, .own (done ++ [enL n]), c2, c3] s = some (.next [.val S, .own (done ++ (cols k a n).map enL), c2', c3'], s)
  | 0, a, n, done, c2, c3, h1, h2, h3, h4, h5, h6 => ⟨_, _, while_stop (by rw [test_run, h1]; rfl)⟩
  | k + 1, a, n, done, c2, c3, h1, h2, h3, h4, h5, h6 => by
    obtain ⟨f1', f2', f3'⟩ := h5
    obtain ⟨x, y, e⟩ := lcol_while (S := S) s k n (nx a n) (done ++ [enL n]) (.val (enL n)) (.val (enL a)) (by rw [nx_len]; omega) (by rw [nx_len]; omega) (by simp; omega) (by omega) f3' (.inr ⟨done, rfl⟩)
    have en := lcomp_run (S := .val S) (C := .own (done ++ [enL n])) s f1' f2' (by omega) h2 (by omega)
    have ea : eIf (asB (f2 gGt (f1 gLen (fVarW 1)) (fC (.int 1)))) (f2 gIx (fVarW 1) (f1 gNeg (fC (.int 2)))) (f2 gMulA (eLst (aCons (eTup (aCons (fC (.int 0)) (aCons (fC (.int 1)) aNil))) aNil)) (f2 gAdd (f1 gLen (fVar 2)) (fC (.int 1)))) [.val S, .own (done ++ [enL n]), .val (enL n), c3] s = some (enL a, s) := by
      have t1 : f2 gGt (f1 gLen (fVarW 1)) (fC (.int 1)) [.val S, .own (done ++ [enL n]), .val (enL n), c3] s = some (.bool (decide (1 < (done ++ [enL n]).length)), s) :=
        f2_run (f1_run (a := .list (done ++ [enL n])) rfl len_own) rfl gt_one
      unfold eIf asB
      rw [t1]
      simp only [Option.bind_some, decide_eq_true_eq]
      rcases h6 with ⟨rfl, rfl⟩ | ⟨d', rfl⟩
      · rw [if_neg (by simp)]
        exact f2_run (a := .list [.tuple [.int 0, .int 1]]) (eLst_run (by simp [aCons, aNil, eTup, fC, small2]) (small_le (by simp))) (f2_run (f1_run rfl (len_enL n)) rfl (add_one _)) (by rw [enL_zs]; exact mulA_nat (by omega))
      · rw [if_pos (by simp)]
        exact f2_run (a := .list (d' ++ [enL a] ++ [enL n])) (b := .int (-2)) rfl rfl at_snoc2
    refine ⟨x, y, while_stepL (δ' := [.val S, .own (done ++ [enL n] ++ [enL (nx a n)]), .val (enL n), .val (enL a)]) (s' := s) (by rw [test_run, h1]; simp) ?_ (by rw [e]; simp [cols])⟩
    have q1 : sSet 2 (f2 gIx (fVarW 1) (f1 gNeg (fC (.int 1)))) [.val S, .own (done ++ [enL n]), c2, c3] s = some (.next [.val S, .own (done ++ [enL n]), .val (enL n), c3], s) := sSet_run (f2_run (a := .list (done ++ [enL n])) (b := .int (-1)) rfl rfl at_snoc)
    rw [sSeq_next q1, sSeq_next (sSet_run ea)]
    rw [sApp_run (v := enL (nx a n)) (s1 := s) (xs := done ++ [enL n]) (by unfold asL; exact congrArg (Option.map _) en) rfl (by simp; omega)]
    rfl
theorem gt_zs {m i : Nat} (h : i < m) : gt (zs m) i = some 0 := by
  unfold gt zs
  rw [List.getD_eq_getElem?_getD, List.getElem?_replicate, if_pos h]; rfl
theorem nx_zs (n : List O) : nx (zs (n.length + 1)) n = nx (zs n.length) n := by
  unfold nx
  refine List.map_congr_left fun i hi => ?_
  have := List.mem_range.mp hi
  rw [gt_zs (by omega), gt_zs (by omega)]
theorem ok_zs (m : Nat) : OkL 1 (zs m) := fun i r h => by
  by_cases hi : i < m
  · rw [gt_zs hi] at h; cases h; exact sz_zero
  · unfold gt zs at h
    rw [List.getD_eq_getElem?_getD, List.getElem?_replicate, if_neg hi] at h; cases h
theorem OkL.mono {N M : Nat} {l : List O} (h : OkL N l) (hm : N ≤ M) : OkL M l := fun i r e => (h i r e).mono hm
theorem lcolumns_run {n : List O} (s : Sx) (h1 : 1 ≤ n.length) (h2 : n.length ≤ 80) (hF : Fine (n.length - 1) (zs n.length) n) :
    g__law_columns [enL n] s = some (.list ((cols (n.length - 1) (zs n.length) n).map enL), s) := by
  have hF' : Fine (n.length - 1) (zs (n.length + 1)) n := by
    cases hk : n.length - 1 with
    | zero => trivial
    | succ k =>
      rw [hk] at hF
      exact ⟨(ok_zs _).mono (by decide), hF.2.1, by rw [nx_zs]; exact hF.2.2⟩
  have hc : cols (n.length - 1) (zs (n.length + 1)) n = cols (n.length - 1) (zs n.length) n := by
    cases hk : n.length - 1 with
    | zero => rfl
    | succ k => simp only [cols, nx_zs]
  obtain ⟨x, y, e⟩ := lcol_while (S := enL n) s (n.length - 1) (zs (n.length + 1)) n [] .non .non (by omega) (by simp [zs]) (by simp; omega) (by omega) hF' (.inl ⟨rfl, rfl⟩)
  rw [hc] at e
  have w : W__law_columns_2 [.val (enL n), .own [enL n], .non, .non] s = some (.next [.val (enL n), .own ((cols (n.length - 1) (zs n.length) n).map enL), x, y], s) := whileN_mono e (by unfold fuel; omega)
  refine fn_run (n := 1) (m := 3) (G := G__law_columns) rfl ?_
  show G__law_columns [.val (enL n), .non, .non, .non] s = _
  unfold G__law_columns
  have q0 : sSetO 1 (oLst (aCons (f1 gList (fVar 0)) aNil)) [.val (enL n), .non, .non, .non] s = some (.next [.val (enL n), .own [enL n], .non, .non], s) := sSetO_run (oLst_run rfl (small_le (by simp)))
  rw [sSeq_next q0, sSeq_next w]
  rfl

theorem nf_sz {r : Rat} (h : NF r) : Sz 40 r := by
  obtain ⟨M, M0, M1, f⟩ := h
  exact f.sz M0 (Nat.lt_of_le_of_lt M1 (by decide)) (by decide)
theorem nf_int {z : Int} (h : z.natAbs ≤ 100) : NF (z : Rat) := ⟨1, by decide, by decide, z, by grind, by have := p30; omega⟩
theorem nf_small {r : Rat} (h : Fit 2 6 r) : NF r := ⟨2, by decide, by decide, h.mono (by decide)⟩
theorem nf_common : ∀ {l : List Rat}, (∀ r ∈ l, NF r) → ∃ M, 0 < M ∧ M ≤ 2 ^ (20 * l.length) ∧ ∀ r ∈ l, Fit M (2 ^ (30 + 20 * l.length)) r
  | [], _ => ⟨1, by decide, by decide, fun _ h => nomatch h⟩
  | r0 :: l, h => by
    obtain ⟨M, M0, M1, M2⟩ := nf_common (l := l) fun r hr => h r (List.mem_cons_of_mem _ hr)
    obtain ⟨N, N0, N1, N2⟩ := h r0 List.mem_cons_self
    have e1 : (2 : Nat) ^ (20 * (l.length + 1)) = 2 ^ 20 * 2 ^ (20 * l.length) := by rw [← Nat.pow_add]; congr 1; omega
    have e2 : (2 : Nat) ^ (30 + 20 * (l.length + 1)) = 2 ^ 20 * 2 ^ (30 + 20 * l.length) := by rw [← Nat.pow_add]; congr 1; omega
    have e3 : (2 : Nat) ^ (30 + 20 * l.length) = 2 ^ 30 * 2 ^ (20 * l.length) := by rw [← Nat.pow_add]
    rw [List.length_cons]
    refine ⟨N * M, Nat.mul_pos N0 M0, by rw [e1]; exact Nat.mul_le_mul N1 M1, fun r hr => ?_⟩
    rcases List.mem_cons.mp hr with rfl | hr
    · have := (N2.scale M).mono (Nat.mul_le_mul_left _ M1)
      refine this.mono ?_
      rw [← e3, e2]
      exact Nat.le_mul_of_pos_left _ (by decide)
    · have := (M2 r hr).scale N
      rw [Nat.mul_comm M N] at this
      refine this.mono ?_
      rw [e2, Nat.mul_comm]
      exact Nat.mul_le_mul_right _ N1
theorem polys_run {n a b : Nat} {s : Sx} (ha : a ≤ 12) (hb : b ≤ 8) (h : Good (n + 75) s) :
    ∃ (top below : List Rat) (s' : Sx), g__law_two_polys [.dict [], .int (a : Int), .int (b : Int)] s = some (.tuple [.tuple (top.map enc), .tuple (below.map enc)], s') ∧
      (∃ M, 0 < M ∧ M ≤ 2 ^ (20 * (a + 1)) ∧ ∀ k, Fit M (2 ^ (30 + 20 * (a + 1))) (co top k)) ∧ (∀ k, Fit 2 6 (co below k)) ∧ below.length ≤ 9 ∧ top.length ≤ 13 ∧ Good n s' := by
  obtain ⟨xs, s1, e1, hx, hlen, g1⟩ := compD_in (T := .one 0) (Ft := fTrue) (F := eIf (asB (f2 gLt (fVar 0) (fC (.int 2)))) (fCall g__law_number (aCons (fVar 1) aNil)) (eTup (aCons (f2 gSubI (fCall g__law_take (aCons (fVar 1) (aCons (fC (.int 7)) aNil))) (fC (.int 3))) (aCons (fC (.int 1)) aNil)))) (δc := [.non, .val (.dict [])]) (fun d => ∃ r, d = enc r ∧ NF r) (fun d => ∃ j : Nat, d = .int (j : Int) ∧ j < a) 5 (fun n s d x__145 hg => by
    obtain ⟨j, ed, _⟩ := x__145
    subst ed
    have c : asB (f2 gLt (fVar 0) (fC (.int 2))) [.val (.int (j : Int)), .val (.dict [])] s = some (decide ((j : Int) < 2), s) := by
      unfold asB
      rw [f2_run (a := .int (j : Int)) (b := .int 2) (d := .bool (decide ((j : Int) < 2))) rfl rfl (by simp only [gLt, gI, if_true])]; rfl
    by_cases hj : (j : Int) < 2
    · obtain ⟨r, s', e, sr, g⟩ := number_fit (n := n) hg
      refine ⟨[.val (.int (j : Int)), .val (.dict [])], enc r, s', rfl, rfl, ?_, ⟨r, rfl, sr⟩, g⟩
      unfold eIf
      rw [c, decide_eq_true hj]
      simp only [Option.bind_some, if_true]
      exact fCall_run (ds := [.dict []]) rfl e
    · obtain ⟨z, s', e, z0, z1, g⟩ := take_elem (n := n + 4) (k := 7) (c := 3) (i := 1) (δ := [.val (.int (j : Int)), .val (.dict [])]) hg (by decide) (by decide) rfl (by decide)
      refine ⟨[.val (.int (j : Int)), .val (.dict [])], enc (z : Rat), s', rfl, rfl, ?_, ⟨_, rfl, nf_int (by omega)⟩, g.mono (by omega)⟩
      unfold eIf
      rw [c, decide_eq_false hj]
      simp only [Option.bind_some, Bool.false_eq_true, if_false]
      exact e) (rng 0 a) (n + 13) s rng_int (h.mono (by rw [rng_len]; omega))
  rw [rng_len] at hlen
  obtain ⟨l, rfl, hl⟩ := rats hx
  rw [List.length_map] at hlen
  obtain ⟨v, s2, e2, hv, g2⟩ := lsmall_run (n := n + 11) g1
  obtain ⟨ys, s3, e3, hy, hlen2, g3⟩ := compD_in (T := .one 0) (Ft := fTrue) (F := eTup (aCons (f2 gSubI (fCall g__law_take (aCons (fVar 1) (aCons (fC (.int 5)) aNil))) (fC (.int 2))) (aCons (fC (.int 1)) aNil))) (δc := [.non, .val (.dict [])]) (fun d => ∃ r, d = enc r ∧ Fit 2 6 r) (fun _ => True) 1 (fun n s d _ hg => by
    obtain ⟨z, s', e, z0, z1, g⟩ := take_elem (n := n) (k := 5) (c := 2) (i := 1) (δ := [.val d, .val (.dict [])]) hg (by decide) (by decide) rfl (by decide)
    exact ⟨[.val d, .val (.dict [])], enc (z : Rat), s', rfl, rfl, e, ⟨_, rfl, fit_int2 (by omega)⟩, g⟩) (rng 0 ((b : Int) - 1).toNat) (n + 2) s2 (fun _ _ => trivial) (g2.mono (by rw [rng_len]; omega))
  rw [rng_len] at hlen2
  obtain ⟨q, rfl, hq⟩ := rats hy
  rw [List.length_map] at hlen2
  obtain ⟨v2, s4, e4, hv2, g4⟩ := lsmall_run (n := n) g3
  have sv : NF v := nf_small hv.2.1
  have htop : ∀ r ∈ l ++ [v], NF r := cat_co hl fun r hr => by rw [List.mem_singleton.mp hr]; exact sv
  obtain ⟨M, M0, M1, M2⟩ := nf_common htop
  have hlt : (l ++ [v]).length = a + 1 := by simp [hlen]
  rw [hlt] at M1 M2
  have F1 : Fit 2 6 (1 : Rat) := ⟨2, by grind, by decide⟩
  have hbel : ∀ r ∈ [1] ++ q ++ (if 0 < b then [v2] else []), Fit 2 6 r := cat_co (cat_co (fun r hr => by rw [List.mem_singleton.mp hr]; exact F1) hq) (fun r hr => by
    split at hr
    · rw [List.mem_singleton.mp hr]; exact hv2.2.1
    · cases hr)
  refine ⟨trR (l ++ [v]), [1] ++ q ++ (if 0 < b then [v2] else []), s4, ?_, ⟨M, M0, M1, fun k => by rw [co_trR]; exact co_mem M2 (Fit.zero _ _) k⟩, fun k => co_mem hbel (Fit.zero _ _) k, ?_, ?_, g4⟩
  · refine fn_run (n := 3) (m := 2) (G := G__law_two_polys) rfl ?_
    show G__law_two_polys [.val (.dict []), .val (.int (a : Int)), .val (.int (b : Int)), .non, .non] s = _
    have hs1 : small (rng 0 a) = true := small_le (by rw [rng_len]; omega)
    have hs2 : small (rng 0 ((b : Int) - 1).toNat) = true := small_le (by rw [rng_len]; omega)
    have c1 : asL C__law_two_polys_1 [.val (.dict []), .val (.int (a : Int)), .val (.int (b : Int)), .non, .non] s = some (.list (l.map enc), s1) := by
      have er : iRange1 (fVar 1) [.val (.dict []), .val (.int (a : Int)), .val (.int (b : Int)), .non, .non] s = some (rng 0 a, s) := iRange1_nat rfl (by omega)
      unfold asL C__law_two_polys_1 fComp
      rw [er]
      simp only [Option.bind_some, hs1, if_true]
      rw [show compDl 1 [0] [.val (.dict []), .val (.int (a : Int)), .val (.int (b : Int)), .non, .non] = [.non, .val (.dict [])] from rfl, e1]
      rfl
    have a1 : sSet 3 (f2 gAdd (asL C__law_two_polys_1) (eLst (aCons (fCall g__law_small (aCons (fVar 0) aNil)) aNil))) [.val (.dict []), .val (.int (a : Int)), .val (.int (b : Int)), .non, .non] s = some (.next [.val (.dict []), .val (.int (a : Int)), .val (.int (b : Int)), .val (.list ((l ++ [v]).map enc)), .non], s2) := by
      refine sSet_run (f2_run (a := .list (l.map enc)) (b := .list ([v].map enc)) c1 (eLst_run (aCons_run (FL := aNil) (fCall_run (ds := [.dict []]) rfl e2) rfl) (small_le (by simp))) ?_)
      rw [catL (by simp; omega), List.map_append]
    have c2 : asL C__law_two_polys_2 [.val (.dict []), .val (.int (a : Int)), .val (.int (b : Int)), .val (.list ((l ++ [v]).map enc)), .non] s2 = some (.list (q.map enc), s3) := by
      have er : iRange1 (f2 gSubI (fVar 2) (fC (.int 1))) [.val (.dict []), .val (.int (a : Int)), .val (.int (b : Int)), .val (.list ((l ++ [v]).map enc)), .non] s2 = some (rng 0 ((b : Int) - 1).toNat, s2) :=
        iRange1_any (f2_run (a := .int (b : Int)) (b := .int 1) rfl rfl (by simp only [gSubI, gI, if_true])) (by omega) (by omega)
      unfold asL C__law_two_polys_2 fComp
      rw [er]
      simp only [Option.bind_some, hs2, if_true]
      rw [show compDl 1 [0] [.val (.dict []), .val (.int (a : Int)), .val (.int (b : Int)), .val (.list ((l ++ [v]).map enc)), .non] = [.non, .val (.dict [])] from rfl, e3]
      rfl
    have u1 : ∀ δ : Sl, ∀ s : Sx, eLst (aCons (eTup (aCons (fC (.int 1)) (aCons (fC (.int 1)) aNil))) aNil) δ s = some (.list (([1] : List Rat).map enc), s) := fun δ s => eLst_run (aCons_run (FL := aNil) (d := enc 1) (by simp [eTup, aCons, aNil, fC, small2]; rfl) rfl) (small_le (by simp))
    have a2 : sSet 4 (f2 gAdd (eLst (aCons (eTup (aCons (fC (.int 1)) (aCons (fC (.int 1)) aNil))) aNil)) (asL C__law_two_polys_2)) [.val (.dict []), .val (.int (a : Int)), .val (.int (b : Int)), .val (.list ((l ++ [v]).map enc)), .non] s2 = some (.next [.val (.dict []), .val (.int (a : Int)), .val (.int (b : Int)), .val (.list ((l ++ [v]).map enc)), .val (.list (([1] ++ q).map enc))], s3) := by
      refine sSet_run (f2_run (a := .list (([1] : List Rat).map enc)) (b := .list (q.map enc)) (u1 _ _) c2 ?_)
      rw [catL (by simp; omega), List.map_append]
    have t := ltrimmed_run (n := 40) (row := .list ((l ++ [v]).map enc)) s3 rfl (fun d hd => by obtain ⟨r, hr, rfl⟩ := List.mem_map.mp hd; exact (nf_sz (htop r hr)).isN) (by rw [List.length_map, hlt]; omega)
    rw [trimD_enc] at t
    have em : gMulA (.list [enc v2]) (.int (if decide (0 < b) then 1 else 0)) = some (.list ((if 0 < b then [v2] else []).map enc)) := by
      by_cases hz : 0 < b
      · simp only [hz, decide_true, if_true, mul_1]; rfl
      · simp only [hz, decide_false, Bool.false_eq_true, if_false, mul_0]; rfl
    have eb : f1 gTuple (f2 gAdd (fVar 4) (f2 gMulA (eLst (aCons (fCall g__law_small (aCons (fVar 0) aNil)) aNil)) (f1 gInt (f2 gGt (fVar 2) (fC (.int 0)))))) [.val (.dict []), .val (.int (a : Int)), .val (.int (b : Int)), .val (.list ((l ++ [v]).map enc)), .val (.list (([1] ++ q).map enc))] s3 = some (.tuple (([1] ++ q ++ (if 0 < b then [v2] else [])).map enc), s4) := by
      refine f1_run (f2_run (a := .list (([1] ++ q).map enc)) (b := .list ((if 0 < b then [v2] else []).map enc)) (d := .list (([1] ++ q ++ (if 0 < b then [v2] else [])).map enc)) rfl (f2_run (a := .list [enc v2]) (b := .int (if decide (0 < b) then 1 else 0)) (eLst_run (aCons_run (FL := aNil) (fCall_run (ds := [.dict []]) rfl e4) rfl) (small_le (by simp))) (f1_run (a := .bool (decide (0 < b))) (f2_run (a := .int (b : Int)) (b := .int 0) rfl rfl ?_) rfl) em) ?_) rfl
      · have : decide ((0 : Int) < (b : Int)) = decide (0 < b) := decide_eq_decide.mpr (by omega)
        simp only [gGt, gI, if_true, this]
      · rw [catL (by split <;> simp <;> omega), List.map_append (l₁ := [1] ++ q)]
    unfold G__law_two_polys
    rw [sSeq_next a1, sSeq_next a2]
    unfold sRet eTup
    rw [aCons_run (fCall_run (ds := [.list ((l ++ [v]).map enc)]) rfl t) (aCons_run (FL := aNil) eb rfl)]
    simp only [Option.bind_some, small2, if_true, Option.map_some]
  · split <;> simp <;> omega
  · rw [len_trR]
    have := trL_le (l ++ [v]) (l ++ [v]).length
    omega

theorem sz0n {n : Nat} (h : 1 ≤ n) : Sz n 0 := sz_zero.mono h
theorem fit24 {r : Rat} {B : Nat} (h : Fit 1 B r) (hB : B ≤ 8) : Fit (2 ^ 24) (2 ^ 170) r := by
  have := h.scale (2 ^ 24)
  rw [Nat.one_mul] at this
  exact this.mono (Nat.le_trans (Nat.mul_le_mul_right _ hB) (by decide))
theorem fit24s {r : Rat} (h : Fit 2 6 r) : Fit (2 ^ 24) (2 ^ 30) r := by
  have := h.scale (2 ^ 23)
  rw [show 2 * 2 ^ 23 = 2 ^ 24 by decide] at this
  exact this.mono (by decide)
theorem lead3 {r : Rat} (h : Lead r) : Sz 3 r := h.2.1.sz (by decide) (by decide) (by decide)
theorem if_gt {m k : Nat} {δ : Sl} {s : Sx} {i : Nat} (hi : δ[i]? = some (.val (.int (m : Int)))) : asB (f2 gGt (fVar i) (fC (.int (k : Int)))) δ s = some (decide (k < m), s) := by
  have v : fVar i δ s = some (.int (m : Int), s) := by unfold fVar; rw [hi]
  have d : decide ((k : Int) < (m : Int)) = decide (k < m) := decide_eq_decide.mpr (by omega)
  unfold asB
  rw [f2_run (a := .int (m : Int)) (b := .int (k : Int)) (d := .bool (decide (k < m))) v rfl (by simp only [gGt, gI, if_true, d])]; rfl
noncomputable def RA (m : Nat) (r : Rat) : Prop := (10 < m → Fit (2 ^ 24) (2 ^ 170) r) ∧ (m ≤ 10 → NF r)
theorem RA.zero {m : Nat} : RA m 0 := ⟨fun _ => Fit.zero _ _, fun _ => nf_zero⟩
noncomputable def RR (m : Nat) (l : List Rat) : Prop := (10 < m → ∀ k, Fit (2 ^ 24) (2 ^ 170) (co l k)) ∧ (m ≤ 10 → ∃ M, 0 < M ∧ M ≤ 2 ^ 202 ∧ ∀ k, Fit M (2 ^ 232) (co l k))
theorem rr_nums {m : Nat} {l : List Rat} (hl : l.length ≤ m) (h : ∀ r ∈ l, RA m r) : RR m l := ⟨fun z k => co_mem (fun r hr => (h r hr).1 z) (Fit.zero _ _) k, fun z => by
  obtain ⟨M, M0, M1, M2⟩ := nf_common (l := l) fun r hr => (h r hr).2 z
  exact ⟨M, M0, Nat.le_trans M1 (Nat.pow_le_pow_right (by decide) (by omega)), fun k => co_mem (fun r hr => (M2 r hr).mono (Nat.pow_le_pow_right (by decide) (by omega))) (Fit.zero _ _) k⟩⟩
theorem any_run {n m : Nat} {s : Sx} (h : Good (n + 5) s) : ∃ r s', g__law_any [.dict [], .int (m : Int)] s = some (enc r, s') ∧ RA m r ∧ Good n s' := by
  by_cases hm : 10 < m
  · obtain ⟨z, s', e, z0, z1, g⟩ := take_elem (n := n + 4) (k := 9) (c := 4) (i := 0) (δ := [.val (.dict []), .val (.int (m : Int))]) h (by decide) (by decide) rfl (by decide)
    refine ⟨(z : Rat), s', fn_run (n := 2) (m := 0) (G := G__law_any) rfl ?_, ⟨fun _ => fit24 (fit_int (B := 4) (by omega)) (by decide), fun z => absurd hm (by omega)⟩, g.mono (by omega)⟩
    unfold G__law_any
    refine sSeq_ret (sIf_t ((if_gt (k := 10) (i := 1) rfl).trans (by rw [decide_eq_true hm])) ?_)
    unfold sRet
    exact congrArg (Option.map _) e
  · obtain ⟨r, s', e, sr, g⟩ := number_fit (n := n) h
    refine ⟨r, s', fn_run (n := 2) (m := 0) (G := G__law_any) rfl ?_, ⟨fun z => absurd z hm, fun _ => sr⟩, g⟩
    unfold G__law_any
    refine (sSeq_next (δ' := [.val (.dict []), .val (.int (m : Int))]) (s' := s) ?_).trans ?_
    · exact sIf_f ((if_gt (k := 10) (i := 1) rfl).trans (by rw [decide_eq_false hm])) rfl
    unfold sRet
    exact congrArg (Option.map _) (fCall_run (ds := [.dict []]) rfl e)
theorem anys_run {n m c : Nat} {s : Sx} {Fi : FI} {δ : Sl} (hc : c ≤ 24) (er : Fi δ s = some (rng 0 c, s)) (h0 : δ[0]? = some (.val (.dict []))) (h1 : δ[1]? = some (.val (.int (m : Int)))) (h : Good (n + 120) s) :
    ∃ (l : List Rat) (s' : Sx), asL (fComp 1 [0, 1] Fi (.one 0) fTrue (fCall g__law_any (aCons (fVar 1) (aCons (fVar 2) aNil)))) δ s = some (.list (l.map enc), s') ∧ l.length = c ∧ (∀ r ∈ l, RA m r) ∧ Good n s' := by
  obtain ⟨xs, s', e, hx, hl, g⟩ := compD_gen (T := .one 0) (Ft := fTrue) (F := fCall g__law_any (aCons (fVar 1) (aCons (fVar 2) aNil))) (δc := [.non, .val (.dict []), .val (.int (m : Int))]) (fun d => ∃ r, d = enc r ∧ RA m r) 5 (fun n s d hg => by
    obtain ⟨r, s', e, sr, g⟩ := any_run (m := m) hg
    exact ⟨[.val d, .val (.dict []), .val (.int (m : Int))], enc r, s', rfl, rfl, fCall_run (ds := [.dict [], .int (m : Int)]) rfl e, ⟨r, rfl, sr⟩, g⟩) (rng 0 c) n s (h.mono (by rw [rng_len]; omega))
  obtain ⟨l, rfl, hl2⟩ := rats hx
  rw [rng_len, List.length_map] at hl
  refine ⟨l, s', ?_, hl, hl2, g⟩
  have hs : small (rng 0 c) = true := small_le (by rw [rng_len]; omega)
  have ec : compDl 1 [0, 1] δ = [.non, .val (.dict []), .val (.int (m : Int))] := by unfold compDl; simp [h0, h1]
  unfold asL fComp
  rw [er]
  simp only [Option.bind_some, hs, if_true]
  rw [ec, e]
  rfl
theorem fit_pow {M B k p q N : Nat} {r : Rat} (h : Fit (M * 2 ^ k) (B * 64 ^ k) r) (hM0 : 0 < M) (hM : M ≤ 2 ^ p) (hB : B ≤ 2 ^ q) (h1 : p + k < N) (h2 : q + 6 * k < N) : Sz N r := by
  refine h.sz (Nat.mul_pos hM0 (Nat.pow_pos (by decide))) ?_ ?_
  · refine Nat.lt_of_le_of_lt (Nat.mul_le_mul_right _ hM) ?_
    rw [← Nat.pow_add]; exact Nat.pow_lt_pow_right (by decide) h1
  · refine Nat.lt_of_le_of_lt (Nat.mul_le_mul_right _ hB) ?_
    rw [show 64 = 2 ^ 6 from rfl, ← Nat.pow_mul, ← Nat.pow_add]; exact Nat.pow_lt_pow_right (by decide) h2
theorem div_nat {m k : Nat} (h0 : 0 < k) (h1 : k < 100) : gDivI (.int (m : Int)) (.int (k : Int)) = some (.int ((m / k : Nat) : Int)) := by
  have dk : divOk (m : Int) (k : Int) = true := Bt.div (n := 7) (bt_lt (by omega) (by omega)) (by omega) (by decide)
  have e : ((m : Int)).fdiv (k : Int) = ((m / k : Nat) : Int) := by rw [Int.fdiv_eq_ediv_of_nonneg _ (Int.natCast_nonneg _)]; rfl
  simp only [gDivI, gI, dk, if_true, e]
theorem one_add (m : Nat) : gAdd (.int 1) (.int (m : Int)) = some (.int ((1 + m : Nat) : Int)) := by simp [gAdd, gAddI, gI]
theorem zero_row {δ : Sl} {s : Sx} {i m : Nat} (hi : δ[i]? = some (.val (.int (m : Int)))) (hm : m ≤ 24) : f2 gMulA (eLst (aCons (eTup (aCons (fC (.int 0)) (aCons (fC (.int 1)) aNil))) aNil)) (fVar i) δ s = some (.list ((List.replicate m (0 : Rat)).map enc), s) := by
  have v : fVar i δ s = some (.int (m : Int), s) := by unfold fVar; rw [hi]
  refine f2_run (a := .list [enc 0]) (eLst_run (aCons_run (FL := aNil) (d := enc 0) (by simp [eTup, aCons, aNil, fC, small2]; rfl) rfl) (small_le (by simp))) v ?_
  rw [mulA_nat (by omega), List.map_replicate]
theorem co_rep0 (n i : Nat) : co (List.replicate n (0 : Rat)) i = 0 := by
  unfold co
  rw [List.getD_eq_getElem?_getD, List.getElem?_replicate]
  split <;> rfl
theorem nines {top : List Rat} {s : Sx} {δ : Sl} (hl : top.length ≤ 100) (h6 : δ[6]? = some (.val (.tuple (top.map enc)))) : asL C__law_row_5 δ s = some (.list ((top.map fun r => ((r.num.fmod 9 - 4 : Int) : Rat)).map enc), s) := by
  have hc : compD (.one 0) fTrue (eTup (aCons (f2 gSubI (f2 gModI (f2 gIx (fVar 0) (fC (.int 0))) (fC (.int 9))) (fC (.int 4))) (aCons (fC (.int 1)) aNil))) [.non] (top.map enc) s = some ((top.map enc).map (fun d => match d with | .tuple [.int p, _] => .tuple [.int (p.fmod 9 - 4), .int 1] | _ => .none), s) := by
    refine compD_pure _ fun d hd => ?_
    obtain ⟨r, _, rfl⟩ := List.mem_map.mp hd
    refine ⟨[.val (enc r)], rfl, rfl, ?_⟩
    unfold eTup
    rw [aCons_run (f2_run (a := .int (r.num.fmod 9)) (b := .int 4) (d := .int (r.num.fmod 9 - 4)) (f2_run (a := .int r.num) (b := .int 9) (f2_run (a := enc r) (b := .int 0) rfl rfl rfl) rfl rfl) rfl (by simp only [gSubI, gI, if_true])) (aCons_run (F := fC (.int 1)) (FL := aNil) rfl rfl)]
    simp only [Option.bind_some, small2, if_true]
    rfl
  have ei : iSeq (fVar 6) δ s = some (top.map enc, s) := by
    unfold iSeq fVar
    rw [h6]; rfl
  have hs : small (top.map enc) = true := small_le (by rw [List.length_map]; omega)
  unfold asL C__law_row_5 fComp
  rw [ei]
  simp only [Option.bind_some, hs, if_true]
  rw [show compDl 1 [] δ = [.non] from rfl, hc, List.map_map, List.map_map]
  rfl
theorem fmod9 (z : Int) : (z.fmod 9 - 4).natAbs ≤ 4 := by
  rw [Int.fmod_eq_emod_of_nonneg _ (by decide)]; omega
theorem seven_eq {w : Int} {δ : Sl} {s : Sx} {k : Int} (h2 : δ[2]? = some (.val (.int w))) : asB (f2 gEq (fVar 2) (fC (.int k))) δ s = some (decide (w = k), s) := by
  have v : fVar 2 δ s = some (.int w, s) := by unfold fVar; rw [h2]
  unfold asB
  rw [f2_run (a := .int w) (b := .int k) v rfl (gEq_int w k)]; rfl
theorem seven_lt {w : Int} {δ : Sl} {s : Sx} {k : Int} (h2 : δ[2]? = some (.val (.int w))) : asB (f2 gLt (fVar 2) (fC (.int k))) δ s = some (decide (w < k), s) := by
  have v : fVar 2 δ s = some (.int w, s) := by unfold fVar; rw [h2]
  unfold asB
  rw [f2_run (a := .int w) (b := .int k) (d := .bool (decide (w < k))) v rfl (by simp only [gLt, gI, if_true])]; rfl
theorem seven_gt {w : Int} {δ : Sl} {s : Sx} {k : Int} (h2 : δ[2]? = some (.val (.int w))) : asB (f2 gGt (fVar 2) (fC (.int k))) δ s = some (decide (k < w), s) := by
  have v : fVar 2 δ s = some (.int w, s) := by unfold fVar; rw [h2]
  unfold asB
  rw [f2_run (a := .int w) (b := .int k) (d := .bool (decide (k < w))) v rfl (by simp only [gGt, gI, if_true])]; rfl
theorem set_co {l : List Rat} {j : Nat} {v : Rat} {P : Rat → Prop} (hj : j < l.length) (h : ∀ k, P (co l k)) (hv : P v) : ∀ k, P (co (l.set j v) k) := fun k => by
  rw [co_set hj]
  split
  · exact hv
  · exact h k
theorem fit10 {Mt : Nat} {r : Rat} (h1 : Mt ≤ 2 ^ 120) (h : Fit 2 6 r) : Fit (Mt * 2 ^ 10) (2 ^ 150) r := by
  have := h.scale (Mt * 2 ^ 9)
  rw [show 2 * (Mt * 2 ^ 9) = Mt * 2 ^ 10 by omega] at this
  refine this.mono ?_
  have e : 6 * (Mt * 2 ^ 9) ≤ 2 ^ 3 * (2 ^ 120 * 2 ^ 9) := Nat.mul_le_mul (by decide) (Nat.mul_le_mul_right _ h1)
  rw [← Nat.pow_add, ← Nat.pow_add] at e
  exact Nat.le_trans e (Nat.pow_le_pow_right (by decide) (by decide))
theorem qrow {n m : Nat} {s : Sx} (hm1 : 1 ≤ m) (hm : m ≤ 12) (h : Good (n + 81) s) (w : Int) :
    ∃ (l : List Rat) (s' : Sx), sSeq (sUnp (.tup [6, 7]) (fCall g__law_two_polys (aCons (fVar 0) (aCons (fCall g__law_take (aCons (fVar 0) (aCons (f2 gAdd (fC (.int 1)) (f2 gDivI (fVar 1) (fC (.int 2)))) aNil))) (aCons (fCall g__law_take (aCons (fVar 0) (aCons (f2 gAdd (fC (.int 1)) (f2 gDivI (fVar 1) (fC (.int 3)))) aNil))) aNil)))))
      (sSeq (sIf (asB (f2 gGt (fVar 1) (fC (.int 10)))) (sSet 6 (fCall g__law_trimmed (aCons (asL C__law_row_5) aNil))) sNext)
      (sSeq (sSetC 4 (fCallC gC__law_series (aCons (fVar 6) (aCons (fVar 7) (aCons (fVar 1) aNil)))))
      (sSeq (sIf (asB (f2 gGt (fVar 2) (fC (.int 5)))) (sSeq (sSet 8 (fCall g__law_take (aCons (fVar 0) (aCons (fVar 1) aNil))))
      (sPut 4 (fVar 8) (fCall g__law_plus (aCons (f2 gIx (fVarW 4) (fVar 8)) (aCons (fCall g__law_small (aCons (fVar 0) aNil)) aNil))))) sNext)
      (sSeq (sFrz 4) (sRet (fVar 4)))))) [.val (.dict []), .val (.int (m : Int)), .val (.int w), .non, .non, .non, .non, .non, .non] s = some (.ret (.list (l.map enc)), s') ∧ l.length = m ∧ RR m l ∧ Good n s' := by
  obtain ⟨a, s1, e1, ha, g1⟩ := draw_nat (n := n + 80) (m := 1 + m / 2) h (by omega) (by omega)
  obtain ⟨b, s2, e2, hb, g2⟩ := draw_nat (n := n + 79) (m := 1 + m / 3) g1 (by omega) (by omega)
  obtain ⟨top, below, s3, e3, ⟨M, M0, M1, M2⟩, hbl, bl, tl, g3⟩ := polys_run (n := n + 4) (a := a) (b := b) (by omega) (by omega) g2
  have a1 : sUnp (.tup [6, 7]) (fCall g__law_two_polys (aCons (fVar 0) (aCons (fCall g__law_take (aCons (fVar 0) (aCons (f2 gAdd (fC (.int 1)) (f2 gDivI (fVar 1) (fC (.int 2)))) aNil))) (aCons (fCall g__law_take (aCons (fVar 0) (aCons (f2 gAdd (fC (.int 1)) (f2 gDivI (fVar 1) (fC (.int 3)))) aNil))) aNil)))) [.val (.dict []), .val (.int (m : Int)), .val (.int w), .non, .non, .non, .non, .non, .non] s = some (.next [.val (.dict []), .val (.int (m : Int)), .val (.int w), .non, .non, .non, .val (.tuple (top.map enc)), .val (.tuple (below.map enc)), .non], s3) := by
    have t1 : fCall g__law_take (aCons (fVar 0) (aCons (f2 gAdd (fC (.int 1)) (f2 gDivI (fVar 1) (fC (.int 2)))) aNil)) [.val (.dict []), .val (.int (m : Int)), .val (.int w), .non, .non, .non, .non, .non, .non] s = some (.int (a : Int), s1) :=
      fCall_run (ds := [.dict [], .int ((1 + m / 2 : Nat) : Int)]) (aCons_run rfl (aCons_run (FL := aNil) (f2_run (a := .int 1) (b := .int ((m / 2 : Nat) : Int)) rfl (f2_run rfl rfl (div_nat (k := 2) (by decide) (by decide))) (one_add _)) rfl)) e1
    have t2 : fCall g__law_take (aCons (fVar 0) (aCons (f2 gAdd (fC (.int 1)) (f2 gDivI (fVar 1) (fC (.int 3)))) aNil)) [.val (.dict []), .val (.int (m : Int)), .val (.int w), .non, .non, .non, .non, .non, .non] s1 = some (.int (b : Int), s2) :=
      fCall_run (ds := [.dict [], .int ((1 + m / 3 : Nat) : Int)]) (aCons_run rfl (aCons_run (FL := aNil) (f2_run (a := .int 1) (b := .int ((m / 3 : Nat) : Int)) rfl (f2_run rfl rfl (div_nat (k := 3) (by decide) (by decide))) (one_add _)) rfl)) e2
    unfold sUnp
    rw [fCall_run (aCons_run (F := fVar 0) rfl (aCons_run t1 (aCons_run (FL := aNil) t2 rfl))) e3]
    rfl
  obtain ⟨t', Mt, Bt', p, q, e4, hM0, hMp, hBq, hfit, hpq, hone⟩ : ∃ (t' : List Rat) (Mt Bt p q : Nat), sIf (asB (f2 gGt (fVar 1) (fC (.int 10)))) (sSet 6 (fCall g__law_trimmed (aCons (asL C__law_row_5) aNil))) sNext [.val (.dict []), .val (.int (m : Int)), .val (.int w), .non, .non, .non, .val (.tuple (top.map enc)), .val (.tuple (below.map enc)), .non] s3 = some (.next [.val (.dict []), .val (.int (m : Int)), .val (.int w), .non, .non, .non, .val (.tuple (t'.map enc)), .val (.tuple (below.map enc)), .non], s3) ∧ 0 < Mt ∧ Mt ≤ 2 ^ p ∧ Bt ≤ 2 ^ q ∧ (∀ k, Fit Mt Bt (co t' k)) ∧ (p ≤ 120 ∧ q ≤ 150) ∧ (10 < m → Mt = 1 ∧ Bt = 4) := by
    by_cases h6 : 10 < m
    · refine ⟨trR (top.map fun r => ((r.num.fmod 9 - 4 : Int) : Rat)), 1, 4, 0, 2, ?_, by decide, by decide, by decide, fun k => ?_, by decide, (fun _ => ⟨rfl, rfl⟩)⟩
      · refine sIf_t ((if_gt (k := 10) (i := 1) rfl).trans (by rw [decide_eq_true h6])) ?_
        have t := ltrimmed_run (n := 4) (row := .list ((top.map fun r => ((r.num.fmod 9 - 4 : Int) : Rat)).map enc)) s3 rfl (fun d hd => by
          obtain ⟨r, hr, rfl⟩ := List.mem_map.mp hd
          obtain ⟨q, _, rfl⟩ := List.mem_map.mp hr
          have := fmod9 q.num
          exact (sz_int (n := 4) (bt_lt (by omega) (by omega)) (by decide)).isN) (by rw [List.length_map, List.length_map]; omega)
        rw [trimD_enc] at t
        exact sSet_run (fCall_run (aCons_run (FL := aNil) (nines (by omega) rfl) rfl) t)
      · rw [co_trR]
        refine co_mem (P := Fit 1 4) (fun r hr => ?_) (Fit.zero _ _) k
        obtain ⟨q, _, rfl⟩ := List.mem_map.mp hr
        exact fit_int (fmod9 q.num)
    · exact ⟨top, M, 2 ^ (30 + 20 * (a + 1)), 20 * (a + 1), 30 + 20 * (a + 1), sIf_f ((if_gt (k := 10) (i := 1) rfl).trans (by rw [decide_eq_false h6])) rfl, M0, M1, Nat.le_refl _, M2, by omega, (fun z => absurd z h6)⟩
  obtain ⟨c, e5, hc, hser⟩ := series_run (N := 400) (M := Mt) (B := Bt') (m := m) (top := t') (below := below) s3 (by decide) (by decide) (fun k r hk hr => fit_pow hr hM0 hMp hBq (by omega) (by omega)) hfit hbl bl (by omega)
  have scN : ∀ k, Sz 400 (co c k) := fun k => by
    by_cases hk : k < c.length
    · exact fit_pow (hser k hk) hM0 hMp hBq (by omega) (by omega)
    · rw [co_out (by omega)]; exact sz0n (by omega)
  have sc24 : 10 < m → ∀ k, Fit (2 ^ 24) (2 ^ 165) (co c k) := fun z k => by
    obtain ⟨rfl, rfl⟩ := hone z
    by_cases hk : k < c.length
    · have h := (hser k hk).scale (2 ^ (24 - k))
      rw [Nat.one_mul, ← Nat.pow_add, show k + (24 - k) = 24 by omega] at h
      refine h.mono ?_
      rw [show 4 = 2 ^ 2 from rfl, show 64 = 2 ^ 6 from rfl, ← Nat.pow_mul, ← Nat.pow_add, ← Nat.pow_add]
      exact Nat.pow_le_pow_right (by decide) (by omega)
    · rw [co_out (by omega)]; exact Fit.zero _ _
  have mt120 : Mt ≤ 2 ^ 120 := Nat.le_trans hMp (Nat.pow_le_pow_right (by decide) (by omega))
  have mt6 : Mt * 2 ^ 10 ≤ 2 ^ 202 := Nat.le_trans (Nat.mul_le_mul_right _ hMp) (by rw [← Nat.pow_add]; exact Nat.pow_le_pow_right (by decide) (by omega))
  have sc6 : m ≤ 10 → ∀ k, Fit (Mt * 2 ^ 10) (2 ^ 231) (co c k) := fun z k => by
    by_cases hk : k < c.length
    · have h := (hser k hk).scale (2 ^ (10 - k))
      rw [Nat.mul_assoc, ← Nat.pow_add, show k + (10 - k) = 10 by omega] at h
      refine h.mono ?_
      refine Nat.le_trans (Nat.mul_le_mul_right _ (Nat.mul_le_mul_right _ hBq)) ?_
      rw [show 64 = 2 ^ 6 from rfl, ← Nat.pow_mul, ← Nat.pow_add, ← Nat.pow_add]
      exact Nat.pow_le_pow_right (by decide) (by omega)
    · rw [co_out (by omega)]; exact Fit.zero _ _
  have a5 : sSetC 4 (fCallC gC__law_series (aCons (fVar 6) (aCons (fVar 7) (aCons (fVar 1) aNil)))) [.val (.dict []), .val (.int (m : Int)), .val (.int w), .non, .non, .non, .val (.tuple (t'.map enc)), .val (.tuple (below.map enc)), .non] s3 = some (.next [.val (.dict []), .val (.int (m : Int)), .val (.int w), .non, .own (c.map enc), .non, .val (.tuple (t'.map enc)), .val (.tuple (below.map enc)), .non], s3) := sSetC_run (fCallC_run rfl e5)
  rw [sSeq_next a1, sSeq_next e4, sSeq_next a5]
  by_cases h5 : 5 < w
  · obtain ⟨j, s4, e6, hj, g4⟩ := draw_nat (n := n + 3) g3 (show 0 < m by omega) (by omega)
    obtain ⟨v, s5, e7, hv, g5⟩ := lsmall_run (n := n + 1) g4
    have sj := scN j
    have hjc : j < c.length := by omega
    have s3v := lead3 hv
    have e8 := lplus_enc s5 (show 400 ≤ 4000 by decide) sj (s3v.mono (by decide))
    have b1 : sIf (asB (f2 gGt (fVar 2) (fC (.int 5)))) (sSeq (sSet 8 (fCall g__law_take (aCons (fVar 0) (aCons (fVar 1) aNil)))) (sPut 4 (fVar 8) (fCall g__law_plus (aCons (f2 gIx (fVarW 4) (fVar 8)) (aCons (fCall g__law_small (aCons (fVar 0) aNil)) aNil))))) sNext [.val (.dict []), .val (.int (m : Int)), .val (.int w), .non, .own (c.map enc), .non, .val (.tuple (t'.map enc)), .val (.tuple (below.map enc)), .non] s3 = some (.next [.val (.dict []), .val (.int (m : Int)), .val (.int w), .non, .own ((c.set j (co c j + v)).map enc), .non, .val (.tuple (t'.map enc)), .val (.tuple (below.map enc)), .val (.int (j : Int))], s5) := by
      refine sIf_t ((seven_gt rfl).trans (by rw [decide_eq_true h5])) ?_
      have c1 : sSet 8 (fCall g__law_take (aCons (fVar 0) (aCons (fVar 1) aNil))) [.val (.dict []), .val (.int (m : Int)), .val (.int w), .non, .own (c.map enc), .non, .val (.tuple (t'.map enc)), .val (.tuple (below.map enc)), .non] s3 = some (.next [.val (.dict []), .val (.int (m : Int)), .val (.int w), .non, .own (c.map enc), .non, .val (.tuple (t'.map enc)), .val (.tuple (below.map enc)), .val (.int (j : Int))], s4) := sSet_run (fCall_run (ds := [.dict [], .int (m : Int)]) rfl e6)
      refine (sSeq_next c1).trans ?_
      exact sPut_run (v := enc (co c j + v)) (k := .int (j : Int)) (s1 := s5) (fCall_run (aCons_run (f2_run (a := .list (c.map enc)) (b := .int (j : Int)) rfl rfl (at_co hjc)) (aCons_run (FL := aNil) (fCall_run (ds := [.dict []]) rfl e7) rfl)) e8) rfl rfl (put_enc hjc)
    refine ⟨c.set j (co c j + v), s5, ?_, by rw [List.length_set, hc], ⟨fun z => set_co (P := fun r => Fit (2 ^ 24) (2 ^ 170) r) hjc (fun k => (sc24 z k).mono (by decide)) (((sc24 z j).add (fit24s hv.2.1)).mono (by decide)), fun z => ⟨Mt * 2 ^ 10, Nat.mul_pos hM0 (by decide), mt6, fun k => set_co (P := fun r => Fit (Mt * 2 ^ 10) (2 ^ 232) r) hjc (fun k => (sc6 z k).mono (Nat.pow_le_pow_right (by decide) (by decide))) (((sc6 z j).add (fit10 mt120 hv.2.1)).mono (by decide)) k⟩⟩, g5.mono (by omega)⟩
    rw [sSeq_next b1]
    rfl
  · have b1 : sIf (asB (f2 gGt (fVar 2) (fC (.int 5)))) (sSeq (sSet 8 (fCall g__law_take (aCons (fVar 0) (aCons (fVar 1) aNil)))) (sPut 4 (fVar 8) (fCall g__law_plus (aCons (f2 gIx (fVarW 4) (fVar 8)) (aCons (fCall g__law_small (aCons (fVar 0) aNil)) aNil))))) sNext [.val (.dict []), .val (.int (m : Int)), .val (.int w), .non, .own (c.map enc), .non, .val (.tuple (t'.map enc)), .val (.tuple (below.map enc)), .non] s3 = some (.next [.val (.dict []), .val (.int (m : Int)), .val (.int w), .non, .own (c.map enc), .non, .val (.tuple (t'.map enc)), .val (.tuple (below.map enc)), .non], s3) :=
      sIf_f ((seven_gt rfl).trans (by rw [decide_eq_false h5])) rfl
    refine ⟨c, s3, ?_, hc, ⟨fun z k => (sc24 z k).mono (by decide), fun z => ⟨Mt * 2 ^ 10, Nat.mul_pos hM0 (by decide), mt6, fun k => (sc6 z k).mono (Nat.pow_le_pow_right (by decide) (by decide))⟩⟩, g3.mono (by omega)⟩
    rw [sSeq_next b1]
    rfl

theorem row_run4 {n m : Nat} {s : Sx} (hm1 : 1 ≤ m) (hm : m ≤ 12) (h : Good (n + 122) s) : ∃ (l : List Rat) (s' : Sx), g__law_row [.dict [], .int (m : Int)] s = some (.list (l.map enc), s') ∧ l.length = m ∧ RR m l ∧ Good n s' := by
  obtain ⟨w, s1, e1, w0, w1, g1⟩ := draw (n := n + 121) h 8 (by decide) (by decide)
  have a1 : sSet 2 (fCall g__law_take (aCons (fVar 0) (aCons (fC (.int 8)) aNil))) [.val (.dict []), .val (.int (m : Int)), .non, .non, .non, .non, .non, .non, .non] s = some (.next [.val (.dict []), .val (.int (m : Int)), .val (.int w), .non, .non, .non, .non, .non, .non], s1) := sSet_run (fCall_run (ds := [.dict [], .int 8]) rfl e1)
  have fin : ∀ (d : D) (s' : Sx), G__law_row [.val (.dict []), .val (.int (m : Int)), .non, .non, .non, .non, .non, .non, .non] s = some (.ret d, s') → g__law_row [.dict [], .int (m : Int)] s = some (d, s') := fun d s' hh => fn_run (n := 2) (m := 7) (G := G__law_row) rfl hh
  have n1 : ∀ G : GS, ¬ w < 2 → sIf (asB (f2 gLt (fVar 2) (fC (.int 2)))) G sNext [.val (.dict []), .val (.int (m : Int)), .val (.int w), .non, .non, .non, .non, .non, .non] s1 = some (.next [.val (.dict []), .val (.int (m : Int)), .val (.int w), .non, .non, .non, .non, .non, .non], s1) := fun G hw => sIf_f ((seven_lt rfl).trans (by rw [decide_eq_false hw])) rfl
  have n2 : ∀ (k : Int) (G : GS), ¬ w = k → sIf (asB (f2 gEq (fVar 2) (fC (.int k)))) G sNext [.val (.dict []), .val (.int (m : Int)), .val (.int w), .non, .non, .non, .non, .non, .non] s1 = some (.next [.val (.dict []), .val (.int (m : Int)), .val (.int w), .non, .non, .non, .non, .non, .non], s1) := fun k G hw => sIf_f ((seven_eq rfl).trans (by rw [decide_eq_false hw])) rfl
  by_cases h2 : w < 2
  · obtain ⟨l, s2, e2, hl, hr, g2⟩ := anys_run (n := n + 1) (m := m) (c := m) (Fi := iRange1 (fVar 1)) (δ := [.val (.dict []), .val (.int (m : Int)), .val (.int w), .non, .non, .non, .non, .non, .non]) (by omega) (iRange1_nat rfl (by omega)) rfl rfl g1
    refine ⟨l, s2, fin _ _ ?_, hl, rr_nums (by omega) hr, g2.mono (by omega)⟩
    unfold G__law_row
    rw [sSeq_next a1]
    refine sSeq_ret (sIf_t ((seven_lt rfl).trans (by rw [decide_eq_true h2])) ?_)
    unfold sRet
    exact congrArg (Option.map _) e2
  by_cases h3 : w = 2
  · obtain ⟨j, s2, e2, hj, g2⟩ := draw_nat (n := n + 120) (m := m + 1) g1 (by omega) (by omega)
    have b1 : sSet 3 (fCall g__law_take (aCons (fVar 0) (aCons (f2 gAdd (fVar 1) (fC (.int 1))) aNil))) [.val (.dict []), .val (.int (m : Int)), .val (.int w), .non, .non, .non, .non, .non, .non] s1 = some (.next [.val (.dict []), .val (.int (m : Int)), .val (.int w), .val (.int (j : Int)), .non, .non, .non, .non, .non], s2) :=
      sSet_run (fCall_run (ds := [.dict [], .int ((m + 1 : Nat) : Int)]) (aCons_run rfl (aCons_run (FL := aNil) (f2_run rfl rfl (add_one m)) rfl)) e2)
    obtain ⟨l, s3, e3, hl, hr, g3⟩ := anys_run (n := n) (m := m) (c := m - j) (Fi := iRange1 (f2 gSubI (fVar 1) (fVar 3))) (δ := [.val (.dict []), .val (.int (m : Int)), .val (.int w), .val (.int (j : Int)), .non, .non, .non, .non, .non]) (by omega) (iRange1_nat (f2_run rfl rfl (sub_nat (by omega))) (by omega)) rfl rfl g2
    refine ⟨List.replicate j 0 ++ l, s3, fin _ _ ?_, by simp [hl]; omega, rr_nums (by simp [hl]; omega) (cat_co (fun r hr => by rw [(List.mem_replicate.mp hr).2]; exact RA.zero) hr), g3⟩
    unfold G__law_row
    rw [sSeq_next a1, sSeq_next (n1 _ h2)]
    refine sSeq_ret (sIf_t ((seven_eq rfl).trans (by rw [decide_eq_true h3])) ?_)
    refine (sSeq_next b1).trans ?_
    unfold sRet
    refine congrArg (Option.map _) (f2_run (a := .list ((List.replicate j (0 : Rat)).map enc)) (zero_row (i := 3) rfl (by omega)) e3 ?_)
    rw [catL (by simp; omega), List.map_append]
  by_cases h4 : w = 3
  · obtain ⟨c, s2, e2, hc, g2⟩ := draw_nat (n := n + 120) (m := 4) g1 (by omega) (by omega)
    obtain ⟨δ', s3, e3, l, x5, hδ, hll, hs, g3⟩ := forD_run (T := .one 5) (G := B__law_row_3) (fun k δ s => ∃ (l : List Rat) (x5 : Ce), δ = [.val (.dict []), .val (.int (m : Int)), .val (.int w), .non, .own (l.map enc), x5, .non, .non, .non] ∧ l.length = m ∧ (∀ k, Fit 2 6 (co l k)) ∧ Good (n + 3 * k) s) (rng 0 c)
      [.val (.dict []), .val (.int (m : Int)), .val (.int w), .non, .own ((List.replicate m (0 : Rat)).map enc), .non, .non, .non, .non] s2 ⟨List.replicate m 0, .non, rfl, List.length_replicate, fun k => by rw [co_rep0]; exact Fit.zero _ _, g2.mono (by rw [rng_len]; omega)⟩ (fun k d δ s hd x__146 => by
        obtain ⟨l, x5, hδ, hll, hs, hg⟩ := x__146
        subst hδ
        obtain ⟨v, s', e, hv, g⟩ := lsmall_run (n := n + 3 * k + 1) (hg.mono (by omega))
        obtain ⟨j, s'', e', hj, g'⟩ := draw_nat (n := n + 3 * k) g (show 0 < m by omega) (by omega)
        refine ⟨[.val (.dict []), .val (.int (m : Int)), .val (.int w), .non, .own (l.map enc), .val d, .non, .non, .non], [.val (.dict []), .val (.int (m : Int)), .val (.int w), .non, .own ((l.set j v).map enc), .val d, .non, .non, .non], s'', rfl, ?_, l.set j v, .val d, rfl, by rw [List.length_set, hll], set_co (P := fun r => Fit 2 6 r) (by omega) hs hv.2.1, g'⟩
        exact sPut_run (v := enc v) (k := .int (j : Int)) (s1 := s') (fCall_run (ds := [.dict []]) rfl e) (fCall_run (ds := [.dict [], .int (m : Int)]) rfl e') rfl (put_enc (by omega)))
    subst hδ
    refine ⟨l, s3, fin _ _ ?_, hll, ⟨fun _ k => (fit24s (hs k)).mono (by decide), fun _ => ⟨2, by decide, by decide, fun k => (hs k).mono (by decide)⟩⟩, g3.mono (by omega)⟩
    have b1 : sSetO 4 (o2 lRep (eLst (aCons (eTup (aCons (fC (.int 0)) (aCons (fC (.int 1)) aNil))) aNil)) (fVar 1)) [.val (.dict []), .val (.int (m : Int)), .val (.int w), .non, .non, .non, .non, .non, .non] s1 = some (.next [.val (.dict []), .val (.int (m : Int)), .val (.int w), .non, .own ((List.replicate m (0 : Rat)).map enc), .non, .non, .non, .non], s1) := by
      refine sSetO_run (o2_run (a := .list [enc 0]) (b := .int (m : Int)) (eLst_run (aCons_run (FL := aNil) (d := enc 0) (by simp [eTup, aCons, aNil, fC, small2]; rfl) rfl) (small_le (by simp))) rfl ?_)
      rw [rep_nat (by omega), List.map_replicate]
    have b2 : L__law_row_4 [.val (.dict []), .val (.int (m : Int)), .val (.int w), .non, .own ((List.replicate m (0 : Rat)).map enc), .non, .non, .non, .non] s1 = some (.next [.val (.dict []), .val (.int (m : Int)), .val (.int w), .non, .own (l.map enc), x5, .non, .non, .non], s3) := by
      have er : iRange1 (fCall g__law_take (aCons (fVar 0) (aCons (fC (.int 4)) aNil))) [.val (.dict []), .val (.int (m : Int)), .val (.int w), .non, .own ((List.replicate m (0 : Rat)).map enc), .non, .non, .non, .non] s1 = some (rng 0 c, s2) := iRange1_nat (fCall_run (ds := [.dict [], .int 4]) rfl e2) (by omega)
      unfold L__law_row_4 sFor
      rw [er]
      exact e3
    unfold G__law_row
    rw [sSeq_next a1, sSeq_next (n1 _ h2), sSeq_next (n2 2 _ h3)]
    refine sSeq_ret (sIf_t ((seven_eq rfl).trans (by rw [decide_eq_true h4])) ?_)
    refine (sSeq_next b1).trans ((sSeq_next b2).trans ?_)
    rfl
  · obtain ⟨l, s2, e2, hl, hs, g2⟩ := qrow (n := n) hm1 hm (g1.mono (by omega)) w
    refine ⟨l, s2, fin _ _ ?_, hl, hs, g2⟩
    unfold G__law_row
    rw [sSeq_next a1, sSeq_next (n1 _ h2), sSeq_next (n2 2 _ h3), sSeq_next (n2 3 _ h4)]
    exact e2

theorem places_run {n : Nat} {s : Sx} {t : Int} (h : Good (n + 3) s) : ∃ (m : Nat) (s' : Sx), g__law_places [.dict [], .int t] s = some (.int (m : Int), s') ∧ 1 ≤ m ∧ m ≤ 12 ∧ Good n s' := by
  obtain ⟨w, s1, e1, w0, w1, g1⟩ := draw (n := n + 2) h 8 (by decide) (by decide)
  have a1 : sSet 2 (fCall g__law_take (aCons (fVar 0) (aCons (fC (.int 8)) aNil))) [.val (.dict []), .val (.int t), .non] s = some (.next [.val (.dict []), .val (.int t), .val (.int w)], s1) := sSet_run (fCall_run (ds := [.dict [], .int 8]) rfl e1)
  have c1 : asB (f2 gEq (fVar 1) (fC (.int 0))) [.val (.dict []), .val (.int t), .val (.int w)] s1 = some (decide (t = 0), s1) := by
    unfold asB
    rw [f2_run (a := .int t) (b := .int 0) rfl rfl (gEq_int t 0)]; rfl
  by_cases hc : w = 0 ∧ t = 0
  · obtain ⟨j, s2, e2, hj, g2⟩ := draw_nat (n := n + 1) (m := 4) g1 (by decide) (by decide)
    refine ⟨9 + j, s2, fn_run (n := 2) (m := 1) (G := G__law_places) rfl ?_, by omega, by omega, g2.mono (by omega)⟩
    show G__law_places [.val (.dict []), .val (.int t), .non] s = _
    unfold G__law_places
    rw [sSeq_next a1]
    refine sSeq_ret (sIf_t (s' := s1) ?_ ?_)
    · unfold tAndF
      rw [seven_eq (w := w) (k := 0) rfl, decide_eq_true hc.1]
      simp only [Option.bind_some, if_true]
      rw [c1, decide_eq_true hc.2]
    · unfold sRet
      refine congrArg (Option.map _) (f2_run (a := .int 9) (b := .int (j : Int)) rfl (fCall_run (ds := [.dict [], .int 4]) rfl e2) ?_)
      simp [gAdd, gAddI, gI]
  · obtain ⟨j, s2, e2, hj, g2⟩ := draw_nat (n := n + 1) (m := 2) g1 (by decide) (by decide)
    have nb : sIf (tAndF (asB (f2 gEq (fVar 2) (fC (.int 0)))) (asB (f2 gEq (fVar 1) (fC (.int 0))))) (sRet (f2 gAdd (fC (.int 9)) (fCall g__law_take (aCons (fVar 0) (aCons (fC (.int 4)) aNil))))) sNext [.val (.dict []), .val (.int t), .val (.int w)] s1 = some (.next [.val (.dict []), .val (.int t), .val (.int w)], s1) := by
      refine sIf_f (s' := s1) ?_ rfl
      unfold tAndF
      rw [seven_eq (w := w) (k := 0) rfl]
      by_cases hw : w = 0
      · rw [decide_eq_true hw]
        simp only [Option.bind_some, if_true]
        rw [c1, decide_eq_false fun z => hc ⟨hw, z⟩]
      · rw [decide_eq_false hw]; rfl
    obtain ⟨m, hm1, hm2, ei⟩ : ∃ m : Nat, 1 ≤ m ∧ m ≤ 12 ∧ gIx (.list [.int 8, .int ((1 + j : Nat) : Int), .int 3, .int 4, .int 5, .int 6, .int 7, .int 6]) (.int w) = some (.int (m : Int)) := by
      have cs : w = 0 ∨ w = 1 ∨ w = 2 ∨ w = 3 ∨ w = 4 ∨ w = 5 ∨ w = 6 ∨ w = 7 := by omega
      rcases cs with rfl | rfl | rfl | rfl | rfl | rfl | rfl | rfl
      · exact ⟨8, by decide, by decide, rfl⟩
      · exact ⟨1 + j, by omega, by omega, rfl⟩
      · exact ⟨3, by decide, by decide, rfl⟩
      · exact ⟨4, by decide, by decide, rfl⟩
      · exact ⟨5, by decide, by decide, rfl⟩
      · exact ⟨6, by decide, by decide, rfl⟩
      · exact ⟨7, by decide, by decide, rfl⟩
      · exact ⟨6, by decide, by decide, rfl⟩
    refine ⟨m, s2, fn_run (n := 2) (m := 1) (G := G__law_places) rfl ?_, hm1, hm2, g2.mono (by omega)⟩
    show G__law_places [.val (.dict []), .val (.int t), .non] s = _
    unfold G__law_places
    rw [sSeq_next a1, sSeq_next nb]
    unfold sRet
    refine congrArg (Option.map _) (f2_run (a := .list [.int 8, .int ((1 + j : Nat) : Int), .int 3, .int 4, .int 5, .int 6, .int 7, .int 6]) (b := .int w) (eLst_run (s1 := s2) (aCons_run (s1 := s1) rfl (aCons_run (f2_run (a := .int 1) (b := .int (j : Int)) rfl (fCall_run (ds := [.dict [], .int 2]) rfl e2) (one_add j)) rfl)) (small_le (by simp))) rfl ei)
theorem x_fit : ∀ t ∈ ([-6, -5, -4, -3, -2, -1, 0, 1, 2, 3, 4, 5, 6] : List Int), (Rat.divInt t 5).num.natAbs < 2 ^ 4 ∧ (Rat.divInt t 5).den < 2 ^ 4 := by decide +kernel
noncomputable def XF (x : Rat) : Prop := ∃ M, 0 < M ∧ M ≤ 5 ∧ Fit M 6 x
theorem xf_five {t : Int} (h0 : -6 ≤ t) (h1 : t ≤ 6) : XF (Rat.divInt t 5) := ⟨5, by decide, by decide, t, by rw [Rat.divInt_eq_div]; show (t : Rat) / (5 : Rat) * (5 : Rat) = _; grind, by omega⟩
theorem x_run {n : Nat} {s : Sx} (h : Good (n + 4) s) : ∃ (x : Rat) (s' : Sx), g__law_x [.dict []] s = some (enc x, s') ∧ (Sz 4 x ∧ XF x) ∧ Good n s' := by
  obtain ⟨v, s1, e1, hv, g1⟩ := lsmall_run (n := n + 2) h
  obtain ⟨t, s2, e2, t0, t1, g2⟩ := draw (n := n + 1) g1 13 (by decide) (by decide)
  obtain ⟨w, s3, e3, w0, w1, g3⟩ := draw (n := n) g2 5 (by decide) (by decide)
  have e4 := part_run (k := 40) (t := t - 6) (b := 5) s2 (bt_lt (by omega) (by omega)) (.lit (by decide)) (by decide) (by decide)
  rw [num_enc (by decide)] at e4
  have sx : Sz 4 (Rat.divInt (t - 6) 5) := by
    obtain ⟨a, b⟩ := x_fit (t - 6) (by
      have : t - 6 = -6 ∨ t - 6 = -5 ∨ t - 6 = -4 ∨ t - 6 = -3 ∨ t - 6 = -2 ∨ t - 6 = -1 ∨ t - 6 = 0 ∨ t - 6 = 1 ∨ t - 6 = 2 ∨ t - 6 = 3 ∨ t - 6 = 4 ∨ t - 6 = 5 ∨ t - 6 = 6 := by omega
      rcases this with z | z | z | z | z | z | z | z | z | z | z | z | z <;> rw [z] <;> decide)
    exact ⟨a, by show ((Rat.divInt (t - 6) 5).den : Int).natAbs < _; omega⟩
  obtain ⟨x, sx, ei⟩ : ∃ x : Rat, (Sz 4 x ∧ XF x) ∧ gIx (.list [enc 0, enc 1, enc (-1), enc v, enc (Rat.divInt (t - 6) 5)]) (.int w) = some (enc x) := by
    have cs : w = 0 ∨ w = 1 ∨ w = 2 ∨ w = 3 ∨ w = 4 := by omega
    rcases cs with rfl | rfl | rfl | rfl | rfl
    · exact ⟨0, ⟨sz_zero.mono (by decide), 1, by decide, by decide, Fit.zero _ _⟩, rfl⟩
    · exact ⟨1, ⟨sz_one.mono (by decide), 1, by decide, by decide, 1, by grind, by decide⟩, rfl⟩
    · exact ⟨-1, ⟨⟨.lit (by decide), .lit (by decide)⟩, 1, by decide, by decide, -1, by rw [Rat.intCast_neg]; show -1 * (1 : Rat) = -(1 : Rat); grind, by decide⟩, rfl⟩
    · exact ⟨v, ⟨(lead3 hv).mono (by decide), 2, by decide, by decide, hv.2.1⟩, rfl⟩
    · exact ⟨_, ⟨sx, xf_five (by omega) (by omega)⟩, rfl⟩
  refine ⟨x, s3, fn_run (n := 1) (m := 0) (G := G__law_x) rfl ?_, sx, g3⟩
  show G__law_x [.val (.dict [])] s = _
  unfold G__law_x sRet
  refine congrArg (Option.map _) (f2_run (a := .list [enc 0, enc 1, enc (-1), enc v, enc (Rat.divInt (t - 6) 5)]) (b := .int w) (s1 := s2) (eLst_run ?_ (small_le (by simp))) (fCall_run (ds := [.dict [], .int 5]) rfl e3) ei)
  refine aCons_run (d := enc 0) (s1 := s) (by simp [eTup, aCons, aNil, fC, small2]; rfl) (aCons_run (d := enc 1) (s1 := s) (by simp [eTup, aCons, aNil, fC, small2]; rfl) (aCons_run (d := enc (-1)) (s1 := s) (by simp [eTup, aCons, aNil, fC, f1, gNeg, small2]; rfl) (aCons_run (d := enc v) (s1 := s1) (fCall_run (ds := [.dict []]) rfl e1) (aCons_run (FL := aNil) (fCall_run (ds := [.int (t - 6), .int 5]) (aCons_run (f2_run (a := .int t) (b := .int 6) (fCall_run (ds := [.dict [], .int 13]) rfl e2) rfl (by simp only [gSubI, gI, if_true])) rfl) e4) rfl))))
noncomputable def sumsR (x : Rat) : List Rat → Rat → Rat → List Rat
  | [], _, _ => []
  | r :: l, t, p => (t + r * p) :: sumsR x l (t + r * p) (p * x)
theorem sums_len (x : Rat) : ∀ (l : List Rat) (t p : Rat), (sumsR x l t p).length = l.length
  | [], _, _ => rfl
  | r :: l, t, p => by simp [sumsR, sums_len x l]
theorem fit_pw {M B : Nat} {x : Rat} (h : Fit M B x) {p : Rat} {j : Nat} (hp : Fit (M ^ j) (B ^ j) p) : Fit (M ^ (j + 1)) (B ^ (j + 1)) (p * x) := by
  rw [Nat.pow_succ, Nat.pow_succ]; exact hp.mul h
theorem fit_lift {M B j N : Nat} {p : Rat} (hp : Fit (M ^ j) (B ^ j) p) (hj : j ≤ N) (hMB : M ≤ B) : Fit (M ^ N) (B ^ N) p := by
  have h := hp.scale (M ^ (N - j))
  rw [← Nat.pow_add, show j + (N - j) = N by omega] at h
  refine h.mono (Nat.le_trans (Nat.mul_le_mul_left _ (Nat.pow_le_pow_left hMB _)) ?_)
  rw [← Nat.pow_add, show j + (N - j) = N by omega]
  exact Nat.le_refl _
theorem gt_nx (a n : List O) (i : Nat) : gt (nx a n) i = if i < n.length - 1 then stp (gt a (i + 1)) (gt n (i + 1)) (gt n i) else none := by
  show (nx a n).getD i none = _
  unfold nx
  rw [List.getD_eq_getElem?_getD, List.getElem?_map]
  by_cases h : i < n.length - 1
  · rw [if_pos h, List.getElem?_range h]; rfl
  · rw [if_neg h, List.getElem?_eq_none (by simpa using h)]; rfl
theorem stp_some {a x y : O} {r : Rat} (h : stp a x y = some r) : ∃ a' x' y', a = some a' ∧ x = some x' ∧ y = some y' ∧ x' ≠ y' ∧ r = a' + 1 / (x' - y') := by
  cases a with
  | none => cases h
  | some a =>
    cases x with
    | none => cases h
    | some x =>
      cases y with
      | none => cases h
      | some y =>
        by_cases e : x = y
        · subst e; rw [stp_eq] at h; cases h
        · rw [stp_ne e] at h; cases h; exact ⟨a, x, y, rfl, rfl, rfl, e, rfl⟩
noncomputable def Col (S : Nat → Rat) (c : Nat) (l : List O) : Prop := ∀ i r, gt l i = some r → i < l.length ∧ Okk S c i ∧ r = Vl S c i
theorem col_next {S : Nat → Rat} {c : Nat} {a n : List O} (ha : Col S c a) (hn : Col S (c + 1) n) : Col S (c + 2) (nx a n) := fun i r h => by
  rw [gt_nx] at h
  split at h
  · rename_i hi
    obtain ⟨a', x', y', e1, e2, e3, ne, rfl⟩ := stp_some h
    obtain ⟨_, o1, rfl⟩ := ha _ _ e1
    obtain ⟨_, o2, rfl⟩ := hn _ _ e2
    obtain ⟨_, o3, rfl⟩ := hn _ _ e3
    exact ⟨by rw [nx_len]; exact hi, ⟨o1, o2, o3, ne⟩, rfl⟩
  · cases h
theorem col_zs (S : Nat → Rat) (m : Nat) : Col S 0 (zs m) := fun i r h => by
  by_cases hi : i < m
  · rw [gt_zs hi] at h; cases h; exact ⟨by unfold zs; rw [List.length_replicate]; exact hi, trivial, rfl⟩
  · unfold gt zs at h
    rw [List.getD_eq_getElem?_getD, List.getElem?_replicate, if_neg hi] at h; cases h
noncomputable def somes (l : List Rat) : List O := l.map some
theorem somes_len (l : List Rat) : (somes l).length = l.length := List.length_map ..
theorem gt_somes {l : List Rat} {i : Nat} (h : i < l.length) : gt (somes l) i = some (co l i) := by
  unfold gt somes co
  rw [List.getD_eq_getElem?_getD, List.getElem?_map, List.getElem?_eq_getElem h, List.getD_eq_getElem?_getD, List.getElem?_eq_getElem h]; rfl
theorem col_somes (l : List Rat) : Col (co l) 1 (somes l) := fun i r h => by
  by_cases hi : i < l.length
  · rw [gt_somes hi] at h; cases h; exact ⟨by rw [somes_len]; exact hi, trivial, rfl⟩
  · unfold gt somes at h
    rw [List.getD_eq_getElem?_getD, List.getElem?_eq_none (by simpa using hi)] at h; cases h
theorem enL_somes (l : List Rat) : enL (somes l) = .list (l.map enc) := by unfold enL somes; rw [List.map_map]; rfl
theorem pow_le2 {b k X : Nat} (h : X ≤ 2 ^ b) : X ^ k ≤ 2 ^ (b * k) := by rw [Nat.pow_mul]; exact Nat.pow_le_pow_left h k
section
variable {M B Mx N : Nat} {x : Rat}
theorem sums_fitG (hx : Fit Mx 64 x) (hMx : Mx ≤ 64) : ∀ (l : List Rat) (t p : Rat) (j : Nat), (∀ r ∈ l, Fit M B r) → Fit (M * Mx ^ N) (j * (B * 64 ^ N)) t → Fit (Mx ^ j) (64 ^ j) p → j + l.length ≤ N → ∀ r ∈ sumsR x l t p, Fit (M * Mx ^ N) (N * (B * 64 ^ N)) r
  | [], _, _, _, _, _, _, _, r, hr => nomatch hr
  | r0 :: l, t, p, j, hl, ht, hp, hj, r, hr => by
    rw [List.length_cons] at hj
    have h1 : Fit (M * Mx ^ N) ((j + 1) * (B * 64 ^ N)) (t + r0 * p) := by
      rw [Nat.add_mul, Nat.one_mul]
      exact ht.add ((hl r0 List.mem_cons_self).mul (fit_lift hp (by omega) hMx))
    rcases List.mem_cons.mp hr with rfl | hr
    · exact h1.mono (Nat.mul_le_mul_right _ (by omega))
    · exact sums_fitG hx hMx l _ _ (j + 1) (fun q hq => hl q (List.mem_cons_of_mem _ hq)) h1 (fit_pw hx hp) (by omega) r hr
theorem sums_loopG {hd : D} (s : Sx) (hx : Fit Mx 64 x) (hMx : Mx ≤ 64) (sx : Sz 500 x) (s1 : ∀ r, Fit M B r → Sz 500 r) (s2 : ∀ r, Fit (Mx ^ N) (64 ^ N) r → Sz 500 r) (s3 : ∀ r, Fit (M * Mx ^ N) (N * (B * 64 ^ N)) r → Sz 500 r) :
    ∀ (l : List Rat) (t p : Rat) (j : Nat) (done : List D) (c5 : Ce), (∀ r ∈ l, Fit M B r) → Fit (M * Mx ^ N) (j * (B * 64 ^ N)) t → Fit (Mx ^ j) (64 ^ j) p → j + l.length ≤ N → done.length + l.length < 500 →
    ∃ c3 c4 c5', forD (.one 5) B_sums_of_1 (l.map enc) [.val hd, .val (enc x), .own done, .val (enc t), .val (enc p), c5] s = some (.next [.val hd, .val (enc x), .own (done ++ (sumsR x l t p).map enc), c3, c4, c5'], s)
  | [], t, p, j, done, c5, _, _, _, _, _ => ⟨.val (enc t), .val (enc p), c5, by simp [sumsR, forD]⟩
  | r0 :: l, t, p, j, done, c5, hl, ht, hp, hj, h3 => by
    rw [List.length_cons] at hj h3
    have fr := hl r0 List.mem_cons_self
    have fp := fit_lift hp (N := N) (by omega) hMx
    have fm := fr.mul fp
    have h1 : Fit (M * Mx ^ N) ((j + 1) * (B * 64 ^ N)) (t + r0 * p) := by
      rw [Nat.add_mul, Nat.one_mul]
      exact ht.add fm
    have sr := s1 _ fr
    have sp := s2 _ fp
    have sm := s3 _ (fm.mono (by rw [← Nat.one_mul (B * 64 ^ N)]; exact Nat.mul_le_mul (by omega) (by rw [Nat.one_mul]; exact Nat.le_refl _)))
    have st := s3 _ (ht.mono (Nat.mul_le_mul_right _ (by omega)))
    have e1 := times_enc (n := 2000) s (by decide) (sr.mono (by decide)) (sp.mono (by decide))
    have e2 := plus_enc (n := 2000) s (by decide) (st.mono (by decide)) (sm.mono (by decide))
    have e3 := times_enc (n := 2000) s (by decide) (sp.mono (by decide)) (sx.mono (by decide))
    obtain ⟨c3, c4, c5', e4⟩ := sums_loopG (hd := hd) s hx hMx sx s1 s2 s3 l (t + r0 * p) (p * x) (j + 1) (done ++ [enc (t + r0 * p)]) (.val (enc r0)) (fun q hq => hl q (List.mem_cons_of_mem _ hq)) h1 (fit_pw hx hp) (by omega) (by simp; omega)
    refine ⟨c3, c4, c5', forD_cons (δ1 := [.val hd, .val (enc x), .own done, .val (enc t), .val (enc p), .val (enc r0)]) (δ2 := [.val hd, .val (enc x), .own (done ++ [enc (t + r0 * p)]), .val (enc (t + r0 * p)), .val (enc (p * x)), .val (enc r0)]) (s1 := s) rfl ?_ (by rw [e4]; simp [sumsR])⟩
    exact sSeq_n (sSet_run (fCall_run (ds := [enc t, enc (r0 * p)]) (aCons_run rfl (aCons_run (FL := aNil) (fCall_run (ds := [enc r0, enc p]) rfl e1) rfl)) e2)) (sSeq_n (sSet_run (fCall_run (ds := [enc p, enc x]) rfl e3)) (sApp_run (v := enc (t + r0 * p)) (s1 := s) (xs := done) rfl rfl (by omega)))
end
theorem fine_col {S : Nat → Rat} {N : Nat} (hs : ∀ c i, 1 ≤ c → i + c ≤ N → Okk S c i → Sz 1990 (Vl S c i)) : ∀ (k c : Nat) (a n : List O), Col S c a → Col S (c + 1) n → (1 ≤ c → a.length + c = N + 1) → n.length + c = N → Fine k a n
  | 0, _, _, _, _, _, _, _ => trivial
  | k + 1, c, a, n, ha, hn, la, ln => ⟨fun i r e => by
      obtain ⟨hi, o, rfl⟩ := ha i r e
      rcases Nat.eq_zero_or_pos c with z | z
      · subst z; exact sz_zero.mono (by decide)
      · exact hs c i z (by have := la z; omega) o, fun i r e => by
      obtain ⟨hi, o, rfl⟩ := hn i r e
      exact hs (c + 1) i (by omega) (by omega) o, by
      by_cases hz : 0 < n.length
      · exact fine_col hs k (c + 1) n (nx a n) hn (col_next ha hn) (fun _ => by omega) (by rw [nx_len]; omega)
      · have n0 : n = [] := List.length_eq_zero_iff.mp (by omega)
        subst n0
        have nz : ∀ (k : Nat) (a b : List O), OkL 1990 a → (∀ i, gt b i = none) → Fine k a b := fun k => by
          induction k with
          | zero => intro _ _ _ _; trivial
          | succ k ih => intro a b h1 h2; exact ⟨h1, (fun i r e => by rw [h2 i] at e; cases e), ih b (nx a b) (fun i r e => by rw [h2 i] at e; cases e) (fun i => by rw [gt_nx]; split <;> first | rfl | (rw [h2, h2]; cases gt a (i + 1) <;> rfl))⟩
        exact nz k [] (nx a []) (fun i r e => by cases e) fun i => rfl⟩
theorem cols_len : ∀ (k : Nat) (a n : List O), (cols k a n).length = k + 1
  | 0, _, _ => rfl
  | k + 1, a, n => by show (cols k n (nx a n)).length + 1 = _; rw [cols_len k]
theorem vl_size2 {S : Nat → Rat} {M B a b K : Nat} (hM : 0 < M) (hF : ∀ j, Fit M B (S j)) (hB : 0 < B) (ha : M ≤ 2 ^ a) (hb : B ≤ 2 ^ b) (hK : K ≤ 12) (hab : a + 4 + (b + 5) * (K + 1) < 1990) {c i : Nat} (hc1 : 1 ≤ c) (hk : (c - 1) / 2 ≤ K) (o : Okk S c i) : Sz 1990 (Vl S c i) := by
  have Mq : (M : Rat) ≠ 0 := fun z => by have := Rat.natCast_eq_zero_iff.mp z; omega
  obtain ⟨Z, hZ⟩ := Classical.axiomOfChoice (r := fun (j : Nat) (z : Int) => S j = (z : Rat) / (M : Rat) ∧ z.natAbs ≤ B) fun j => by
    obtain ⟨z, e, l⟩ := hF j
    exact ⟨z, by rw [← e]; grind, l⟩
  have up : ∀ (k X Y : Nat), k ≤ K → X ≤ ((k + 2) * (2 * B)) ^ (k + 1) → Y ≤ M * ((k + 1) * X) → X < 2 ^ 1990 ∧ Y < 2 ^ 1990 := fun k X Y hk hX hY => by
    have h1 : (k + 2) * (2 * B) ≤ 2 ^ (b + 5) := by
      have : (k + 2) * (2 * B) ≤ 16 * (2 * 2 ^ b) := Nat.mul_le_mul (by omega) (Nat.mul_le_mul_left _ hb)
      rw [Nat.pow_add]; omega
    have h2 : X ≤ 2 ^ ((b + 5) * (k + 1)) := Nat.le_trans hX (pow_le2 h1)
    have h3 : Y ≤ 2 ^ a * (2 ^ 4 * 2 ^ ((b + 5) * (k + 1))) := Nat.le_trans hY (Nat.mul_le_mul ha (Nat.mul_le_mul (by omega) h2))
    rw [← Nat.pow_add, ← Nat.pow_add] at h3
    have := Nat.mul_le_mul_left (b + 5) (show k + 1 ≤ K + 1 by omega)
    exact ⟨Nat.lt_of_le_of_lt h2 (Nat.pow_lt_pow_right (by decide) (by omega)), Nat.lt_of_le_of_lt h3 (Nat.pow_lt_pow_right (by decide) (by omega))⟩
  have par : c = 2 * ((c - 1) / 2) + 1 ∨ c = 2 * ((c - 1) / 2) + 2 := by omega
  generalize (c - 1) / 2 = k at par hk
  rcases par with rfl | rfl
  · obtain ⟨p, q, q0, e, bp, bq⟩ := even_size hM (fun j => (hZ j).1) hB (fun j => (hZ j).2) o
    rw [e]
    have w : ((k + 2) * B) ^ (k + 1) ≤ ((k + 2) * (2 * B)) ^ (k + 1) := Nat.pow_le_pow_left (Nat.mul_le_mul_left _ (by omega)) _
    obtain ⟨u1, u2⟩ := up k (((k + 2) * B) ^ (k + 1)) _ hk w (Nat.le_refl _)
    exact szf (Nat.lt_of_le_of_lt bp u1) (Nat.lt_of_le_of_lt bq u2) q0
  · obtain ⟨p, q, q0, e, bq, bp⟩ := odd_size hM (fun j => (hZ j).1) hB (fun j => (hZ j).2) o
    rw [e]
    obtain ⟨u1, u2⟩ := up k (((k + 2) * (2 * B)) ^ (k + 1)) _ hk (Nat.le_refl _) (Nat.le_refl _)
    exact szf (Nat.lt_of_le_of_lt bp u2) (Nat.lt_of_le_of_lt bq u1) q0
structure SO (l : List Rat) : Prop where
  l1 : 1 ≤ l.length
  l24 : l.length ≤ 24
  fit : ∃ M B a b, 0 < M ∧ 0 < B ∧ M ≤ 2 ^ a ∧ B ≤ 2 ^ b ∧ a + 4 + (b + 5) * ((l.length - 1) / 2 + 1) < 1990 ∧ ∀ k, Fit M B (co l k)
theorem SO.fine {l : List Rat} (h : SO l) : Fine (l.length - 1) (zs l.length) (somes l) := by
  obtain ⟨M, B, a, b, M0, B0, M1, B1, hab, hF⟩ := h.fit
  have l24 := h.l24
  refine fine_col (S := co l) (N := l.length) (fun cc i c1 ci o => ?_) (l.length - 1) 0 (zs l.length) (somes l) (col_zs _ _) (col_somes _) (fun h => absurd h (by decide)) (by rw [somes_len]; rfl)
  exact vl_size2 (K := (l.length - 1) / 2) M0 hF B0 M1 B1 (by omega) hab c1 (by omega) o
theorem pw500 {n : Nat} (h : n < 500) : 2 ^ n < 2 ^ 500 := Nat.pow_lt_pow_right (by decide) h
theorem sums_so {l : List Rat} {x : Rat} {m : Nat} (s : Sx) (hl : l.length = m) (m1 : 1 ≤ m) (m12 : m ≤ 12) (h : RR m l) (hx : XF x) : g_sums_of [.list (l.map enc), enc x] s = some (.list ((sumsR x l 0 1).map enc), s) ∧ SO (sumsR x l 0 1) := by
  obtain ⟨Mx, x0, x5, fx6⟩ := hx
  have fx : Fit Mx 64 x := fx6.mono (by decide)
  have main : ∀ (M a b : Nat), 0 < M → M ≤ 2 ^ a → (∀ k, Fit M (2 ^ b) (co l k)) → a + 3 * m < 500 → 4 + b + 6 * m < 500 → a + 3 * m + 4 + (4 + b + 6 * m + 5) * ((m - 1) / 2 + 1) < 1990 → g_sums_of [.list (l.map enc), enc x] s = some (.list ((sumsR x l 0 1).map enc), s) ∧ SO (sumsR x l 0 1) := fun M a b M0 M1 M2 ha hb hab => by
    have mem : ∀ r ∈ l, Fit M (2 ^ b) r := fun r hr => by
      obtain ⟨i, hi, rfl⟩ := List.mem_iff_getElem.mp hr
      have := M2 i
      unfold co at this
      rwa [List.getD_eq_getElem?_getD, List.getElem?_eq_getElem hi] at this
    have p8 : Mx ^ m ≤ 2 ^ (3 * m) := by rw [Nat.pow_mul]; exact Nat.pow_le_pow_left (by omega) m
    have p64 : 64 ^ m = 2 ^ (6 * m) := by rw [Nat.pow_mul]
    have q1 : M * Mx ^ m ≤ 2 ^ (a + 3 * m) := by rw [Nat.pow_add]; exact Nat.mul_le_mul M1 p8
    have q2 : m * (2 ^ b * 64 ^ m) ≤ 2 ^ (4 + b + 6 * m) := by
      rw [Nat.pow_add, Nat.pow_add, Nat.mul_assoc, p64]
      exact Nat.mul_le_mul_right _ (by omega)
    have sx : Sz 500 x := (fx.sz (n := 8) x0 (by omega) (by decide)).mono (by decide)
    obtain ⟨c3, c4, c5, e⟩ := sums_loopG (M := M) (B := 2 ^ b) (Mx := Mx) (N := m) (hd := .list (l.map enc)) s fx (by omega) sx (fun r hr => hr.sz M0 (Nat.lt_of_le_of_lt M1 (pw500 (by omega))) (pw500 (by omega))) (fun r hr => hr.sz (Nat.pow_pos x0) (Nat.lt_of_le_of_lt p8 (pw500 (by omega))) (by rw [p64]; exact pw500 (by omega))) (fun r hr => hr.sz (Nat.mul_pos M0 (Nat.pow_pos x0)) (Nat.lt_of_le_of_lt q1 (pw500 (by omega))) (Nat.lt_of_le_of_lt q2 (pw500 (by omega)))) l 0 1 0 [] .non mem (Fit.zero _ _) ⟨1, by rw [Nat.pow_zero]; grind, by decide⟩ (by omega) (by simp; omega)
    refine ⟨?_, ⟨by rw [sums_len]; omega, by rw [sums_len]; omega, M * Mx ^ m, m * (2 ^ b * 64 ^ m), a + 3 * m, 4 + b + 6 * m, Nat.mul_pos M0 (Nat.pow_pos x0), Nat.mul_pos m1 (Nat.mul_pos (Nat.pow_pos (by decide)) (Nat.pow_pos (by decide))), q1, q2, by rw [sums_len, hl]; exact hab, fun k => co_mem (sums_fitG (N := m) fx (by omega) l 0 1 0 mem (Fit.zero _ _) ⟨1, by rw [Nat.pow_zero]; grind, by decide⟩ (by omega)) (Fit.zero _ _) k⟩⟩
    refine fn_run (n := 2) (m := 4) (G := G_sums_of) rfl ?_
    show G_sums_of [.val (.list (l.map enc)), .val (enc x), .non, .non, .non, .non] s = _
    have t0 : sSetO 2 (oLst aNil) [.val (.list (l.map enc)), .val (enc x), .non, .non, .non, .non] s = some (.next [.val (.list (l.map enc)), .val (enc x), .own [], .non, .non, .non], s) := sSetO_run (oLst_run rfl (small_le (by simp)))
    have t1 : sPar 3 4 (aCons (fC (.tuple [.int 0, .int 1])) (aCons (fC (.tuple [.int 1, .int 1])) aNil)) [.val (.list (l.map enc)), .val (enc x), .own [], .non, .non, .non] s = some (.next [.val (.list (l.map enc)), .val (enc x), .own [], .val (enc 0), .val (enc 1), .non], s) := by
      simp [sPar, aCons, aNil, fC]; exact ⟨rfl, rfl⟩
    have t2 : L_sums_of_2 [.val (.list (l.map enc)), .val (enc x), .own [], .val (enc 0), .val (enc 1), .non] s = some (.next [.val (.list (l.map enc)), .val (enc x), .own ((sumsR x l 0 1).map enc), c3, c4, c5], s) := by
      unfold L_sums_of_2 sFor
      rw [show iSeq (fVar 0) [.val (.list (l.map enc)), .val (enc x), .own [], .val (enc 0), .val (enc 1), .non] s = some (l.map enc, s) from rfl]
      exact e
    unfold G_sums_of
    rw [sSeq_next t0, sSeq_next t1, sSeq_next t2]
    rfl
  by_cases h10 : m ≤ 10
  · obtain ⟨M, M0, M1, M2⟩ := h.2 h10
    refine main M 202 232 M0 M1 M2 (by omega) (by omega) ?_
    have := Nat.mul_le_mul (show 4 + 232 + 6 * m + 5 ≤ 301 by omega) (show (m - 1) / 2 + 1 ≤ 5 by omega)
    omega
  · refine main (2 ^ 24) 24 170 (by decide) (Nat.le_refl _) (h.1 (by omega)) (by omega) (by omega) ?_
    have := Nat.mul_le_mul (show 4 + 170 + 6 * m + 5 ≤ 251 by omega) (show (m - 1) / 2 + 1 ≤ 6 by omega)
    omega

theorem asL_run {k : Nat} {fr : List Nat} {Fi : FI} {T : Tgt} {Ft : FT} {F : FE} {δ : Sl} {s s1 s2 : Sx} {ds xs : List D} (h : Fi δ s = some (ds, s1)) (hs : ds.length ≤ 1000) (hc : compD T Ft F (compDl k fr δ) ds s1 = some (xs, s2)) : asL (fComp k fr Fi T Ft F) δ s = some (.list xs, s2) := by
  unfold asL fComp
  rw [h]
  simp only [Option.bind_some]
  rw [if_pos (small_le hs), hc]; rfl

theorem so_nums {l : List Rat} {m : Nat} (hl : l.length = m) (m1 : 1 ≤ m) (m12 : m ≤ 12) (h : ∀ r ∈ l, NF r) : SO l := by
  obtain ⟨M, M0, M1, M2⟩ := nf_common h
  rw [hl] at M1 M2
  refine ⟨by omega, by omega, M, 2 ^ (30 + 20 * m), 20 * m, 30 + 20 * m, M0, Nat.pow_pos (by decide), M1, Nat.le_refl _, ?_, fun k => co_mem M2 (Fit.zero _ _) k⟩
  rw [hl]
  have := Nat.mul_le_mul (show 30 + 20 * m + 5 ≤ 275 by omega) (show (m - 1) / 2 + 1 ≤ 6 by omega)
  omega
theorem rest_run {n m : Nat} {t : Int} {c3 : Ce} {s : Sx} (m1 : 1 ≤ m) (m12 : m ≤ 12) (h : Good (n + 130) s) : ∃ (l : List Rat) (s' : Sx), sSeq (sSet 3 (fCall g__law_take (aCons (fVar 0) (aCons (fC (.int 4)) aNil))))
    (sSeq (sIf (asB (f2 gEq (fVar 3) (fC (.int 0)))) (sRet (asL C__law_some_sums_2)) sNext)
    (sSeq (sIf (asB (f2 gEq (fVar 3) (fC (.int 1)))) (sRet (asL C__law_some_sums_3)) sNext)
    (sRet (fCall g_sums_of (aCons (fCall g__law_row (aCons (fVar 0) (aCons (fVar 2) aNil))) (aCons (fCall g__law_x (aCons (fVar 0) aNil)) aNil)))))) [.val (.dict []), .val (.int t), .val (.int (m : Int)), c3] s = some (.ret (.list (l.map enc)), s') ∧ SO l ∧ Good n s' := by
  obtain ⟨w, s1, e1, w0, w1, g1⟩ := draw (n := n + 129) h 4 (by decide) (by decide)
  have a1 : sSet 3 (fCall g__law_take (aCons (fVar 0) (aCons (fC (.int 4)) aNil))) [.val (.dict []), .val (.int t), .val (.int (m : Int)), c3] s = some (.next [.val (.dict []), .val (.int t), .val (.int (m : Int)), .val (.int w)], s1) := sSet_run (fCall_run (ds := [.dict [], .int 4]) rfl e1)
  have tst : ∀ k : Int, asB (f2 gEq (fVar 3) (fC (.int k))) [.val (.dict []), .val (.int t), .val (.int (m : Int)), .val (.int w)] s1 = some (decide (w = k), s1) := fun k => asB_r (f2_run (a := .int w) (b := .int k) rfl rfl (gEq_int w k))
  have no : ∀ (k : Int) (G : GS), ¬ w = k → sIf (asB (f2 gEq (fVar 3) (fC (.int k)))) G sNext [.val (.dict []), .val (.int t), .val (.int (m : Int)), .val (.int w)] s1 = some (.next [.val (.dict []), .val (.int t), .val (.int (m : Int)), .val (.int w)], s1) := fun k G hw => sIf_f ((tst k).trans (by rw [decide_eq_false hw])) rfl
  by_cases h0 : w = 0
  · obtain ⟨xs, s2, e2, hx, hl, g2⟩ := compD_gen (T := .one 0) (Ft := fTrue) (F := fCall g__law_number (aCons (fVar 1) aNil)) (δc := [.non, .val (.dict [])]) (fun d => ∃ r, d = enc r ∧ NF r) 5 (fun n s d hg => by
      obtain ⟨r, s', e, sr, g⟩ := number_fit hg
      exact ⟨[.val d, .val (.dict [])], enc r, s', rfl, rfl, fCall_run (ds := [.dict []]) rfl e, ⟨r, rfl, sr⟩, g⟩) (rng 0 m) n s1 (g1.mono (by rw [rng_len]; omega))
    obtain ⟨l, rfl, hl2⟩ := rats hx
    rw [rng_len, List.length_map] at hl
    refine ⟨l, s2, ?_, so_nums hl m1 m12 hl2, g2⟩
    rw [sSeq_next a1]
    exact sSeq_ret (sIf_t ((tst 0).trans (by rw [decide_eq_true h0])) (sRet_run (asL_run (iRange1_nat rfl (by omega)) (by rw [rng_len]; omega) e2)))
  by_cases h1 : w = 1
  · obtain ⟨xs, s2, e2, hx, hl, g2⟩ := compD_in (T := .one 0) (Ft := fTrue) (F := fCall g__law_part (aCons (fC (.int 1)) (aCons (f2 gAdd (fC (.int 1)) (f2 gMulI (fVar 0) (f2 gAdd (fC (.int 1)) (fVar 0)))) aNil))) (δc := [.non]) (fun d => ∃ r, d = enc r ∧ NF r) (fun d => ∃ j : Nat, d = .int (j : Int) ∧ j < m) 0 (fun n s d hd hg => by
      obtain ⟨j, rfl, hj⟩ := hd
      have jj : j * (1 + j) ≤ 12 * 13 := Nat.mul_le_mul (by omega) (by omega)
      have e := part_run (k := 40) (t := 1) (b := ((1 + j * (1 + j) : Nat) : Int)) s (.lit (by decide)) (bt_lt (by omega) (by omega)) (by decide) (by omega)
      rw [num_enc (by omega)] at e
      refine ⟨[.val (.int (j : Int))], _, s, rfl, rfl, fCall_run (ds := [.int 1, .int ((1 + j * (1 + j) : Nat) : Int)]) (aCons_run rfl (aCons_run (FL := aNil) (f2_run (a := .int 1) (b := .int ((j * (1 + j) : Nat) : Int)) rfl (f2_run (a := .int (j : Int)) (b := .int ((1 + j : Nat) : Int)) rfl (f2_run (a := .int 1) (b := .int (j : Int)) rfl rfl (one_add j)) (mul_small (by omega) (by omega))) (one_add _)) rfl)) e, ⟨_, rfl, 1 + j * (1 + j), by omega, by have := p20; omega, ?_⟩, hg⟩
      have := fit_div (T := 1) (B := ((1 + j * (1 + j) : Nat) : Int)) (by omega)
      rw [Int.toNat_natCast] at this
      exact this.mono (by decide)) (rng 0 m) n s1 rng_int (g1.mono (by omega))
    obtain ⟨l, rfl, hl2⟩ := rats hx
    rw [rng_len, List.length_map] at hl
    refine ⟨l, s2, ?_, so_nums hl m1 m12 hl2, g2⟩
    rw [sSeq_next a1, sSeq_next (no 0 _ h0)]
    exact sSeq_ret (sIf_t ((tst 1).trans (by rw [decide_eq_true h1])) (sRet_run (asL_run (iRange1_nat rfl (by omega)) (by rw [rng_len]; omega) e2)))
  · obtain ⟨l, s2, e2, hl, hr, g2⟩ := row_run4 (n := n + 4) m1 m12 (g1.mono (by omega))
    obtain ⟨x, s3, e3, ⟨_, hx⟩, g3⟩ := x_run (n := n) g2
    obtain ⟨e4, so⟩ := sums_so (x := x) s3 hl m1 m12 hr hx
    refine ⟨_, s3, ?_, so, g3⟩
    rw [sSeq_next a1, sSeq_next (no 0 _ h0), sSeq_next (no 1 _ h1)]
    exact sRet_run (fCall_run (ds := [.list (l.map enc), enc x]) (aCons_run (fCall_run (ds := [.dict [], .int (m : Int)]) rfl e2) (aCons_run (FL := aNil) (fCall_run (ds := [.dict []]) rfl e3) rfl)) e4)
theorem some_run {n : Nat} {s : Sx} {t : Int} (h : Good (n + 140) s) : ∃ (l : List Rat) (s' : Sx), g__law_some_sums [.dict [], .int t] s = some (.list (l.map enc), s') ∧ SO l ∧ Good n s' := by
  obtain ⟨m, s1, e1, m1, m12, g1⟩ := places_run (n := n + 137) (t := t) h
  have a1 : sSet 2 (fCall g__law_places (aCons (fVar 0) (aCons (fVar 1) aNil))) [.val (.dict []), .val (.int t), .non, .non] s = some (.next [.val (.dict []), .val (.int t), .val (.int (m : Int)), .non], s1) := sSet_run (fCall_run (ds := [.dict [], .int t]) rfl e1)
  have t1 : asB (f2 gEq (fVar 1) (fC (.int 0))) [.val (.dict []), .val (.int t), .val (.int (m : Int)), .non] s1 = some (decide (t = 0), s1) := asB_r (f2_run (a := .int t) (b := .int 0) rfl rfl (gEq_int t 0))
  have fin : ∀ (d : D) (s' : Sx), G__law_some_sums [.val (.dict []), .val (.int t), .non, .non] s = some (.ret d, s') → g__law_some_sums [.dict [], .int t] s = some (d, s') := fun d s' hh => fn_run (n := 2) (m := 2) (G := G__law_some_sums) rfl hh
  by_cases ht : t = 0
  · obtain ⟨w, s2, e2, w0, w1, g2⟩ := draw (n := n + 136) g1 16 (by decide) (by decide)
    rw [decide_eq_true ht] at t1
    have t2 : asB (f2 gEq (fCall g__law_take (aCons (fVar 0) (aCons (fC (.int 16)) aNil))) (fC (.int 0))) [.val (.dict []), .val (.int t), .val (.int (m : Int)), .non] s1 = some (decide (w = 0), s2) := asB_r (f2_run (a := .int w) (b := .int 0) (fCall_run (ds := [.dict [], .int 16]) rfl e2) rfl (gEq_int w 0))
    by_cases hw : w = 0
    · obtain ⟨j, s3, e3, hj, g3⟩ := draw_nat (n := n + 135) (m := 5) g2 (by decide) (by decide)
      obtain ⟨xs, s4, e4, hx, hl, g4⟩ := compD_gen (T := .one 0) (Ft := fTrue) (F := eTup (aCons (fCall g__law_take (aCons (fVar 1) (aCons (fC (.int 9)) aNil))) (aCons (fC (.int 1)) aNil))) (δc := [.non, .val (.dict [])]) (fun d => ∃ r, d = enc r ∧ Fit 1 8 r) 1 (fun n s d hg => by
        obtain ⟨z, s', e, z0, z1, g⟩ := draw (n := n) hg 9 (by decide) (by decide)
        exact ⟨[.val d, .val (.dict [])], .tuple [.int z, .int 1], s', rfl, rfl, eTup_run (aCons_run (fCall_run (ds := [.dict [], .int 9]) rfl e) (aCons_run (FL := aNil) rfl rfl)) (small2 _ _), ⟨(z : Rat), rfl, fit_int (B := 8) (by omega)⟩, g⟩) (rng 0 (20 + j)) n s3 (g3.mono (by rw [rng_len]; omega))
      obtain ⟨l, rfl, hl2⟩ := rats hx
      rw [rng_len, List.length_map] at hl
      refine ⟨l, s4, fin _ _ ?_, ⟨by omega, by omega, 1, 8, 0, 3, by decide, by decide, by decide, by decide, by omega, fun k => co_mem hl2 (Fit.zero _ _) k⟩, g4⟩
      unfold G__law_some_sums
      rw [sSeq_next a1]
      refine sSeq_ret (sIf_t (tAndF_t t1 (t2.trans (by rw [decide_eq_true hw]))) (sRet_run (asL_run (iRange1_nat (f2_run (a := .int 20) (b := .int (j : Int)) rfl (fCall_run (ds := [.dict [], .int 5]) rfl e3) (by simp [gAdd, gAddI, gI])) (by omega)) (by rw [rng_len]; omega) e4)))
    · obtain ⟨l, s3, e3, so, g3⟩ := rest_run (n := n) (t := t) (c3 := .non) m1 m12 (g2.mono (by omega))
      refine ⟨l, s3, fin _ _ ?_, so, g3⟩
      unfold G__law_some_sums
      rw [sSeq_next a1]
      exact sSeq_n (sIf_f (tAndF_t t1 (t2.trans (by rw [decide_eq_false hw]))) rfl) e3
  · obtain ⟨l, s3, e3, so, g3⟩ := rest_run (n := n) (t := t) (c3 := .non) m1 m12 (g1.mono (by omega))
    refine ⟨l, s3, fin _ _ ?_, so, g3⟩
    rw [decide_eq_false ht] at t1
    unfold G__law_some_sums
    rw [sSeq_next a1]
    refine sSeq_n (sIf_f (s' := s1) ?_ rfl) e3
    unfold tAndF
    rw [t1]; rfl

theorem big_all : ∀ l : List Rat, ∃ n, AllN n (l.map enc)
  | [] => ⟨0, fun d hd => nomatch hd⟩
  | r :: l => by
    obtain ⟨n, h⟩ := big_all l
    have p1 : r.num.natAbs < 2 ^ (r.num.natAbs) := Nat.lt_two_pow_self
    have p2 : r.den < 2 ^ r.den := Nat.lt_two_pow_self
    refine ⟨max n (r.num.natAbs + r.den), fun d hd => ?_⟩
    rcases List.mem_cons.mp hd with rfl | hd
    · refine Sz.isN (r := r) ⟨Bt.mono (n := r.num.natAbs) p1 (by omega), Bt.mono (n := r.den) (by show (r.den : Int).natAbs < _; rw [Int.natAbs_natCast]; exact p2) (by omega)⟩
    · obtain ⟨p, q, e, h1, h2, h3, h4⟩ := h d hd
      exact ⟨p, q, e, h1, h2, h3.mono (by omega), h4.mono (by omega)⟩

theorem sm_none (k : Nat) (s : Sx) : r__law_same (k + 1) [.none, .none] s = some (.bool true, s) := by
  simp [r__law_same, mkFn, G__law_same, sSeq, sIf, asB, f2, fVar, fC, gIs, sRet]
theorem sm_encO (k : Nat) (o : O) (s : Sx) : r__law_same (k + 2) [encO o, encO o] s = some (.bool true, s) := by
  cases o with
  | none => exact sm_none (k + 1) s
  | some r => exact same_pair k _ _ s
theorem sm_enL (k : Nat) {l : List O} (h : l.length ≤ 1000) (s : Sx) : r__law_same (k + 3) [enL l, enL l] s = some (.bool true, s) :=
  sm_list (k := k + 2) (fun d hd s => by obtain ⟨o, _, rfl⟩ := List.mem_map.mp hd; exact sm_encO k o s) (by simpa using h) s
theorem sm_cols {c : List (List O)} (h : ∀ l ∈ c, l.length ≤ 1000) (hb : c.length ≤ 1000) (s : Sx) : g__law_same [.list (c.map enL), .list (c.map enL)] s = some (.bool true, s) :=
  sm_list (k := 5) (fun d hd s => by obtain ⟨l, hl, rfl⟩ := List.mem_map.mp hd; exact sm_enL 2 (h l hl) s) (by simpa using hb) s
theorem cols_small : ∀ (k : Nat) (a n : List O), n.length ≤ 100 → ∀ l ∈ cols k a n, l.length ≤ 100
  | 0, _, n, h, l, hl => by simp only [cols, List.mem_singleton] at hl; subst hl; exact h
  | k + 1, a, n, h, l, hl => by
    rcases List.mem_cons.mp hl with rfl | hl
    · exact h
    · exact cols_small k n (nx a n) (by rw [nx_len]; omega) l hl
theorem encO_somes (l : List Rat) : (somes l).map encO = l.map enc := by unfold somes; rw [List.map_map]; rfl
theorem all_flat {c : List (List O)} (h : ∀ l ∈ c, l.length ≤ 100) : (c.map enL).all flat = true := by
  refine List.all_eq_true.mpr fun d hd => ?_
  obtain ⟨l, hl, rfl⟩ := List.mem_map.mp hd
  show (noLists (l.map encO) && decide ((l.map encO).length ≤ 100)) = true
  rw [noLs_encO, List.length_map, decide_eq_true (h l hl)]; rfl
theorem body_run {n : Nat} {s : Sx} {t : Int} {c3 c4 c5 : Ce} (h : Good (n + 141) s) (hc : noOwC c3 = true ∧ noOwC c4 = true ∧ noOwC c5 = true) : ∃ d3 d4 d5 s', B_law_1 [.non, .val (.dict []), .val (.int t), c3, c4, c5, .non, .non] s = some (.next [.non, .val (.dict []), .val (.int t), .val d3, .val d4, .val d5, .non, .non], s') ∧ Good n s' := by
  obtain ⟨l, s1, e1, so, g1⟩ := some_run (n := n + 1) (t := t) h
  obtain ⟨w, s2, e2, w0, w1, g2⟩ := draw (n := n) g1 3 (by decide) (by decide)
  have l1 := so.l1
  have l24 := so.l24
  have F := so.fine
  have sl := somes_len l
  obtain ⟨N, all⟩ := big_all l
  obtain ⟨hd, hs, a3⟩ : ∃ hd, IsSeq hd (l.map enc) ∧ ∀ c5 c6 c7 d4, sSet 5 (eIf (asB (f2 gEq (fCall g__law_take (aCons (fVar 1) (aCons (fC (.int 3)) aNil))) (fC (.int 0)))) (f1 gTuple (fVar 3)) (f1 gList (fVar 3))) [.non, .val (.dict []), .val (.int t), .val (.list (l.map enc)), .val d4, c5, c6, c7] s1 = some (.next [.non, .val (.dict []), .val (.int t), .val (.list (l.map enc)), .val d4, .val hd, c6, c7], s2) := by
    have c : ∀ c5 c6 c7 d4, asB (f2 gEq (fCall g__law_take (aCons (fVar 1) (aCons (fC (.int 3)) aNil))) (fC (.int 0))) [.non, .val (.dict []), .val (.int t), .val (.list (l.map enc)), .val d4, c5, c6, c7] s1 = some (decide (w = 0), s2) := fun _ _ _ _ => asB_r (f2_run (a := .int w) (b := .int 0) (fCall_run (ds := [.dict [], .int 3]) rfl e2) rfl (gEq_int w 0))
    by_cases hw : w = 0
    · exact ⟨.tuple (l.map enc), .inr rfl, fun c5 c6 c7 d4 => sSet_run (eIf_t ((c c5 c6 c7 d4).trans (by rw [decide_eq_true hw])) rfl)⟩
    · exact ⟨.list (l.map enc), .inl rfl, fun c5 c6 c7 d4 => sSet_run (eIf_f ((c c5 c6 c7 d4).trans (by rw [decide_eq_false hw])) rfl)⟩
  have hs' : IsSeq hd ((somes l).map encO) := by rw [encO_somes]; exact hs
  have e3 := lcolumns_run (n := somes l) s1 (by omega) (by omega) (by rw [sl]; exact F)
  have e4 := gL_run (n := somes l) s2 hs' (by omega) (by omega) (by rw [sl]; exact F)
  have e5 := ladder_run (n := somes l) s2 hs' (by omega) (by omega) (by rw [sl]; exact F)
  rw [sl] at e3 e4 e5
  rw [enL_somes] at e3
  have cs : ∀ q ∈ cols (l.length - 1) (zs l.length) (somes l), q.length ≤ 100 := fun q hq => by
    have := cols_small (l.length - 1) (zs l.length) (somes l) (by omega) q hq
    omega
  have cl : (cols (l.length - 1) (zs l.length) (somes l)).length = l.length := by rw [cols_len]; omega
  generalize cols (l.length - 1) (zs l.length) (somes l) = CC at e3 e4 e5 cs cl
  have sm : ∀ s, g__law_same [.list (CC.map enL), .list (CC.map enL)] s = some (.bool true, s) := fun s => sm_cols (fun q hq => by have := cs q hq; omega) (by omega) s
  have kept : ∀ c6 c7 s, asB (f2 gNe (f1 gList (fVar 5)) (fVar 3)) [.non, .val (.dict []), .val (.int t), .val (.list (l.map enc)), .val (.list (CC.map enL)), .val hd, c6, c7] s = some (false, s) := fun c6 c7 s => asB_r (f2_run (a := .list (l.map enc)) (b := .list (l.map enc)) (f1_run (a := hd) rfl hs.lst) rfl (gNe_list_self all))
  have blk : sBlk 6 7 gL_ladder (aCons (fVar 5) aNil) (tOrF (tNotF (asT (fCall g__law_same (aCons (fVar 6) (aCons (fVar 4) aNil))))) (asB (f2 gNe (f1 gList (fVar 5)) (fVar 3)))) [.non, .val (.dict []), .val (.int t), .val (.list (l.map enc)), .val (.list (CC.map enL)), .val hd, .non, .non] s2 = some (.next [.non, .val (.dict []), .val (.int t), .val (.list (l.map enc)), .val (.list (CC.map enL)), .val hd, .non, .non], s2) := by
    have ta : aCons (fVar 5) aNil [.non, .val (.dict []), .val (.int t), .val (.list (l.map enc)), .val (.list (CC.map enL)), .val hd, .non, .non] s2 = some ([hd], s2) := rfl
    have tt : tOrF (tNotF (asT (fCall g__law_same (aCons (fVar 6) (aCons (fVar 4) aNil))))) (asB (f2 gNe (f1 gList (fVar 5)) (fVar 3))) [.non, .val (.dict []), .val (.int t), .val (.list (l.map enc)), .val (.list (CC.map enL)), .val hd, .val (.list (CC.map enL)), .non] s2 = some (false, s2) := tOrF_f (s1 := s2) (tNotF_r (b := true) (asT_r (fCall_run (ds := [.list (CC.map enL), .list (CC.map enL)]) rfl (sm s2)))) (kept _ _ s2)
    have ck : ((CC.map enL).all flat && (decide ((CC.map enL).length ≤ 100) && (List.all [Ce.non, .val (.dict []), .val (.int t), .val (.list (l.map enc)), .val (.list (CC.map enL)), .val hd, .non, .non] noOwC && (decide (6 ≠ 7) && (decide (6 < 8) && decide (7 < 8)))))) = true := by
      rw [all_flat cs, List.length_map, decide_eq_true (show CC.length ≤ 100 by omega)]; rfl
    unfold sBlk
    rw [ta]
    simp only [Option.bind_some, e4]
    refine (if_pos ck).trans ?_
    show (((tOrF (tNotF (asT (fCall g__law_same (aCons (fVar 6) (aCons (fVar 4) aNil))))) (asB (f2 gNe (f1 gList (fVar 5)) (fVar 3)))) [.non, .val (.dict []), .val (.int t), .val (.list (l.map enc)), .val (.list (CC.map enL)), .val hd, .val (.list (CC.map enL)), .non] s2).bind _) = _
    rw [tt]; rfl
  refine ⟨.list (l.map enc), .list (CC.map enL), hd, s2, ?_, g2⟩
  unfold B_law_1
  refine sSeq_n (sSet_run (fCall_run (ds := [.dict [], .int t]) rfl e1)) (sSeq_n (sSet_run (fCall_run (ds := [.list (l.map enc)]) rfl e3)) (sSeq_n (a3 _ _ _ _) (sSeq_n blk (sIf_f (s' := s2) ?_ rfl))))
  exact tOrF_f (s1 := s2) (tNotF_r (b := true) (asT_r (fCall_run (ds := [.list (CC.map enL), .list (CC.map enL)]) (aCons_run (fCall_run (ds := [hd]) rfl e5) (aCons_run (FL := aNil) rfl rfl)) (sm s2)))) (kept _ _ s2)
theorem law_run : ∀ cells : List Int, 0 < cells.length → cells.length ≤ 63 → ∃ s', G_law d_law (cells, 0) = some (.ret (.bool true), s') := fun cells h0 h1 => by
  have g0 : Good (141 * 5) ((cells, 0) : Sx) := ⟨h0, h1, (by show (0 : Int) ≤ 0; decide), (by show (0 : Int) + ((141 * 5 : Nat) : Int) < 1000000; decide)⟩
  obtain ⟨δ', s1, e1, x2, x3, x4, x5, hδ, _, g1⟩ := forD_run (T := .one 2) (G := B_law_1) (fun k δ s => ∃ x2 x3 x4 x5, δ = [.non, .val (.dict []), x2, x3, x4, x5, .non, .non] ∧ (noOwC x3 = true ∧ noOwC x4 = true ∧ noOwC x5 = true) ∧ Good (141 * k) s) (rng 0 5) d_law (cells, 0) ⟨.non, .non, .non, .non, rfl, ⟨rfl, rfl, rfl⟩, by rw [rng_len]; exact g0⟩ (fun k d δ s hd x__147 => by
    obtain ⟨x2, x3, x4, x5, hδ, hn, hg⟩ := x__147
    subst hδ
    obtain ⟨j, rfl, _⟩ := rng_int d hd
    obtain ⟨d3, d4, d5, s', e, g⟩ := body_run (n := 141 * k) (t := (j : Int)) (c3 := x3) (c4 := x4) (c5 := x5) (hg.mono (by omega)) hn
    exact ⟨[.non, .val (.dict []), .val (.int (j : Int)), x3, x4, x5, .non, .non], _, s', rfl, e, _, _, _, _, rfl, ⟨rfl, rfl, rfl⟩, g⟩)
  subst hδ
  refine ⟨s1, ?_⟩
  unfold G_law
  refine sSeq_n (δ1 := [.non, .val (.dict []), x2, x3, x4, x5, .non, .non]) (s1 := s1) ?_ rfl
  unfold L_law_2 sFor
  rw [iRange1_nat (n := 5) (s' := (cells, 0)) rfl (by decide)]
  exact e1

theorem ok_law {f : Addr} {fd : FuncData} (F : Fun K "law" "law" s_law f fd) (hb : ∃ f fd, FnOk P w K mg base CX0 1 f fd ["_law_script"] (spBegin K) ∧ mg "_law_begin" = some (.ref f) ∧ PySem.W.keepIn K (.ref f) = true ∧ Binds K fd ["_law_script"] []) (h_ladder : Cal P w K mg base "ladder" ["sums"] 8 g_ladder) (h__law_take : Cal P w K mg base "_law_take" ["_law_state", "_law_many"] 1 g__law_take) (h__law_same : Cal P w K mg base "_law_same" ["_law_found", "_law_due"] 7 g__law_same) (h__law_columns : Cal P w K mg base "_law_columns" ["_law_sums"] 4 g__law_columns) (h__law_some_sums : Cal P w K mg base "_law_some_sums" ["_law_state", "_law_turn"] 7 g__law_some_sums) (hL_ladder : CalL P w K mg base "ladder" ["sums"] 8 gL_ladder) (n_list : mg "list" = none) (n_range : mg "range" = none) (n_tuple : mg "tuple" = none)
    (run : ∀ cells : List Int, 0 < cells.length → cells.length ≤ 63 → ∃ s', G_law d_law (cells, 0) = some (.ret (.bool true), s')) : FnOk P w K mg base CX0 9 f fd ["_law_script"] (spLaw K) := by
  obtain ⟨fb, fdb, Gb, mb, kb, bb⟩ := hb
  have nd := sc_law.nd
  refine F.ok sc_law (fun vs H Q E x__148 => by obtain ⟨a, ns, e, _⟩ := x__148; subst e; rfl) (fun cdv A outer s H vs Q E hr x__149 => ?_)
  obtain ⟨a, ns, e, sq, hl, q⟩ := x__149
  subst e
  refine ⟨_, pss_cons (ps_set (i := 1) nd rfl (by first | exact Or.inl rfl | exact Or.inr rfl) (pe_call Gb (hr.mono (by decide)) rfl mb kb bb .nil pass0 (pa_cons (pv 0) pa_nil)))
    (DSs.any ((dss_cons (ds_for (di_range1 n_range de_int) (dg_name (i := 2) nd) (dss_cons (ds_set (i := 3) nd (de_cal h__law_some_sums hr (da_cons (dv 1) (da_cons (dv 2) da_nil))))
      (dss_cons (ds_set (i := 4) nd (de_cal h__law_columns hr (da_cons (dv 3) da_nil)))
      (dss_cons (ds_set (i := 5) nd (de_if (dt_cmp (deq hr.units) (de_cal h__law_take hr (da_cons (dv 1) (da_cons de_int da_nil))).w (de_int).w (nomark _)) (de_t1 dc_tuple (by first | rfl | decide +kernel) n_tuple (dv 3).w) (de_t1 dc_list (by first | rfl | decide +kernel) n_list (dv 3).w)))
      (dss_blk (i := 6) (j := 7) (bl_a nd hL_ladder hr (da_cons (dv 5) da_nil)) (bl_b (dw_or (dt_not (dt_tru (de_cal h__law_same hr (da_cons (dv 6) (da_cons (dv 4) da_nil))).w (fun _ => rfl))) (dw_or1 (dt_cmp (dne hr.units) (de_t1 dc_list (by first | rfl | decide +kernel) n_list (dv 5).w).w (dv 3).w (nomark _)))).t (dss_one (ds_ret de_bl))) (bl_c nd (pv 6) (pv 7) (pv 7)) (bl_d (pv 6))
      (dss_one (ds_if (dw_or (dt_not (dt_tru (de_cal h__law_same hr (da_cons (de_cal h_ladder hr (da_cons (dv 5) da_nil)) (da_cons (dv 4) da_nil))).w (fun _ => rfl))) (dw_or1 (dt_cmp (dne hr.units) (de_t1 dc_list (by first | rfl | decide +kernel) n_list (dv 5).w).w (dv 3).w (nomark _)))).t (dss_one (ds_ret de_bl)) dss_nil)))))))
      (dss_one (ds_ret de_bl))) : DSs _ _ G_law)), ?_⟩
  refine ⟨_, rfl, a, ns, rfl, sq, hl, fun st c H' same h1 h2 => ?_⟩
  obtain ⟨s', hrun⟩ := run (beginCells ns) (begin_len ns hl).1 (begin_len ns hl).2
  refine ⟨some (st, c), [], [], d_law, (beginCells ns, 0), _, s', Al.repS (.non (.val (.st rfl) (.non (.non (.non (.non (.non (.non .nil)))))))) (fun q hq => nomatch hq) (fun b o eb _ => same b o eb), (fun a c h => by cases h; exact ⟨h1, h2⟩), hrun, fun v H2 x S r => by cases r; exact q H2⟩
end
theorem all_mk {l : PySem.W.OpenLaw} {w : World} {K : PySem.W.Frag} {h : Heap} {mg : Str → Option Value} {fa : Addr} (X : K.In h) (G : h.Ns mainGlobals mg) (hfa : mg "law" = some (.ref fa))
    {t_GREAT_BITS : Nat}
    {p_NOUGHT : Addr} {q_NOUGHT : Option Addr} {n_NOUGHT : Nat} {w_NOUGHT : Array (Option Value)} {t0_NOUGHT : Nat} {t1_NOUGHT : Nat}
    {p_UNIT : Addr} {q_UNIT : Option Addr} {n_UNIT : Nat} {w_UNIT : Array (Option Value)} {t0_UNIT : Nat} {t1_UNIT : Nat}
    (d0 : FD K "greatest_divisor" s_greatest_divisor)
    (d1 : FD K "leapt" s_leapt)
    (d2 : FD K "number" s_number)
    (d3 : FD K "plus" s_plus)
    (d4 : FD K "minus" s_minus)
    (d5 : FD K "summed" s_summed)
    (d6 : FD K "times" s_times)
    (d7 : FD K "over" s_over)
    (d8 : FD K "sums_of" s_sums_of)
    (d9 : FD K "ladder" s_ladder)
    (d10 : FD K "next_column" s_next_column)
    (d11 : FD K "step_up" s_step_up)
    (d12 : FD K "_law_begin" s__law_begin)
    (d13 : FD K "_law_take" s__law_take)
    (d14 : FD K "_law_same" s__law_same)
    (d15 : FD K "_law_part" s__law_part)
    (d16 : FD K "_law_plus" s__law_plus)
    (d17 : FD K "_law_minus" s__law_minus)
    (d18 : FD K "_law_times" s__law_times)
    (d19 : FD K "_law_over" s__law_over)
    (d20 : FD K "_law_number" s__law_number)
    (d21 : FD K "_law_small" s__law_small)
    (d22 : FD K "_law_trimmed" s__law_trimmed)
    (d23 : FD K "_law_series" s__law_series)
    (d24 : FD K "_law_two_polys" s__law_two_polys)
    (d25 : FD K "_law_any" s__law_any)
    (d26 : FD K "_law_row" s__law_row)
    (d27 : FD K "_law_rung" s__law_rung)
    (d28 : FD K "_law_columns" s__law_columns)
    (d29 : FD K "_law_places" s__law_places)
    (d30 : FD K "_law_x" s__law_x)
    (d31 : FD K "_law_some_sums" s__law_some_sums)
    (d32 : FD K "law" s_law)
    (z_abs : PySem.W.nsIn K mainGlobals "abs" = some none)
    (z_all : PySem.W.nsIn K mainGlobals "all" = some none)
    (z_bool : PySem.W.nsIn K mainGlobals "bool" = some none)
    (z_divmod : PySem.W.nsIn K mainGlobals "divmod" = some none)
    (z_int : PySem.W.nsIn K mainGlobals "int" = some none)
    (z_isinstance : PySem.W.nsIn K mainGlobals "isinstance" = some none)
    (z_len : PySem.W.nsIn K mainGlobals "len" = some none)
    (z_list : PySem.W.nsIn K mainGlobals "list" = some none)
    (z_min : PySem.W.nsIn K mainGlobals "min" = some none)
    (z_range : PySem.W.nsIn K mainGlobals "range" = some none)
    (z_str : PySem.W.nsIn K mainGlobals "str" = some none)
    (z_tuple : PySem.W.nsIn K mainGlobals "tuple" = some none)
    (z_zip : PySem.W.nsIn K mainGlobals "zip" = some none)
    (y_GREAT_BITS : PySem.W.nsIn K mainGlobals "GREAT_BITS" = some (some (.int 2000 t_GREAT_BITS)))
    (y_NOUGHT : PySem.W.nsIn K mainGlobals "NOUGHT" = some (some (.ref p_NOUGHT))) (x_NOUGHT : K.lookup p_NOUGHT = some ⟨.type "tuple", q_NOUGHT, .seq #[.int 0 t0_NOUGHT, .int 1 t1_NOUGHT] n_NOUGHT, w_NOUGHT⟩)
    (y_UNIT : PySem.W.nsIn K mainGlobals "UNIT" = some (some (.ref p_UNIT))) (x_UNIT : K.lookup p_UNIT = some ⟨.type "tuple", q_UNIT, .seq #[.int 1 t0_UNIT, .int 1 t1_UNIT] n_UNIT, w_UNIT⟩) :
    ∃ fd : FuncData, (∀ (s : Shared) (v : Value), BindsTo s fd ⟨[v], []⟩ [("_law_script", v)]) ∧ ∀ base : Heap, K.In base → base.Ns mainGlobals mg → FnOk l.prog w K mg base CX0 9 fa fd ["_law_script"] (spLaw K) := by
  cases d32 with
  | @mk fL od an sl oc kV dc pm cd ct aL lL cL kL =>
  have e := hfa.symm.trans (PySem.W.mg_of X G aL)
  cases e
  have n_abs := PySem.W.mg_none_of X G z_abs
  have n_all := PySem.W.mg_none_of X G z_all
  have n_bool := PySem.W.mg_none_of X G z_bool
  have n_divmod := PySem.W.mg_none_of X G z_divmod
  have n_int := PySem.W.mg_none_of X G z_int
  have n_isinstance := PySem.W.mg_none_of X G z_isinstance
  have n_len := PySem.W.mg_none_of X G z_len
  have n_list := PySem.W.mg_none_of X G z_list
  have n_min := PySem.W.mg_none_of X G z_min
  have n_range := PySem.W.mg_none_of X G z_range
  have n_str := PySem.W.mg_none_of X G z_str
  have n_tuple := PySem.W.mg_none_of X G z_tuple
  have n_zip := PySem.W.mg_none_of X G z_zip
  have c_GREAT_BITS : Cst K mg "GREAT_BITS" (.int 2000) := ⟨fun hK hm hg => de_modI (by rw [hm]; exact PySem.W.mg_of X G y_GREAT_BITS) hg (by decide +kernel)⟩
  have c_NOUGHT : Cst K mg "NOUGHT" (.tuple [.int 0, .int 1]) := ⟨fun hK hm hg => de_mod (vs := [.int (0), .int (1)]) (by rw [hm]; exact PySem.W.mg_of X G y_NOUGHT) (by rw [hK]; exact ⟨_, _, _, x_NOUGHT, rfl, rfl, (by show 2 ≤ sizeLine; decide), (.cons ⟨_, rfl⟩ (.cons ⟨_, rfl⟩ .nil))⟩) (fun _ _ _ => (.cons (.int _) (.cons (.int _) .nil))) hg (by decide +kernel)⟩
  have c_UNIT : Cst K mg "UNIT" (.tuple [.int 1, .int 1]) := ⟨fun hK hm hg => de_mod (vs := [.int (1), .int (1)]) (by rw [hm]; exact PySem.W.mg_of X G y_UNIT) (by rw [hK]; exact ⟨_, _, _, x_UNIT, rfl, rfl, (by show 2 ≤ sizeLine; decide), (.cons ⟨_, rfl⟩ (.cons ⟨_, rfl⟩ .nil))⟩) (fun _ _ _ => (.cons (.int _) (.cons (.int _) .nil))) hg (by decide +kernel)⟩
  have i_greatest_divisor := FD.is X G d0
  have i_leapt := FD.is X G d1
  have i_number := FD.is X G d2
  have i_plus := FD.is X G d3
  have i_minus := FD.is X G d4
  have i_summed := FD.is X G d5
  have i_times := FD.is X G d6
  have i_over := FD.is X G d7
  have i_sums_of := FD.is X G d8
  have i_ladder := FD.is X G d9
  have i_next_column := FD.is X G d10
  have i_step_up := FD.is X G d11
  have i__law_begin := FD.is X G d12
  have i__law_take := FD.is X G d13
  have i__law_same := FD.is X G d14
  have i__law_part := FD.is X G d15
  have i__law_plus := FD.is X G d16
  have i__law_minus := FD.is X G d17
  have i__law_times := FD.is X G d18
  have i__law_over := FD.is X G d19
  have i__law_number := FD.is X G d20
  have i__law_small := FD.is X G d21
  have i__law_trimmed := FD.is X G d22
  have i__law_series := FD.is X G d23
  have i__law_two_polys := FD.is X G d24
  have i__law_any := FD.is X G d25
  have i__law_row := FD.is X G d26
  have i__law_rung := FD.is X G d27
  have i__law_columns := FD.is X G d28
  have i__law_places := FD.is X G d29
  have i__law_x := FD.is X G d30
  have i__law_some_sums := FD.is X G d31
  refine ⟨PySem.W.fnOf "law" "law" (defArgs s_law) (defBody s_law) (defScope s_law) .none kV dc pm an cd ct, fun s v => .of_eq rfl, fun base _ _ => ?_⟩
  have h_leapt : Cal l.prog w K mg base "leapt" ["one", "other"] 1 g_leapt := ok_leapt i_leapt
  have h_greatest_divisor : Cal l.prog w K mg base "greatest_divisor" ["one", "other"] 2 g_greatest_divisor := ok_greatest_divisor i_greatest_divisor h_leapt n_abs c_GREAT_BITS
  have h_number : Cal l.prog w K mg base "number" ["top", "below"] 3 g_number := ok_number i_number h_greatest_divisor
  have h_summed : Cal l.prog w K mg base "summed" ["top", "below", "other_top", "other_below"] 4 g_summed := ok_summed i_summed h_greatest_divisor h_number
  have h_plus : Cal l.prog w K mg base "plus" ["one", "other"] 5 g_plus := ok_plus i_plus h_summed
  have h_minus : Cal l.prog w K mg base "minus" ["one", "other"] 5 g_minus := ok_minus i_minus h_summed
  have h_times : Cal l.prog w K mg base "times" ["one", "other"] 4 g_times := ok_times i_times h_number
  have h_over : Cal l.prog w K mg base "over" ["one", "other"] 4 g_over := ok_over i_over h_number
  have h_sums_of : Cal l.prog w K mg base "sums_of" ["row", "x"] 6 g_sums_of := ok_sums_of i_sums_of h_plus h_times c_NOUGHT c_UNIT
  have h_step_up : Cal l.prog w K mg base "step_up" ["start", "one", "other"] 6 g_step_up := ok_step_up i_step_up h_plus h_minus h_over c_UNIT
  have h_next_column : Cal l.prog w K mg base "next_column" ["ahead", "newest"] 7 g_next_column := ok_next_column i_next_column h_step_up n_len n_range
  have hC_ladder : CalC l.prog w K mg base "ladder" ["sums"] 8 gC_ladder := ok_ladder i_ladder h_next_column n_len n_list c_NOUGHT
  have h_ladder : Cal l.prog w K mg base "ladder" ["sums"] 8 g_ladder := hC_ladder.cal
  have hL_ladder : CalL l.prog w K mg base "ladder" ["sums"] 8 gL_ladder := okL_ladder i_ladder h_next_column n_len n_list c_NOUGHT
  have h__law_begin := ok__law_begin (P := l.prog) (w := w) (base := base) i__law_begin n_list
  have h__law_take : Cal l.prog w K mg base "_law_take" ["_law_state", "_law_many"] 1 g__law_take := ok__law_take i__law_take n_len n_divmod
  have h__law_same : Cal l.prog w K mg base "_law_same" ["_law_found", "_law_due"] 7 g__law_same := rec__law_same i__law_same n_all n_bool n_int n_isinstance n_len n_list n_str n_tuple n_zip 6
  have h__law_part : Cal l.prog w K mg base "_law_part" ["_law_top", "_law_below"] 1 g__law_part := ok__law_part i__law_part n_abs n_int
  have h__law_plus : Cal l.prog w K mg base "_law_plus" ["_law_one", "_law_other"] 2 g__law_plus := ok__law_plus i__law_plus h__law_part
  have h__law_minus : Cal l.prog w K mg base "_law_minus" ["_law_one", "_law_other"] 2 g__law_minus := ok__law_minus i__law_minus h__law_part
  have h__law_times : Cal l.prog w K mg base "_law_times" ["_law_one", "_law_other"] 2 g__law_times := ok__law_times i__law_times h__law_part
  have h__law_over : Cal l.prog w K mg base "_law_over" ["_law_one", "_law_other"] 2 g__law_over := ok__law_over i__law_over h__law_part
  have h__law_number : Cal l.prog w K mg base "_law_number" ["_law_state"] 2 g__law_number := ok__law_number i__law_number h__law_take h__law_part
  have h__law_small : Cal l.prog w K mg base "_law_small" ["_law_state"] 2 g__law_small := ok__law_small i__law_small h__law_take h__law_part
  have h__law_trimmed : Cal l.prog w K mg base "_law_trimmed" ["_law_numbers"] 1 g__law_trimmed := ok__law_trimmed i__law_trimmed n_list n_tuple
  have hC__law_series : CalC l.prog w K mg base "_law_series" ["_law_top", "_law_below", "_law_many"] 3 gC__law_series := ok__law_series i__law_series h__law_minus h__law_times n_len n_min n_range
  have h__law_series : Cal l.prog w K mg base "_law_series" ["_law_top", "_law_below", "_law_many"] 3 g__law_series := hC__law_series.cal
  have h__law_two_polys : Cal l.prog w K mg base "_law_two_polys" ["_law_state", "_law_a", "_law_b"] 3 g__law_two_polys := ok__law_two_polys i__law_two_polys h__law_take h__law_number h__law_small h__law_trimmed n_int n_range n_tuple
  have h__law_any : Cal l.prog w K mg base "_law_any" ["_law_state", "_law_many"] 3 g__law_any := ok__law_any i__law_any h__law_take h__law_number
  have h__law_row : Cal l.prog w K mg base "_law_row" ["_law_state", "_law_many"] 4 g__law_row := ok__law_row i__law_row h__law_take h__law_plus h__law_small h__law_trimmed h__law_two_polys h__law_any hC__law_series n_range
  have h__law_rung : Cal l.prog w K mg base "_law_rung" ["_law_base", "_law_left", "_law_right"] 3 g__law_rung := ok__law_rung i__law_rung h__law_plus h__law_minus h__law_over
  have h__law_columns : Cal l.prog w K mg base "_law_columns" ["_law_sums"] 4 g__law_columns := ok__law_columns i__law_columns h__law_rung n_len n_list n_range
  have h__law_places : Cal l.prog w K mg base "_law_places" ["_law_state", "_law_turn"] 2 g__law_places := ok__law_places i__law_places h__law_take
  have h__law_x : Cal l.prog w K mg base "_law_x" ["_law_state"] 3 g__law_x := ok__law_x i__law_x h__law_take h__law_part h__law_small
  have h__law_some_sums : Cal l.prog w K mg base "_law_some_sums" ["_law_state", "_law_turn"] 7 g__law_some_sums := ok__law_some_sums i__law_some_sums h_sums_of h__law_take h__law_part h__law_number h__law_row h__law_places h__law_x n_range
  exact ok_law (fun_mk (st := s_law) lL cL kL) h__law_begin h_ladder h__law_take h__law_same h__law_columns h__law_some_sums hL_ladder n_list n_range n_tuple law_run
theorem walk {l : PySem.W.OpenLaw} {q : Program} {loose : List Str} {XP : (Str → Option Value) → Heap → Prop} {YP : World → Heap → Prop} {d : DefRec} {K : Params → PySem.W.Frag} (hn : l.most = some 63) (hdf : d.params.defaults = [])
    (hY : ∀ (w : World) (h : Heap), YP w h → (K w.params).In h)
    (F : ∀ (w : World) (mg : Str → Option Value) (fa : Addr) (h : Heap), (K w.params).In h → h.Ns mainGlobals mg → mg d.name = some (.ref fa) →
      ∃ fd : FuncData, (∀ (s : Shared) (u : Value), BindsTo s fd ⟨[u], []⟩ [("_law_script", u)]) ∧ ∀ base : Heap, (K w.params).In base → base.Ns mainGlobals mg → FnOk l.prog w (K w.params) mg base CX0 9 fa fd ["_law_script"] (spLaw (K w.params))) :
    PySem.W.WalkO q loose XP YP l.row.toRowW d [] (fun f vs => PySem.call f vs) :=
  L2.walk_ofK (n := 63) (k := 9) (x := "_law_script") (CX := CX0) (sp := spLaw) hn (by decide) hdf ⟨rfl, by decide, by decide⟩ hY F (fun _ H a ns hl _ hS => ⟨a, ns, rfl, hS, hl, fun _ => rfl⟩) fun _ _ _ _ z => z
end Law
namespace PySem.W.Fast
theorem tw15607344993468828565:True:=⟨⟩
theorem tw1715112197166368615:True:=⟨⟩
theorem tw3034440739476752130:True:=⟨⟩
theorem tw14419519268052577457:True:=⟨⟩
theorem tw1210977728689377741:True:=⟨⟩
theorem tw6871138629426816279:True:=⟨⟩
theorem tw17555480580681931720:True:=⟨⟩
theorem tw9416311391981628365:True:=⟨⟩
theorem tw12089517555320384342:True:=⟨⟩
theorem tw14136848160708048588:True:=⟨⟩
theorem tw4427942079976671124:True:=⟨⟩
theorem tw12713436410949467862:True:=⟨⟩
end PySem.W.Fast
open PySem PySem.W PyProof.Rows
set_option maxRecDepth 100000 in
set_option maxHeartbeats 0 in
theorem PySem.Challenge.cw_farquotient_k41_columns_of_a_ladder_holds : PySem.Challenge.rw_farquotient_k41_columns_of_a_ladder.Holds := by
  w_on; o_law; k_head; (case hw => w_witness2)
  k_fill
  refine Law.walk (l := PySem.Challenge.rw_farquotient_k41_columns_of_a_ladder) rfl rfl (fun w h Y => PySem.W.kIn_of Y) ?F
  case F =>
    intro w mg fa h KX G hmg
    refine' Law.all_mk KX G hmg (.mk ?a0 ?l0 ?c0 ?k0) (.mk ?a1 ?l1 ?c1 ?k1) (.mk ?a2 ?l2 ?c2 ?k2) (.mk ?a3 ?l3 ?c3 ?k3) (.mk ?a4 ?l4 ?c4 ?k4) (.mk ?a5 ?l5 ?c5 ?k5) (.mk ?a6 ?l6 ?c6 ?k6) (.mk ?a7 ?l7 ?c7 ?k7) (.mk ?a8 ?l8 ?c8 ?k8) (.mk ?a9 ?l9 ?c9 ?k9) (.mk ?a10 ?l10 ?c10 ?k10) (.mk ?a11 ?l11 ?c11 ?k11) (.mk ?a12 ?l12 ?c12 ?k12) (.mk ?a13 ?l13 ?c13 ?k13) (.mk ?a14 ?l14 ?c14 ?k14) (.mk ?a15 ?l15 ?c15 ?k15) (.mk ?a16 ?l16 ?c16 ?k16) (.mk ?a17 ?l17 ?c17 ?k17) (.mk ?a18 ?l18 ?c18 ?k18) (.mk ?a19 ?l19 ?c19 ?k19) (.mk ?a20 ?l20 ?c20 ?k20) (.mk ?a21 ?l21 ?c21 ?k21) (.mk ?a22 ?l22 ?c22 ?k22) (.mk ?a23 ?l23 ?c23 ?k23) (.mk ?a24 ?l24 ?c24 ?k24) (.mk ?a25 ?l25 ?c25 ?k25) (.mk ?a26 ?l26 ?c26 ?k26) (.mk ?a27 ?l27 ?c27 ?k27) (.mk ?a28 ?l28 ?c28 ?k28) (.mk ?a29 ?l29 ?c29 ?k29) (.mk ?a30 ?l30 ?c30 ?k30) (.mk ?a31 ?l31 ?c31 ?k31) (.mk ?a32 ?l32 ?c32 ?k32) ?z_abs ?z_all ?z_bool ?z_divmod ?z_int ?z_isinstance ?z_len ?z_list ?z_min ?z_range ?z_str ?z_tuple ?z_zip ?y_GREAT_BITS ?y_NOUGHT ?x_NOUGHT ?y_UNIT ?x_UNIT
    (case a0 => k_is)
    (case l0 => k_is)
    (case c0 => k_is)
    (case k0 => k_is)
    (case a1 => k_is)
    (case l1 => k_is)
    (case c1 => k_is)
    (case k1 => k_is)
    (case a2 => k_is)
    (case l2 => k_is)
    (case c2 => k_is)
    (case k2 => k_is)
    (case a3 => k_is)
    (case l3 => k_is)
    (case c3 => k_is)
    (case k3 => k_is)
    (case a4 => k_is)
    (case l4 => k_is)
    (case c4 => k_is)
    (case k4 => k_is)
    (case a5 => k_is)
    (case l5 => k_is)
    (case c5 => k_is)
    (case k5 => k_is)
    (case a6 => k_is)
    (case l6 => k_is)
    (case c6 => k_is)
    (case k6 => k_is)
    (case a7 => k_is)
    (case l7 => k_is)
    (case c7 => k_is)
    (case k7 => k_is)
    (case a8 => k_is)
    (case l8 => k_is)
    (case c8 => k_is)
    (case k8 => k_is)
    (case a9 => k_is)
    (case l9 => k_is)
    (case c9 => k_is)
    (case k9 => k_is)
    (case a10 => k_is)
    (case l10 => k_is)
    (case c10 => k_is)
    (case k10 => k_is)
    (case a11 => k_is)
    (case l11 => k_is)
    (case c11 => k_is)
    (case k11 => k_is)
    (case a12 => k_is)
    (case l12 => k_is)
    (case c12 => k_is)
    (case k12 => k_is)
    (case a13 => k_is)
    (case l13 => k_is)
    (case c13 => k_is)
    (case k13 => k_is)
    (case a14 => k_is)
    (case l14 => k_is)
    (case c14 => k_is)
    (case k14 => k_is)
    (case a15 => k_is)
    (case l15 => k_is)
    (case c15 => k_is)
    (case k15 => k_is)
    (case a16 => k_is)
    (case l16 => k_is)
    (case c16 => k_is)
    (case k16 => k_is)
    (case a17 => k_is)
    (case l17 => k_is)
    (case c17 => k_is)
    (case k17 => k_is)
    (case a18 => k_is)
    (case l18 => k_is)
    (case c18 => k_is)
    (case k18 => k_is)
    (case a19 => k_is)
    (case l19 => k_is)
    (case c19 => k_is)
    (case k19 => k_is)
    (case a20 => k_is)
    (case l20 => k_is)
    (case c20 => k_is)
    (case k20 => k_is)
    (case a21 => k_is)
    (case l21 => k_is)
    (case c21 => k_is)
    (case k21 => k_is)
    (case a22 => k_is)
    (case l22 => k_is)
    (case c22 => k_is)
    (case k22 => k_is)
    (case a23 => k_is)
    (case l23 => k_is)
    (case c23 => k_is)
    (case k23 => k_is)
    (case a24 => k_is)
    (case l24 => k_is)
    (case c24 => k_is)
    (case k24 => k_is)
    (case a25 => k_is)
    (case l25 => k_is)
    (case c25 => k_is)
    (case k25 => k_is)
    (case a26 => k_is)
    (case l26 => k_is)
    (case c26 => k_is)
    (case k26 => k_is)
    (case a27 => k_is)
    (case l27 => k_is)
    (case c27 => k_is)
    (case k27 => k_is)
    (case a28 => k_is)
    (case l28 => k_is)
    (case c28 => k_is)
    (case k28 => k_is)
    (case a29 => k_is)
    (case l29 => k_is)
    (case c29 => k_is)
    (case k29 => k_is)
    (case a30 => k_is)
    (case l30 => k_is)
    (case c30 => k_is)
    (case k30 => k_is)
    (case a31 => k_is)
    (case l31 => k_is)
    (case c31 => k_is)
    (case k31 => k_is)
    (case a32 => k_is)
    (case l32 => k_is)
    (case c32 => k_is)
    (case k32 => k_is)
    (case z_abs => k_is)
    (case z_all => k_is)
    (case z_bool => k_is)
    (case z_divmod => k_is)
    (case z_int => k_is)
    (case z_isinstance => k_is)
    (case z_len => k_is)
    (case z_list => k_is)
    (case z_min => k_is)
    (case z_range => k_is)
    (case z_str => k_is)
    (case z_tuple => k_is)
    (case z_zip => k_is)
    (case y_GREAT_BITS => k_is)
    (case y_NOUGHT => k_is)
    (case x_NOUGHT => k_is)
    (case y_UNIT => k_is)
    (case x_UNIT => k_is)
