import PyProof.Rows.All
import Wide.All
import OpenK.AllK
import Wide.FinOn
import Lean
import PyProof.EqAt
import PyProof.EqKinds
import PyProof.TupleCall
import PySem.Challenge.RW_farquotient_k05_sums_products_values
set_option Elab.async false
set_option linter.all false
set_option maxRecDepth 100000
namespace L2
open PySem PySem.Spec PyProof.Rows

noncomputable abbrev Key:=Sum Int Str
noncomputable def keyIs:Key→Value→Bool
  | .inl k,v => Value.isInt k v
  | .inr x,v => Value.isStrOf x v
noncomputable def keyH (w:World):Key→Int
  | .inl k => hashInt k
  | .inr x => hashStr w x
theorem keyIs_shape:∀ {k:Key} {v:Value},keyIs k v = true→(∃ i t,k = Sum.inl i∧v = Value.int i t) ∨ (∃ x t,k = Sum.inr x∧v = Value.str x t)
  | .inl i,v,h => by
    obtain ⟨t,e⟩:=Value.isInt_shape (k:=i) (v:=v) h
    exact .inl ⟨i,t,rfl,e⟩
  | .inr x,v,h => by
    obtain ⟨t,e⟩:=Value.isStrOf_shape (x:=x) (v:=v) h
    exact .inr ⟨x,t,rfl,e⟩
theorem keyIs_int (i:Int) (t:Tok):keyIs (.inl i) (.int i t) = true:=by simp [keyIs,Value.isInt]
theorem keyIs_str (x:Str) (t:Tok):keyIs (.inr x) (.str x t) = true:=by simp [keyIs,Value.isStrOf]
theorem key_ll (a b:Int):decide ((Sum.inl a:Key) = Sum.inl b) = (a == b):=by
  by_cases e:a = b
  · subst e; simp
  · have h:¬ (Sum.inl a:Key) = Sum.inl b:=fun q => e (Sum.inl.inj q)
    rw [decide_eq_false h]
    exact (beq_eq_false_iff_ne.mpr e).symm
theorem key_rr (a b:Str):decide ((Sum.inr a:Key) = Sum.inr b) = decide (a = b):=by
  by_cases e:a = b
  · subst e; simp
  · have h:¬ (Sum.inr a:Key) = Sum.inr b:=fun q => e (Sum.inr.inj q)
    rw [decide_eq_false h,decide_eq_false e]
theorem key_lr (a:Int) (b:Str):decide ((Sum.inl a:Key) = Sum.inr b) = false:=decide_eq_false (fun q => nomatch q)
theorem key_rl (a:Str) (b:Int):decide ((Sum.inr a:Key) = Sum.inl b) = false:=decide_eq_false (fun q => nomatch q)

noncomputable def mixKind (prog:Program) (w:World):PySem.KeyKind prog w Key where
  is:=keyIs
  hash:=keyH w
  inj:=fun v a b ha hb => by
    rcases keyIs_shape ha with ⟨i,t,rfl,rfl⟩ | ⟨x,t,rfl,rfl⟩
    · rcases keyIs_shape hb with ⟨j,u,rfl,e⟩ | ⟨y,u,rfl,e⟩
      · injection e with e1 _; rw [e1]
      · exact nomatch e
    · rcases keyIs_shape hb with ⟨j,u,rfl,e⟩ | ⟨y,u,rfl,e⟩
      · exact nomatch e
      · injection e with e1 _; rw [e1]
  byValue:=fun k v h => by
    rcases keyIs_shape h with ⟨i,t,rfl,rfl⟩ | ⟨x,t,rfl,rfl⟩ <;> rfl
  pyHash:=fun hv h => by
    rcases keyIs_shape hv with ⟨i,t,rfl,rfl⟩ | ⟨x,t,rfl,rfl⟩
    · exact wpAny_pyHash_int h
    · exact wpAny_pyHash_str h
  eqBool:=fun hu hv h => by
    rcases keyIs_shape hu with ⟨i,t,rfl,rfl⟩ | ⟨x,t,rfl,rfl⟩
    · rcases keyIs_shape hv with ⟨j,u,rfl,rfl⟩ | ⟨y,u,rfl,rfl⟩
      · rw [key_ll] at h; exact wpAny_eqBool_int h
      · rw [key_lr] at h; exact SeqAt.EqAt.int_str i t y u _ _ _ _ h
    · rcases keyIs_shape hv with ⟨j,u,rfl,rfl⟩ | ⟨y,u,rfl,rfl⟩
      · rw [key_rl] at h; exact SeqAt.EqAt.str_int x t j u _ _ _ _ h
      · rw [key_rr] at h; exact wpAny_eqBool_str h
  «strs»:=fun k x t v h => by
    rcases keyIs_shape h with ⟨i,u,rfl,e⟩ | ⟨y,u,rfl,e⟩
    · exact nomatch e
    · injection e with e1 _
      subst e1
      cases v <;> rfl

theorem mixKind_int (prog:Program) (w:World) (i:Int) (t:Tok):(mixKind prog w).is (.inl i) (.int i t) = true:=keyIs_int i t
theorem mixKind_str (prog:Program) (w:World) (x:Str) (t:Tok):(mixKind prog w).is (.inr x) (.str x t) = true:=keyIs_str x t
end L2

namespace L2
open PySem PySem.Spec PyProof.Rows

inductive V where
  | non | bl (b:Bool) | int (i:Int) | str (x:Str) | byt (b:Array UInt8) | flt (b:UInt64) | ref (a:Addr) | ty (n:String)
  deriving DecidableEq

noncomputable def RelV:V→Value→Prop
  | .non,u => u = Value.none
  | .bl b,u => u = Value.bool b
  | .int i,u => ∃ t,u = Value.int i t
  | .str x,u => ∃ t,u = Value.str x t
  | .byt b,u => ∃ t,u = Value.bytes b t
  | .flt b,u => ∃ t,u = Value.float b t
  | .ref a,u => u = Value.ref a
  | .ty n,u => u = Value.type n

noncomputable abbrev Vals:List V→List Value→Prop:=Paired RelV
theorem Vals.length {xs:List V} {us:List Value} (r:Vals xs us):xs.length = us.length:=Paired.length r
theorem Vals.get:∀ {xs:List V} {us:List Value} {i:Nat} {x:V},Vals xs us→xs[i]? = some x→∃ u,us[i]? = some u∧RelV x u
  | _,_,_,_,.nil,e => by simp at e
  | _,_,0,_,.cons r _,e => by simp at e; subst e; exact ⟨_,rfl,r⟩
  | _,_,i + 1,x,.cons _ t,e => by
    obtain ⟨u,h1,h2⟩:=Vals.get (i:=i) (x:=x) t (by simpa using e)
    exact ⟨u,by simpa using h1,h2⟩
theorem Vals.set {x:V} {u:Value} (r:RelV x u):∀ {xs:List V} {us:List Value} (i:Nat),Vals xs us→Vals (xs.set i x) (us.set i u)
  | _,_,_,.nil => .nil
  | _,_,0,.cons _ t => .cons r t
  | _,_,i + 1,.cons q t => .cons q (Vals.set r i t)
theorem Vals.append {xs ys:List V} {us ws:List Value} (h:Vals xs us) (s:Vals ys ws):Vals (xs ++ ys) (us ++ ws):=by
  induction h with
  | nil => exact s
  | cons r t ih => exact .cons r ih
theorem Vals.take:∀ {xs:List V} {us:List Value} (n:Nat),Vals xs us→Vals (xs.take n) (us.take n)
  | _,_,0,_ => .nil
  | _,_,_ + 1,.nil => .nil
  | _,_,n + 1,.cons r t => .cons r (Vals.take n t)
theorem Vals.drop:∀ {xs:List V} {us:List Value} (n:Nat),Vals xs us→Vals (xs.drop n) (us.drop n)
  | _,_,0,r => r
  | _,_,_ + 1,.nil => .nil
  | _,_,n + 1,.cons _ t => Vals.drop n t
theorem Vals.none_of:∀ {xs:List V} {us:List Value} {i:Nat},Vals xs us→xs[i]? = none→us[i]? = none:=fun {xs us i} r e => by
  have h1:=r.length
  have h2:xs.length ≤ i:=List.getElem?_eq_none_iff.mp e
  exact List.getElem?_eq_none_iff.mpr (by lia)

noncomputable def RelO:Option V→Option Value→Prop
  | some v,some u => RelV v u
  | none,none => True
  | _,_ => False
noncomputable def KV {κ:Type}:List (κ × V)→List (κ × Value)→Prop:=Paired fun (p:κ × V) (q:κ × Value) => p.1 = q.1∧RelV p.2 q.2

noncomputable def kV:Key→V
  | .inl i => .int i
  | .inr x => .str x

inductive HO where
  /-- a list -/
  | lst (xs:List V)
  /-- a tuple (never changes) -/
  | tup (xs:List V)
  /-- a dict whose keys are ints and texts; one whose keys are tuples of ints and texts (the empty one is both) -/
  | dK (kvs:List (Key × V)) | dT (kvs:List (List Key × V))
  /-- a set of ints: its members,its size -/
  | set (S:Int→Bool) (n:Nat)
  /-- an instance of the class at C,its dict at dx,its attributes -/
  | ins (C dx:Addr) (fs:List (Str × V))
  /-- the dict of the instance at x -/
  | own (x:Addr)
  /-- the dict of an exception -/
  | xd (fs:List (Str × V))
  /-- a bound method,f of x -/
  | met (f x:Addr)
  /-- a range object lo,lo + 1,.. below hi -/
  | rng (lo hi:Int)
  /-- a thing that is known to the object (the script; a dict while a loop walks it): read,never written while it is so -/
  | frz (o:Obj) (u:HO)
  /-- a code object's table -/
  | tbl (ps:Array Value)
  /-- any other thing,by what is true of its one object (a def of one's own: SetO a S n:=HO.ext fun h => ..) -/
  | ext (φ:Heap→Prop)

noncomputable abbrev Hp:=Addr→Option HO
noncomputable def upd (H:Hp) (a:Addr) (o:HO):Hp:=fun b => if b = a then some o else H b
theorem upd_same {H:Hp} {a:Addr} {o:HO}:upd H a o a = some o:=by unfold upd; rw [if_pos rfl]
theorem upd_ne {H:Hp} {a b:Addr} {o:HO} (h:b ≠ a):upd H a o b = H b:=by unfold upd; rw [if_neg h]
theorem ne_of {H:Hp} {a b:Addr} {o u:HO} (h:H a = some o) (h':H b = some u) (d:o ≠ u):a ≠ b:=by
  intro e; subst e; rw [h] at h'; exact d (Option.some.inj h')
theorem ne_of_none {H:Hp} {a b:Addr} {o:HO} (h:H a = some o) (h':H b = none):a ≠ b:=by
  intro e; subst e; rw [h] at h'; cases h'

section
variable (P:Program) (w:World)
noncomputable def ObjOk (H:Hp) (h:Heap) (a:Addr):HO→Prop
  | .lst xs => xs.length ≤ sizeLine∧∃ (its:List Value) (n:Nat),Vals xs its∧h.get? a = some { cls:=.type "list",data:=.seq its.toArray n }
  | .tup xs => xs.length ≤ sizeLine∧∃ its:List Value,Vals xs its∧IsTup h a its.toArray
  | .dK kvs => kvs.length ≤ sizeLine∧(a == sysModules) = false∧∃ vs,KV kvs vs∧h.DictOf (mixKind P w) a vs
  | .dT kvs => kvs.length ≤ sizeLine∧(a == sysModules) = false∧∃ xs:List (List Key × Addr × Value),
      Paired (fun (p:List Key × V) (q:List Key × Addr × Value) => p.1 = q.1∧H q.2.1 = some (.tup (p.1.map kV))∧RelV p.2 q.2.2) kvs xs ∧
      ∃ o es ep,h.get? a = some o∧o.ExactDict∧o.data = .dict es ep∧es.toList = xs.map (entryOfKey (tupleKind (mixKind P w)))∧(xs.map (·.1)).Nodup
  | .set S n => h.SetOf (intKind P w) a S n
  | .ins C dx fs => H dx = some (.own a)∧fs.length ≤ 1000∧dx ≠ a∧h.get? a = some (PySem.W.instObj C dx) ∧
      ∃ mA,h.Ns1 dx mA∧(∀ f,RelO (fs.lookup f) (mA f))∧PySem.Within mA (fs.map (·.1))
  | .own _ => ∃ o,h.get? a = some o
  | .xd fs => ∃ mA,h.Ns1 a mA∧∀ f,RelO (fs.lookup f) (mA f)
  | .rng lo hi => ∃ t u v,h.get? a = some { cls:=.type "range",data:=.fields #[.int lo t,.int hi u,.int 1 v] }
  | .frz o u => h.get? a = some o∧ObjOk H h a u
  | .tbl ps => h.get? a = some { cls:=.none,data:=.fields ps }
  | .met f x => h.get? a = some (PySem.W.methodObj (.ref f) (.ref x))
  | .ext φ => φ h∧(∃ o,h.get? a = some o)∧∀ h1 h2:Heap,φ h1→(∀ o,h1.get? a = some o→h2.get? a = some o)→φ h2
noncomputable def HOk (H:Hp) (h:Heap):Prop:=∀ a o,H a = some o→ObjOk P w H h a o
end

section
variable {P:Program} {w:World} {H H':Hp} {h h':Heap} {a:Addr} {o:HO}
theorem ObjOk.lt (x:ObjOk P w H h a o):a < h.objs.size:=by
  cases o with
  | lst xs => obtain ⟨_,_,_,_,e⟩:=x; exact Heap.lt_size e
  | tup xs => obtain ⟨_,_,_,p⟩:=x; exact p.lt
  | dK kvs => obtain ⟨_,_,_,_,o,_,_,e,_⟩:=x; exact Heap.lt_size e
  | dT kvs => obtain ⟨_,_,_,_,o,_,_,e,_⟩:=x; exact Heap.lt_size e
  | set S n => obtain ⟨o,_,_,_,e,_⟩:=x; exact Heap.lt_size e
  | ins C dx fs => obtain ⟨_,_,_,e,_⟩:=x; exact Heap.lt_size e
  | own y => obtain ⟨_,e⟩:=x; exact Heap.lt_size e
  | xd fs => obtain ⟨_,⟨_,_,_,e,_⟩,_⟩:=x; exact Heap.lt_size e
  | rng lo hi => obtain ⟨_,_,_,e⟩:=x; exact Heap.lt_size e
  | frz ob u => obtain ⟨e,_⟩:=x; exact Heap.lt_size e
  | tbl ps => exact Heap.lt_size (show h.get? a = some _ from x)
  | met f y => exact Heap.lt_size (show h.get? a = some _ from x)
  | ext φ => obtain ⟨_,⟨_,e⟩,_⟩:=x; exact Heap.lt_size e
theorem Paired.mapP {α β:Type} {F G:α→β→Prop} {l₁:List α} {l₂:List β} (h:Paired F l₁ l₂) (f:∀ a b,F a b→G a b):Paired G l₁ l₂:=by
  induction h with
  | nil => exact .nil
  | cons r t ih => exact .cons (f _ _ r) ih
theorem ObjOk.stay (x:ObjOk P w H h a o) (k:∀ b u,(b = a ∨ H b = some (.own a))→h.get? b = some u→h'.get? b = some u)
    (ho:∀ b,H b = some (.own a)→H' b = some (.own a)) (ht:∀ b xs,H b = some (.tup xs)→H' b = some (.tup xs)):ObjOk P w H' h' a o:=by
  induction o with
  | lst xs => obtain ⟨z,its,n,r,e⟩:=x; exact ⟨z,its,n,r,k _ _ (.inl rfl) e⟩
  | tup xs => obtain ⟨z,its,r,ob,e,c⟩:=x; exact ⟨z,its,r,ob,k _ _ (.inl rfl) e,c⟩
  | dK kvs => obtain ⟨z,y,vs,r,ob,es,ep,e,c⟩:=x; exact ⟨z,y,vs,r,ob,es,ep,k _ _ (.inl rfl) e,c⟩
  | dT kvs =>
    obtain ⟨z,y,xs,r,ob,es,ep,e,c⟩:=x
    exact ⟨z,y,xs,Paired.mapP r fun p q z => ⟨z.1,ht _ _ z.2.1,z.2.2⟩,ob,es,ep,k _ _ (.inl rfl) e,c⟩
  | set S n => obtain ⟨ob,es,ep,t,e,c⟩:=x; exact ⟨ob,es,ep,t,k _ _ (.inl rfl) e,c⟩
  | ins C dx fs =>
    obtain ⟨d,z,ne,e,mA,⟨od,es,ep,e2,c⟩,r⟩:=x
    exact ⟨ho _ d,z,ne,k _ _ (.inl rfl) e,mA,⟨od,es,ep,k _ _ (.inr d) e2,c⟩,r⟩
  | own y => obtain ⟨ob,e⟩:=x; exact ⟨ob,k _ _ (.inl rfl) e⟩
  | xd fs => obtain ⟨mA,⟨od,es,ep,e,c⟩,r⟩:=x; exact ⟨mA,⟨od,es,ep,k _ _ (.inl rfl) e,c⟩,r⟩
  | rng lo hi => obtain ⟨t,u,v,e⟩:=x; exact ⟨t,u,v,k _ _ (.inl rfl) e⟩
  | frz ob u ih => obtain ⟨e,q⟩:=x; exact ⟨k _ _ (.inl rfl) e,ih q⟩
  | tbl ps =>
    have e:h.get? a = some { cls:=.none,data:=.fields ps }:=x
    show h'.get? a = some { cls:=.none,data:=.fields ps }
    exact k a _ (.inl rfl) e
  | met f y =>
    have e:h.get? a = some (PySem.W.methodObj (.ref f) (.ref y)):=x
    show h'.get? a = some (PySem.W.methodObj (.ref f) (.ref y))
    exact k a _ (.inl rfl) e
  | ext φ => obtain ⟨p,⟨o,e⟩,st⟩:=x; exact ⟨st _ _ p fun o q => k _ _ (.inl rfl) q,⟨o,k _ _ (.inl rfl) e⟩,st⟩
theorem HOk.lt (x:HOk P w H h) (e:H a = some o):a < h.objs.size:=(x a o e).lt
theorem HOk.fresh (x:HOk P w H h) (e:h.objs.size ≤ a):H a = none:=by
  cases q:H a with
  | none => rfl
  | some u => exact absurd (Nat.lt_of_lt_of_le (x.lt q) e) (Nat.lt_irrefl _)
theorem HOk.kept (x:HOk P w H h) (k:∀ b u,h.get? b = some u→h'.get? b = some u):HOk P w H h':=fun a o e =>
  (x a o e).stay (fun b u _ q => k b u q) (fun _ q => q) fun _ _ q => q
theorem HOk.laid (x:HOk P w H h) (k:∀ b u,h.get? b = some u→h'.get? b = some u) (hp:h.objs.size ≤ a) (new:ObjOk P w (upd H a o) h' a o):HOk P w (upd H a o) h':=fun b u e => by
  have hn:=x.fresh hp
  by_cases hb:b = a
  · subst hb; rw [upd_same] at e; cases e; exact new
  · rw [upd_ne hb] at e
    exact (x b u e).stay (fun c v _ q => k c v q) (fun c q => by rw [upd_ne (ne_of_none q hn)]; exact q) fun c xs q => by rw [upd_ne (ne_of_none q hn)]; exact q
end

noncomputable def Rd (H:Hp) (a:Addr) (u:HO):Prop:=H a = some u ∨ ∃ o,H a = some (.frz o u)
theorem Rd.ok {P:Program} {w:World} {H:Hp} {h:Heap} {a:Addr} {u:HO} (r:Rd H a u) (x:HOk P w H h):ObjOk P w H h a u:=by
  rcases r with r | ⟨o,r⟩
  · exact x a u r
  · obtain ⟨_,q⟩:=x a _ r
    exact q
noncomputable def Mut:Option HO→Prop
  | some (.lst _) => True
  | some (.dK _) => True
  | some (.dT _) => True
  | some (.set _ _) => True
  | some (.ins _ _ _) => True
  | some (.ext _) => True
  | _ => False
section
variable {P:Program} {w:World} {H:Hp} {h h':Heap} {x e:Addr} {o':HO}
theorem HOk.write (ok:HOk P w H h) (mu:Mut (H x)) (he:e = x ∨ H e = some (.own x)) (k:∀ b u,b ≠ e→h.get? b = some u→h'.get? b = some u) (heo:∃ u,h'.get? e = some u)
    (new:ObjOk P w (upd H x o') h' x o'):HOk P w (upd H x o') h':=fun b u q => by
  have nown:∀ c y,H c = some (.own y)→c ≠ x:=fun c y r z => by subst z; rw [r] at mu; exact mu
  have ntup:∀ c xs,H c = some (.tup xs)→c ≠ x:=fun c xs r z => by subst z; rw [r] at mu; exact mu
  by_cases hb:b = x
  · subst hb; rw [upd_same] at q; cases q; exact new
  · rw [upd_ne hb] at q
    by_cases hbe:b = e
    · have q':H b = some (.own x):=by
        rcases he with z | z
        · exact absurd (hbe.trans z) hb
        · rw [hbe]; exact z
      rw [q] at q'; cases q'
      obtain ⟨v,hv⟩:=heo
      exact ⟨v,by rw [hbe]; exact hv⟩
    · refine (ok b u q).stay (fun c v hc r => k c v ?_ r) (fun c r => by rw [upd_ne (nown c b r)]; exact r) fun c xs r => by rw [upd_ne (ntup c xs r)]; exact r
      rcases hc with rfl | hc
      · exact hbe
      · rintro rfl
        rcases he with z | z
        · exact nown c b hc z
        · rw [hc] at z; cases z; exact hb rfl
end

structure Un (fs ex:List Addr) (H H':Hp) (h h':Heap):Prop where
  keep:∀ b o,h.get? b = some o→H b = none→b ∉ fs→b ∉ ex→h'.get? b = some o
  slot:∀ b o,h.get? b = some o→H b = none→b ∈ fs→b ∉ ex→∃ sl,h'.get? b = some { o with slots:=sl }
  free:∀ b o,h.get? b = some o→H b = none→b ∉ ex→H' b = none
  there:∀ b o,h.get? b = some o→b ∉ ex→∃ o',h'.get? b = some o'
  tups:∀ b xs,H b = some (.tup xs)→H' b = some (.tup xs)
  frzs:∀ b o u,H b = some (.frz o u)→H' b = some (.frz o u)
  tbls:∀ b ps,H b = some (.tbl ps)→∃ more,H' b = some (.tbl (ps ++ more))
section
variable {fs fs' ex ex':List Addr} {H H1 H2:Hp} {h h1 h2 h':Heap} {a x e:Addr} {o:HO}
theorem Un.any (u:Un fs ex H H1 h h1) {b:Addr} {ob:Obj} (q:h.get? b = some ob) (n:H b = none) (hx:b ∉ ex):∃ sl,h1.get? b = some { ob with slots:=sl }:=by
  by_cases hb:b ∈ fs
  · exact u.slot b ob q n hb hx
  · exact ⟨ob.slots,u.keep b ob q n hb hx⟩
theorem Un.kept (k:∀ b u,h.get? b = some u→h'.get? b = some u):Un fs ex H H h h' :=
  ⟨fun b ob q _ _ _ => k b ob q,fun b ob q _ _ _ => ⟨ob.slots,k b ob q⟩,fun _ _ _ n _ => n,fun b ob q _ => ⟨ob,k b ob q⟩,fun _ _ q => q,fun _ _ _ q => q,fun _ ps q => ⟨#[],by rw [q]; simp⟩⟩
theorem Un.refl:Un fs ex H H h h:=Un.kept fun _ _ q => q
theorem Un.laid (k:∀ b u,h.get? b = some u→h'.get? b = some u) (hp:h.objs.size ≤ a) (hn:H a = none):Un fs ex H (upd H a o) h h' where
  keep:=fun b u q _ _ _ => k b u q
  slot:=fun b u q _ _ _ => ⟨u.slots,k b u q⟩
  free:=fun b u q n _ => by rw [upd_ne (Nat.ne_of_lt (Nat.lt_of_lt_of_le (Heap.lt_size q) hp))]; exact n
  there:=fun b u q _ => ⟨u,k b u q⟩
  tups:=fun b xs q => by rw [upd_ne (ne_of_none q hn)]; exact q
  frzs:=fun b u xs q => by rw [upd_ne (ne_of_none q hn)]; exact q
  tbls:=fun b ps q => ⟨#[],by rw [upd_ne (ne_of_none q hn),q]; simp⟩
theorem Un.write (mu:Mut (H x)) (he:e = x ∨ H e = some (.own x)) (k:∀ b u,b ≠ e→h.get? b = some u→h'.get? b = some u) (heo:∃ u,h'.get? e = some u):Un fs ex H (upd H x o) h h':=by
  have hx:∀ b,H b = none→b ≠ x:=fun b n z => by subst z; rw [n] at mu; exact mu
  have hb:∀ b,H b = none→b ≠ e:=fun b n z => by
    subst z
    rcases he with r | r
    · exact hx b n r
    · rw [n] at r; cases r
  have hm:∀ b u,H b = some u→¬ Mut (some u)→b ≠ x:=fun b u q nm z => by subst z; rw [q] at mu; exact nm mu
  refine ⟨fun b u q n _ _ => k b u (hb b n) q,fun b u q n _ _ => ⟨u.slots,k b u (hb b n) q⟩,fun b u q n _ => by rw [upd_ne (hx b n)]; exact n,fun b u q _ => ?_,
    fun b xs q => by rw [upd_ne (hm b _ q fun z => z)]; exact q,fun b u xs q => by rw [upd_ne (hm b _ q fun z => z)]; exact q,fun b ps q => ⟨#[],by rw [upd_ne (hm b _ q fun z => z),q]; simp⟩⟩
  by_cases hbe:b = e
  · subst hbe; exact heo
  · exact ⟨u,k b u hbe q⟩
end

noncomputable def trk (h:Heap) (H:Hp):List Addr:=(List.range h.objs.size).filter fun a => (H a).isSome
noncomputable def hidT (h:Heap) (H:Hp):Heap:=PySem.W.hideAll h (trk h H)
theorem hidT_size (h:Heap) (H:Hp):(hidT h H).objs.size = h.objs.size:=PySem.W.hideAll_size _ _
theorem hidT_get {h:Heap} {H:Hp} {b:Addr} {o:Obj} (e:h.get? b = some o) (n:H b = none):(hidT h H).get? b = some o :=
  PySem.W.hideAll_get _ e fun hm => by
    have q:(H b).isSome = true:=(List.mem_filter.mp hm).2
    rw [n] at q; simp at q
theorem of_hidT {h:Heap} {H:Hp} {b:Addr} {o:Obj} (e:(hidT h H).get? b = some o):h.get? b = some o∧H b = none:=by
  have e':h.get? b = some o:=PySem.W.of_hideAll (trk h H) e
  refine ⟨e',?_⟩
  cases q:H b with
  | none => rfl
  | some x =>
    have hm:b ∈ trk h H:=List.mem_filter.mpr ⟨List.mem_range.mpr (Heap.lt_size e'),by simp [q]⟩
    have z:(hidT h H).get? b = none:=PySem.W.hideAll_none (trk h H) hm
    rw [z] at e; cases e

noncomputable def allNews (g h:Heap) (L:Addr):List (Addr × Obj):=(List.range h.objs.size).filterMap fun a => if a = L ∨ (g.get? a).isSome = true then none else (h.get? a).map fun o => (a,o)
noncomputable def rest (g h:Heap) (L d:Addr):List (Addr × Obj):=(allNews g h L).filter fun p => decide (p.1 ≠ d)
end L2

namespace L2
open PySem PySem.Spec PyProof.Rows

structure Mod (K:PySem.W.Frag) (mg:Str→Option Value) (base:Heap):Prop where
  kin:K.In base
  glob:base.Ns mainGlobals mg
  blt:∃ mb,base.Ns builtinsNs mb∧∀ x:Str,x ≠ "__name__"→mb x = bootBuiltins x
  nolimit:base.NoLimit

structure Cx where
  prog:Program
  w:World
  K:PySem.W.Frag
  mg:Str→Option Value
  base:Heap
  A:Around
  N:List Str
  s₀:Shared
  H₀:Hp
  env:Env
  outer:List Env
  stack:List Env
  ex:List Addr
  fn:Str→Bool
  calm:Bool
  pn:List (Addr × Obj)
  xe:Value→Shared→Prop
noncomputable def frs (l:List Env):List Addr:=l.filterMap (·.frame)
noncomputable abbrev Cx.fs (X:Cx):List Addr:=frs X.outer

noncomputable def Vis (sc:Scope) (x:Str):Prop:=sc.names.lookup x = some .local ∨ sc.names.lookup x = some .cell ∨ sc.names.lookup x = some .free
noncomputable def Loc (sc:Scope) (x:Str):Prop:=sc.names.lookup x = some .local ∨ sc.names.lookup x = some .cell
noncomputable def Look (env:Env) (h:Heap) (m:Str→Option Value) (x:Str) (u:Value):Prop :=
  (env.kindOf x = some .local∧m x = some u) ∨ ((env.kindOf x = some .cell ∨ env.kindOf x = some .free)∧∃ c,env.cells.lookup x = some c∧h.IsCell c (some u))

structure Cx.Ok (X:Cx):Prop where
  mod:Mod X.K X.mg X.base
  kind:X.env.scope.kind = .function
  glob:X.env.globals = mainGlobals
  blt:X.env.builtins = builtinsNs
  above:X.s₀.heap.objs.size ≤ X.env.locals
  inj:∀ x y c,X.env.cells.lookup x = some c→X.env.cells.lookup y = some c→x = y
  has:∀ x,(X.env.kindOf x = some .cell ∨ X.env.kindOf x = some .free)→∃ c,X.env.cells.lookup x = some c
  cab:∀ x c,X.fn x = true→X.env.cells.lookup x = some c→X.s₀.heap.objs.size ≤ c
  hd:X.calm = true→X.A.handled = none
  frames:X.A.frames = some X.stack
  stk:X.stack = X.outer ∨ (X.stack = X.env :: X.outer∧X.env.frame = some X.env.locals)
  exf:∀ b ∈ X.ex,b ≠ X.env.locals∧∀ x c,X.env.cells.lookup x = some c→c ≠ b
  bs:∀ b o,X.base.get? b = some o→X.s₀.heap.get? b = some o∧X.H₀ b = none
  bsz:X.base.objs.size ≤ X.s₀.heap.objs.size
  noex:∀ b o,X.base.get? b = some o→b ∉ X.ex
  exfs:∀ b ∈ X.ex,b ∉ X.fs
  funs:X.s₀.heap.FunFrames X.base X.outer
  frf:∀ b ∈ X.fs,X.H₀ b = none

structure Inv (X:Cx) (pins:List (Addr × Obj)) (σ:List (Option V)) (H:Hp) (s:Shared):Prop where
  ok:X.Ok
  os:s.os = X.s₀.os
  bare:AllBare s.gens
  base:Un X.fs X.ex X.H₀ H X.s₀.heap s.heap
  loc:∃ m,s.heap.Ns X.env.locals m∧∀ (i:Nat) (x:Str) (v:V),X.N[i]? = some x→σ[i]? = some (some v)→Vis X.env.scope x→∃ u,RelV v u∧Look X.env s.heap m x u
  cell:∀ x c,X.env.cells.lookup x = some c→∃ v,s.heap.IsCell c v
  free:H X.env.locals = none
  freeC:∀ x c,X.env.cells.lookup x = some c→H c = none
  pin:∀ p ∈ X.pn ++ pins,s.heap.get? p.1 = some p.2∧H p.1 = none∧p.1 ≠ X.env.locals∧p.1 ∉ X.fs∧∀ v,p.2.data ≠ .cell v
  hok:HOk X.prog X.w H s.heap
  len:σ.length = X.N.length

section
variable {X:Cx} {pins:List (Addr × Obj)} {σ:List (Option V)} {H H':Hp} {s:Shared} {h':Heap}

theorem Cx.Ok.nofr (ok:X.Ok) {b:Addr} {o:Obj} (e:X.base.get? b = some o):b ∉ X.fs:=fun hb => by
  have:=(ok.funs.mem hb).1
  rw [e] at this; cases this
theorem Inv.bs (I:Inv X pins σ H s):∀ b o,X.base.get? b = some o→s.heap.get? b = some o∧H b = none:=fun b o e =>
  ⟨I.base.keep b o (I.ok.bs b o e).1 (I.ok.bs b o e).2 (I.ok.nofr e) (I.ok.noex b o e),I.base.free b o (I.ok.bs b o e).1 (I.ok.bs b o e).2 (I.ok.noex b o e)⟩
theorem Inv.bk (I:Inv X pins σ H s):∀ b o,X.base.get? b = some o→s.heap.get? b = some o:=fun b o e => (I.bs b o e).1
theorem Inv.mod (I:Inv X pins σ H s):Mod X.K X.mg X.base:=I.ok.mod
theorem Inv.kIn (I:Inv X pins σ H s):X.K.In s.heap:=I.ok.mod.kin.keeps I.bk
theorem Inv.fr (I:Inv X pins σ H s):∃ m,Fr X.base X.env.locals s.heap m :=
  let ⟨m,hn,_⟩:=I.loc
  ⟨m,hn,I.bk,Nat.le_trans I.ok.bsz I.ok.above⟩
theorem Inv.lt (I:Inv X pins σ H s):X.env.locals < s.heap.objs.size:=let ⟨_,hn,_⟩:=I.loc; hn.lt
theorem Inv.sz (I:Inv X pins σ H s):X.s₀.heap.objs.size ≤ s.heap.objs.size:=Nat.le_trans I.ok.above (Nat.le_of_lt I.lt)
theorem Inv.nofs (I:Inv X pins σ H s) {a:Addr} (h:s.heap.objs.size ≤ a):a ∉ X.fs:=fun hb => by
  obtain ⟨_,o,ho,_⟩:=I.ok.funs.mem hb
  exact absurd (Nat.lt_of_lt_of_le (Heap.lt_size ho) (Nat.le_trans I.sz h)) (Nat.lt_irrefl _)
theorem Inv.cne (I:Inv X pins σ H s):∀ x c,X.env.cells.lookup x = some c→c ≠ X.env.locals:=fun x c e z => by
  obtain ⟨v,o,ho,hd⟩:=I.cell x c e
  obtain ⟨m,⟨o',es,ep,ho',hd',_⟩,_⟩:=I.loc
  rw [z,ho'] at ho; cases ho; rw [hd'] at hd; cases hd
theorem Inv.funs (I:Inv X pins σ H s):s.heap.FunFrames X.base X.outer:=by
  have all:∀ (l:List Env),(∀ b ∈ frs l,b ∈ X.fs)→X.s₀.heap.FunFrames X.base l→s.heap.FunFrames X.base l:=by
    intro l
    induction l with
    | nil => intro _ _; trivial
    | cons env r ih =>
      intro hs hl
      obtain ⟨hk,⟨L,o,hf,hn,ho,hd⟩,hr⟩:=hl
      have hL:L ∈ X.fs:=hs L (by unfold frs; rw [List.filterMap_cons,hf]; exact List.mem_cons_self)
      obtain ⟨sl,e⟩:=I.base.slot L o ho (I.ok.frf L hL) hL fun z => I.ok.exfs L z hL
      exact ⟨hk,⟨L,_,hf,hn,e,hd⟩,ih (fun b hb => hs b (by unfold frs; rw [List.filterMap_cons,hf]; exact List.mem_cons_of_mem _ hb)) hr⟩
  exact all X.outer (fun _ hb => hb) I.ok.funs

theorem Inv.stack (I:Inv X pins σ H s):s.heap.FunFrames X.base X.stack:=by
  rcases I.ok.stk with e | ⟨e,hf⟩
  · rw [e]; exact I.funs
  · rw [e]
    obtain ⟨m,hn,_⟩:=I.loc
    refine .cons (by rw [I.ok.kind]; decide) hf hn ?_ I.funs
    exact Heap.get?_none_of_le (Nat.le_trans I.ok.bsz I.ok.above)
theorem Inv.stkSub (I:Inv X pins σ H s):∀ b ∈ frs X.stack,b ∈ X.env.locals :: X.fs:=fun b hb => by
  rcases I.ok.stk with e | ⟨e,hf⟩
  · rw [e] at hb; exact List.mem_cons_of_mem _ hb
  · rw [e] at hb
    unfold frs at hb
    rw [List.filterMap_cons,hf] at hb
    exact hb
theorem Inv.stkFree (I:Inv X pins σ H s):∀ b ∈ frs X.stack,H b = none:=fun b hb => by
  rcases List.mem_cons.mp (I.stkSub b hb) with e | hb
  · rw [e]; exact I.free
  · obtain ⟨_,o,ho,_⟩:=I.ok.funs.mem hb
    exact I.base.free b o ho (I.ok.frf b hb) fun z => I.ok.exfs b z hb

theorem Inv.step {g':Array GenState} {t':Nat} {d':Drawn} {ch:List Addr} (I:Inv X pins σ H s)
    (hch:∀ b ∈ ch,(b ∈ X.ex ∨ X.s₀.heap.objs.size ≤ b)∧b ≠ X.env.locals∧(∀ x c,X.env.cells.lookup x = some c→c ≠ b)∧∀ p ∈ X.pn ++ pins,p.1 ≠ b)
    (keep:∀ b o,b ≠ X.env.locals→b ∉ X.fs→b ∉ ch→s.heap.get? b = some o→H b = none→h'.get? b = some o)
    (slot:∀ b o,b ≠ X.env.locals→b ∈ X.fs→b ∉ ch→s.heap.get? b = some o→H b = none→∃ sl,h'.get? b = some { o with slots:=sl }) (free:∀ b o,b ∉ ch→s.heap.get? b = some o→H b = none→H' b = none)
    (there:∀ b o,b ∉ ch→s.heap.get? b = some o→∃ o',h'.get? b = some o')
    (tups:∀ b xs,H b = some (.tup xs)→H' b = some (.tup xs)) (frzs:∀ b o u,H b = some (.frz o u)→H' b = some (.frz o u)) (tbls:∀ b ps,H b = some (.tbl ps)→∃ more,H' b = some (.tbl (ps ++ more)))
    (ns:∀ m,s.heap.Ns X.env.locals m→h'.Ns X.env.locals m) (hok:HOk X.prog X.w H' h') (hg:AllBare g') :
    Inv X pins σ H' { s with heap:=h',gens:=g',drawn:=d',toks:=t' }:=by
  have neL:∀ b o,X.s₀.heap.get? b = some o→b ≠ X.env.locals:=fun b o e => Nat.ne_of_lt (Nat.lt_of_lt_of_le (Heap.lt_size e) I.ok.above)
  have neC:∀ b o,X.s₀.heap.get? b = some o→b ∉ X.ex→b ∉ ch:=fun b o e hx hb => by
    rcases (hch b hb).1 with z | z
    · exact hx z
    · exact absurd (Nat.lt_of_lt_of_le (Heap.lt_size e) z) (Nat.lt_irrefl _)
  have cellK:∀ x c,X.env.cells.lookup x = some c→∀ v,s.heap.IsCell c v→h'.IsCell c v:=fun x c e v x__1 => by
    obtain ⟨o,ho,hd⟩:=x__1
    have nch:c ∉ ch:=fun z => (hch c z).2.2.1 x c e rfl
    by_cases hc:c ∈ X.fs
    · obtain ⟨sl,q⟩:=slot c o (I.cne x c e) hc nch ho (I.freeC x c e)
      exact ⟨_,q,hd⟩
    · exact ⟨o,keep c o (I.cne x c e) hc nch ho (I.freeC x c e),hd⟩
  refine ⟨I.ok,I.os,hg,⟨fun b o e n hb hx => ?_,fun b o e n hb hx => ?_,fun b o e n hx => ?_,fun b o e hx => ?_,fun b xs e => tups b xs (I.base.tups b xs e),fun b o xs e => frzs b o xs (I.base.frzs b o xs e),fun b ps e => ?_⟩,?_,fun x c e => ?_,?_,fun x c e => ?_,fun p hp => ?_,hok,I.len⟩
  · exact keep b o (neL b o e) hb (neC b o e hx) (I.base.keep b o e n hb hx) (I.base.free b o e n hx)
  · obtain ⟨sl,e1⟩:=I.base.slot b o e n hb hx
    obtain ⟨sl',e2⟩:=slot b _ (neL b o e) hb (neC b o e hx) e1 (I.base.free b o e n hx)
    exact ⟨sl',e2⟩
  · obtain ⟨o',e1⟩:=I.base.there b o e hx
    exact free b o' (neC b o e hx) e1 (I.base.free b o e n hx)
  · obtain ⟨o',e1⟩:=I.base.there b o e hx
    exact there b o' (neC b o e hx) e1
  · obtain ⟨m1,e1⟩:=I.base.tbls b ps e
    obtain ⟨m2,e2⟩:=tbls b _ e1
    exact ⟨m1 ++ m2,by rw [e2,Array.append_assoc]⟩
  · obtain ⟨m,hn,hl⟩:=I.loc
    refine ⟨m,ns m hn,fun i x v e1 e2 e3 => ?_⟩
    obtain ⟨u,r,l⟩:=hl i x v e1 e2 e3
    refine ⟨u,r,?_⟩
    rcases l with l | ⟨k,c,e,z⟩
    · exact .inl l
    · exact .inr ⟨k,c,e,cellK x c e _ z⟩
  · obtain ⟨v,z⟩:=I.cell x c e
    exact ⟨v,cellK x c e v z⟩
  · obtain ⟨m,⟨o,_,_,ho,_⟩,_⟩:=I.loc
    exact free _ o (fun z => (hch _ z).2.1 rfl) ho I.free
  · obtain ⟨v,o,ho,hd⟩:=I.cell x c e
    exact free c o (fun z => (hch c z).2.2.1 x c e rfl) ho (I.freeC x c e)
  · obtain ⟨e,n,ne,nf,d⟩:=I.pin p hp
    have nch:p.1 ∉ ch:=fun z => (hch p.1 z).2.2.2 p hp rfl
    exact ⟨keep p.1 p.2 ne nf nch e n,free p.1 p.2 nch e n,ne,nf,d⟩
theorem Inv.un {t':Nat} (I:Inv X pins σ H s) (u:Un X.fs [] H H' s.heap h') (hok:HOk X.prog X.w H' h'):Inv X pins σ H' { s with heap:=h',toks:=t' }:=by
  obtain ⟨m,⟨o,es,ep,ho,r⟩,_⟩:=id I.loc
  obtain ⟨sl,hL⟩:=u.any ho I.free (by simp)
  exact I.step (g':=s.gens) (d':=s.drawn) (ch:=[]) (fun _ z => nomatch z) (fun b o _ hb _ e n => u.keep b o e n hb (by simp)) (fun b o _ hb _ e n => u.slot b o e n hb (by simp)) (fun b o _ e n => u.free b o e n (by simp)) (fun b o _ e => u.there b o e (by simp)) u.tups u.frzs u.tbls (fun m' hm => by
    obtain ⟨o',es',ep',ho',r'⟩:=hm
    rw [ho] at ho'; cases ho'
    exact ⟨_,es',ep',hL,r'⟩) hok I.bare
theorem Inv.call {g':Array GenState} {t':Nat} {d':Drawn} {ch:List Addr} (I:Inv X pins σ H s) (u:Un (frs X.stack) ch H H' s.heap h') (hok:HOk X.prog X.w H' h') (hg:AllBare g')
    (hch:∀ b ∈ ch,(b ∈ X.ex ∨ X.s₀.heap.objs.size ≤ b)∧b ≠ X.env.locals∧(∀ x c,X.env.cells.lookup x = some c→c ≠ b)∧∀ p ∈ X.pn ++ pins,p.1 ≠ b) :
    Inv X pins σ H' { s with heap:=h',gens:=g',drawn:=d',toks:=t' }:=by
  obtain ⟨m,⟨o,es,ep,ho,r⟩,_⟩:=id I.loc
  obtain ⟨sl,hL⟩:=u.any ho I.free fun z => (hch _ z).2.1 rfl
  exact I.step (ch:=ch) hch (fun b o hL hb hc e n => u.keep b o e n (fun z => (List.mem_cons.mp (I.stkSub b z)).elim hL hb) hc) (fun b o _ _ hc e n => u.any e n hc) (fun b o hc e n => u.free b o e n hc) (fun b o hc e => u.there b o e hc) u.tups u.frzs u.tbls (fun m' hm => by
    obtain ⟨o',es',ep',ho',r'⟩:=hm
    rw [ho] at ho'; cases ho'
    exact ⟨_,es',ep',hL,r'⟩) hok hg
theorem Inv.turned {t':Nat} {it:Addr} (I:Inv X pins σ H s) (k:∀ b o,b ≠ it→s.heap.get? b = some o→h'.get? b = some o) (hn:H it = none) (hL:it ≠ X.env.locals)
    (h1:it ∈ X.ex ∨ X.s₀.heap.objs.size ≤ it) (h2:∀ x c,X.env.cells.lookup x = some c→c ≠ it) (h3:∀ p ∈ X.pn ++ pins,p.1 ≠ it):Inv X pins σ H { s with heap:=h',toks:=t' }:=by
  have nit:∀ b u,H b = some u→b ≠ it:=fun b u e z => by rw [z,hn] at e; cases e
  refine I.step (g':=s.gens) (d':=s.drawn) (ch:=[it]) (fun b hb => ?_) (fun b o _ _ hc e _ => k b o (fun z => hc (by simp [z])) e) (fun b o _ _ hc e _ => ⟨o.slots,k b o (fun z => hc (by simp [z])) e⟩) (fun _ _ _ _ n => n)
    (fun b o hc e => ⟨o,k b o (fun z => hc (by simp [z])) e⟩) (fun _ _ e => e) (fun _ _ _ e => e) (fun b ps e => ⟨#[],by rw [e]; simp⟩) (fun m hm => ?_) (fun b u e => ?_) I.bare
  · have e:b = it:=by simpa using hb
    subst e
    exact ⟨h1,hL,h2,h3⟩
  · obtain ⟨o,es,ep,ho,r⟩:=hm
    exact ⟨o,es,ep,k _ o (Ne.symm hL) ho,r⟩
  · refine (I.hok b u e).stay (fun c v hc q => k c v ?_ q) (fun _ q => q) fun _ _ q => q
    rcases hc with z | z
    · rw [z]; exact nit b u e
    · exact nit c _ z
theorem Inv.tok (I:Inv X pins σ H s) (t:Nat):Inv X pins σ H { s with toks:=t }:=I.un (h':=s.heap) (t':=t) Un.refl I.hok
theorem Inv.kept {t':Nat} (I:Inv X pins σ H s) (k:∀ b u,s.heap.get? b = some u→h'.get? b = some u):Inv X pins σ H { s with heap:=h',toks:=t' }:=I.un (Un.kept k) (I.hok.kept k)
theorem Inv.laid {a:Addr} {o:HO} {t':Nat} (I:Inv X pins σ H s) (k:∀ b u,s.heap.get? b = some u→h'.get? b = some u) (hp:s.heap.objs.size ≤ a) (new:ObjOk X.prog X.w (upd H a o) h' a o) :
    Inv X pins σ (upd H a o) { s with heap:=h',toks:=t' }:=I.un (Un.laid k hp (I.hok.fresh hp)) (I.hok.laid k hp new)
theorem Inv.write {x e:Addr} {o:HO} {t':Nat} (I:Inv X pins σ H s) (mu:Mut (H x)) (he:e = x ∨ H e = some (.own x)) (k:∀ b u,b ≠ e→s.heap.get? b = some u→h'.get? b = some u) (heo:∃ u,h'.get? e = some u)
    (new:ObjOk X.prog X.w (upd H x o) h' x o):Inv X pins σ (upd H x o) { s with heap:=h',toks:=t' }:=I.un (Un.write mu he k heo) (I.hok.write mu he k heo new)
theorem Inv.weak {σ':List (Option V)} (I:Inv X pins σ H s) (hl:σ'.length = σ.length) (w:∀ (i:Nat) v,σ'[i]? = some (some v)→σ[i]? = some (some v)):Inv X pins σ' H s :=
  ⟨I.ok,I.os,I.bare,I.base,let ⟨m,hn,hl'⟩:=I.loc; ⟨m,hn,fun i x v e1 e2 e3 => hl' i x v e1 (w i v e2) e3⟩,I.cell,I.free,I.freeC,I.pin,I.hok,hl.trans I.len⟩
theorem Inv.pins_of {pins':List (Addr × Obj)} (I:Inv X pins σ H s) (h:∀ p ∈ pins',s.heap.get? p.1 = some p.2∧H p.1 = none∧p.1 ≠ X.env.locals∧p.1 ∉ X.fs∧∀ v,p.2.data ≠ .cell v):Inv X pins' σ H s :=
  ⟨I.ok,I.os,I.bare,I.base,I.loc,I.cell,I.free,I.freeC,fun p hp => (List.mem_append.mp hp).elim (fun z => I.pin p (List.mem_append_left _ z)) (h p),I.hok,I.len⟩

theorem nodup_ix {N:List Str} (hN:N.Nodup) {i j:Nat} {x:Str} (a:N[i]? = some x) (b:N[j]? = some x):i = j:=by
  obtain ⟨h1,e1⟩:=List.getElem?_eq_some_iff.mp a
  obtain ⟨h2,e2⟩:=List.getElem?_eq_some_iff.mp b
  exact (List.getElem_inj hN).mp (e1.trans e2.symm)

theorem store_ok2 {M:Model} {A:Around} {E:Value→Shared→Prop} {i:Nat} {x:Str} {v:V} {u:Value} {Q:Unit→Shared→Prop} (I:Inv X pins σ H s) (hN:X.N.Nodup) (hi:X.N[i]? = some x) (hx:Loc X.env.scope x) (r:RelV v u)
    (h:∀ s',Inv X pins (σ.set i (some v)) H s'→(∃ a,Heap.SameBut a s.heap s'.heap∧(a = X.env.locals ∨ X.env.cells.lookup x = some a))→Q () s') (hf:X.fn x = true ∨ X.env.scope.names.lookup x = some .local:=by first | exact .inl rfl | exact .inr rfl | assumption):wpAny M A (storeName X.env x u) Q E s:=by
  obtain ⟨m,hn,hl⟩:=id I.loc
  have hcls:(X.env.scope.kind == .class || (X.env.scope.kind == .module && X.env.locals != X.env.globals)) = false:=by rw [I.ok.kind]; rfl
  have hiσ:i < σ.length:=by rw [I.len]; exact (List.getElem?_eq_some_iff.mp hi).1
  have cne:=I.cne
  have tracked:∀ {a:Addr} {h':Heap},(∃ o,s.heap.get? a = some o∧H a = none)→Heap.SameBut a s.heap h'→HOk X.prog X.w H h':=fun {a h'} ha hs b ob e => by
    obtain ⟨_,_,hfree⟩:=ha
    refine (I.hok b ob e).stay (fun c w' hc q => (hs.2 c ?_).trans q) (fun _ q => q) fun _ _ q => q
    rintro rfl
    rcases hc with rfl | hc
    · rw [hfree] at e; cases e
    · rw [hfree] at hc; cases hc
  rcases hx with hk | hk
  · refine wpAny_storeName_local hk hn (fun h' hn' hs => ?_) hcls
    obtain ⟨oL,_,_,hoL,_⟩:=id hn
    refine h _ ⟨I.ok,I.os,I.bare,⟨fun b o e n hb hx => ?_,fun b o e n hb hx => ?_,I.base.free,fun b o e hx => ?_,I.base.tups,I.base.frzs,I.base.tbls⟩,⟨_,hn',fun j y v' e1 e2 e3 => ?_⟩,fun y c e => ?_,I.free,I.freeC,fun p hp => ?_,tracked ⟨oL,hoL,I.free⟩ hs,by simpa using I.len⟩ ⟨_,hs,.inl rfl⟩
    · exact (hs.2 b (Nat.ne_of_lt (Nat.lt_of_lt_of_le (Heap.lt_size e) I.ok.above))).trans (I.base.keep b o e n hb hx)
    · obtain ⟨sl,e1⟩:=I.base.slot b o e n hb hx
      exact ⟨sl,(hs.2 b (Nat.ne_of_lt (Nat.lt_of_lt_of_le (Heap.lt_size e) I.ok.above))).trans e1⟩
    · obtain ⟨o',e1⟩:=I.base.there b o e hx
      exact ⟨o',(hs.2 b (Nat.ne_of_lt (Nat.lt_of_lt_of_le (Heap.lt_size e) I.ok.above))).trans e1⟩
    · by_cases hj:j = i
      · subst hj
        rw [hi] at e1; cases e1
        rw [List.getElem?_set_self hiσ] at e2
        cases e2
        exact ⟨u,r,.inl ⟨hk,by simp⟩⟩
      · rw [List.getElem?_set_ne (Ne.symm hj)] at e2
        obtain ⟨u',r',q⟩:=hl j y v' e1 e2 e3
        refine ⟨u',r',?_⟩
        rcases q with ⟨k,e⟩ | ⟨k,c,e,z⟩
        · refine .inl ⟨k,?_⟩
          have:y ≠ x:=fun e => hj (nodup_ix hN e1 (e ▸ hi))
          simp [this,e]
        · exact .inr ⟨k,c,e,z.sameBut hs (cne y c e)⟩
    · obtain ⟨w',z⟩:=I.cell y c e
      exact ⟨w',z.sameBut hs (cne y c e)⟩
    · obtain ⟨e,n,ne,nf,d⟩:=I.pin p hp
      exact ⟨(hs.2 p.1 ne).trans e,n,ne,nf,d⟩
  · have hfn:X.fn x = true:=by
      rcases hf with z | z
      · exact z
      · rw [z] at hk; cases hk
    obtain ⟨c,hc⟩:=I.ok.has x (.inl hk)
    obtain ⟨w',z⟩:=I.cell x c hc
    refine wpAny_storeName_cell I.ok.kind hk hc z (fun h' hc' hs => ?_)
    obtain ⟨oc,hoc,hocd⟩:=id z
    refine h { s with heap:=h' } ⟨I.ok,I.os,I.bare,⟨fun b o e n hb hx => ?_,fun b o e n hb hx => ?_,I.base.free,fun b o e hx => ?_,I.base.tups,I.base.frzs,I.base.tbls⟩,⟨m,hn.sameBut hs (Ne.symm (cne x c hc)),fun j y v' e1 e2 e3 => ?_⟩,fun y c' e => ?_,I.free,I.freeC,fun p hp => ?_,tracked ⟨oc,hoc,I.freeC x c hc⟩ hs,by simpa using I.len⟩ ⟨c,hs,.inr hc⟩
    · exact (hs.2 b (Nat.ne_of_lt (Nat.lt_of_lt_of_le (Heap.lt_size e) (I.ok.cab x c hfn hc)))).trans (I.base.keep b o e n hb hx)
    · obtain ⟨sl,e1⟩:=I.base.slot b o e n hb hx
      exact ⟨sl,(hs.2 b (Nat.ne_of_lt (Nat.lt_of_lt_of_le (Heap.lt_size e) (I.ok.cab x c hfn hc)))).trans e1⟩
    · obtain ⟨o',e1⟩:=I.base.there b o e hx
      exact ⟨o',(hs.2 b (Nat.ne_of_lt (Nat.lt_of_lt_of_le (Heap.lt_size e) (I.ok.cab x c hfn hc)))).trans e1⟩
    · by_cases hj:j = i
      · subst hj
        rw [hi] at e1; cases e1
        rw [List.getElem?_set_self hiσ] at e2
        cases e2
        exact ⟨u,r,.inr ⟨.inl hk,c,hc,hc'⟩⟩
      · rw [List.getElem?_set_ne (Ne.symm hj)] at e2
        obtain ⟨u',r',q⟩:=hl j y v' e1 e2 e3
        refine ⟨u',r',?_⟩
        rcases q with q | ⟨k,c',e,z'⟩
        · exact .inl q
        · refine .inr ⟨k,c',e,z'.sameBut hs ?_⟩
          rintro rfl
          exact hj (nodup_ix hN e1 (I.ok.inj _ _ _ e hc ▸ hi))
    · by_cases hcc:c' = c
      · subst hcc; exact ⟨_,hc'⟩
      · obtain ⟨w2,z2⟩:=I.cell y c' e
        exact ⟨w2,z2.sameBut hs hcc⟩
    · obtain ⟨e,n,ne,nf,d⟩:=I.pin p hp
      refine ⟨(hs.2 p.1 ?_).trans e,n,ne,nf,d⟩
      intro q
      rw [q,hoc] at e
      have q':oc = p.2:=Option.some.inj e
      exact d w' (by rw [← q']; exact hocd)
theorem store_ok {M:Model} {A:Around} {E:Value→Shared→Prop} {i:Nat} {x:Str} {v:V} {u:Value} {Q:Unit→Shared→Prop} (I:Inv X pins σ H s) (hN:X.N.Nodup) (hi:X.N[i]? = some x) (hx:Loc X.env.scope x) (r:RelV v u)
    (h:∀ s',Inv X pins (σ.set i (some v)) H s'→Q () s') (hf:X.fn x = true ∨ X.env.scope.names.lookup x = some .local:=by first | exact .inl rfl | exact .inr rfl | assumption):wpAny M A (storeName X.env x u) Q E s :=
  store_ok2 I hN hi hx r (fun s' I' _ => h s' I') hf
theorem Inv.call' {s':Shared} {ch:List Addr} (I:Inv X pins σ H s) (ho:s'.os = s.os) (u:Un (frs X.stack) ch H H' s.heap s'.heap) (hok:HOk X.prog X.w H' s'.heap) (hg:AllBare s'.gens)
    (hch:∀ b ∈ ch,(b ∈ X.ex ∨ X.s₀.heap.objs.size ≤ b)∧b ≠ X.env.locals∧(∀ x c,X.env.cells.lookup x = some c→c ≠ b)∧∀ p ∈ X.pn ++ pins,p.1 ≠ b):Inv X pins σ H' s':=by
  obtain ⟨h',g',d',t',o'⟩:=s'
  have e:o' = s.os:=ho
  subst e
  exact I.call (g':=g') (t':=t') (d':=d') u hok hg hch
end

noncomputable abbrev XK:=Value→Option Addr→Hp→Prop
noncomputable abbrev St:=List (Option V)
noncomputable abbrev VK:=V→Hp→Prop
noncomputable abbrev TE:=St→Hp→VK→Prop
noncomputable abbrev TT:=St→Hp→(Bool→Hp→Prop)→Prop
noncomputable abbrev TA:=St→Hp→(List V→Hp→Prop)→Prop
structure Ends where
  nx:St→Hp→Prop
  rt:VK
  bk:St→Hp→Prop:=fun _ _ => False
  ct:St→Hp→Prop:=fun _ _ => False
noncomputable abbrev TS:=Ends→St→Hp→Prop

inductive NP (X:Cx) (pins:List (Addr × Obj)) (Q:St→Hp→Prop) (s':Shared):Prop
  | mk (σ':St) (H':Hp) (h0:Inv X pins σ' H' s') (h1:Q σ' H')
inductive RP (X:Cx) (pins:List (Addr × Obj)) (Q:VK) (u:Value) (s':Shared):Prop
  | mk (v:V) (σ':St) (H':Hp) (h0:Inv X pins σ' H' s') (h1:RelV v u) (h2:Q v H')
inductive EP (X:Cx) (pins:List (Addr × Obj)) (σ:St) (Q:VK) (u:Value) (s':Shared):Prop
  | mk (v:V) (H':Hp) (h0:Inv X pins σ H' s') (h1:RelV v u) (h2:Q v H')
inductive TP (X:Cx) (pins:List (Addr × Obj)) (σ:St) (Q:Bool→Hp→Prop) (b:Bool) (s':Shared):Prop
  | mk (H':Hp) (h0:Inv X pins σ H' s') (h1:Q b H')
inductive AP (X:Cx) (pins:List (Addr × Obj)) (σ:St) (Q:List V→Hp→Prop) (us:List Value) (s':Shared):Prop
  | mk (vs:List V) (H':Hp) (h0:Inv X pins σ H' s') (h1:Vals vs us) (h2:Q vs H')
noncomputable def SP (X:Cx) (pins:List (Addr × Obj)) (D:Ends) (f:Flow) (s':Shared):Prop :=
  match f with
  | .next => NP X pins D.nx s'
  | .brk => NP X pins D.bk s'
  | .cont => NP X pins D.ct s'
  | .ret u => RP X pins D.rt u s'

noncomputable def PE (X:Cx) (e:Expr) (t:TE):Prop :=
  ∀ (pins:List (Addr × Obj)) (s:Shared) (σ:St) (H:Hp) (Q:VK),Inv X pins σ H s→t σ H Q→wpAny (model X.prog X.w) X.A (eval e X.env) (EP X pins σ Q) X.xe s
noncomputable def PT (X:Cx) (e:Expr) (t:TT):Prop :=
  ∀ (pins:List (Addr × Obj)) (s:Shared) (σ:St) (H:Hp) (Q:Bool→Hp→Prop),Inv X pins σ H s→t σ H Q→wpAny (model X.prog X.w) X.A (isTrue e X.env (eval e X.env)) (TP X pins σ Q) X.xe s
noncomputable def PW (X:Cx) (e:Expr) (t:TT):Prop :=
  ∀ (whole:Sem Value) (pins:List (Addr × Obj)) (s:Shared) (σ:St) (H:Hp) (Q:Bool→Hp→Prop),Inv X pins σ H s→t σ H Q→wpAny (model X.prog X.w) X.A (isTrue e X.env whole) (TP X pins σ Q) X.xe s
theorem PW.pt {X:Cx} {e:Expr} {t:TT} (h:PW X e t):PT X e t:=h _
noncomputable def PA (X:Cx) (es:List Expr) (t:TA):Prop :=
  ∀ (pos:Pos) (pins:List (Addr × Obj)) (s:Shared) (σ:St) (H:Hp) (Q:List V→Hp→Prop),Inv X pins σ H s→t σ H Q→wpAny (model X.prog X.w) X.A (spliced (backTo pos (starEach es X.env))) (AP X pins σ Q) X.xe s
noncomputable def PS (X:Cx) (st:Stmt) (t:TS):Prop :=
  ∀ (pins:List (Addr × Obj)) (s:Shared) (σ:St) (H:Hp) (D:Ends),Inv X pins σ H s→t D σ H→wpAny (model X.prog X.w) X.A (exec st X.env) (SP X pins D) X.xe s
noncomputable def PSs (X:Cx) (st:List Stmt) (t:TS):Prop :=
  ∀ (pins:List (Addr × Obj)) (s:Shared) (σ:St) (H:Hp) (D:Ends),Inv X pins σ H s→t D σ H→wpAny (model X.prog X.w) X.A (execs st X.env) (SP X pins D) X.xe s
theorem thn {α:Type} {t:Sem α} {Q Q':α→Shared→Prop} {M:Model} {A:Around} {E:Value→Shared→Prop} {s:Shared} (h:wpAny M A t Q E s) (hQ:∀ a s,Q a s→Q' a s):wpAny M A t Q' E s:=wpAny_mono h hQ fun _ _ x => x
end L2

namespace L2
open PySem PySem.Spec PyProof.Rows
section
variable {X:Cx}

noncomputable def tVar (i:Nat):TE:=fun σ H Q => ∃ v,σ[i]? = some (some v)∧Q v H
noncomputable def tC (v:V):TE:=fun _ H Q => Q v H
theorem pe_var {i:Nat} {x:Str} {pos:Pos} (hN:X.N[i]? = some x) (hv:Vis X.env.scope x) (hd:(x == ("__debug__":Str)) = false:=by decide) (hcd:(x == ("__classdict__":Str)) = false:=by decide):PE X (.Name x pos) (tVar i):=by
  intro pins s σ H Q I h
  obtain ⟨v,e,h⟩:=h
  obtain ⟨m,hn,hl⟩:=I.loc
  obtain ⟨u,r,l⟩:=hl i x v hN e hv
  have fin:EP X pins σ Q u s:=⟨v,H,I,r,h⟩
  rcases l with ⟨hk,hm⟩ | ⟨hk,c,hc,hcell⟩
  · exact wpAny_Name (wpAny_loadName_local I.ok.kind hk hn hm fin) hd
  · rcases hk with hk | hk
    · exact wpAny_Name (wpAny_loadName_cell I.ok.kind hk hc hcell fin) hd
    · exact wpAny_Name (wpAny_loadName_free I.ok.kind hk hc hcell fin hcd) hd
theorem pe_int {i j pos}:PE X (.Constant (.int i) j pos) (tC (.int i)):=fun _ _ _ H _ I h => wpAny_Constant_int ⟨.int i,H,I.tok _,⟨_,rfl⟩,h⟩
theorem pe_bl {b j pos}:PE X (.Constant (.bool b) j pos) (tC (.bl b)):=fun _ _ _ H _ I h => Constant_bool ⟨.bl b,H,I,rfl,h⟩
theorem pe_non {j pos}:PE X (.Constant .none j pos) (tC .non):=fun _ _ _ H _ I h => Constant_none ⟨.non,H,I,rfl,h⟩
theorem pe_str {x j pos}:PE X (.Constant (.str x) j pos) (tC (.str x)):=fun _ _ _ H _ I h => Calls.Constant_str ⟨.str x,H,I.tok _,⟨_,rfl⟩,h⟩

noncomputable def Gl (X:Cx) (x:Str):Prop:=X.env.kindOf x = some .globalImplicit
theorem ld_glob {E:Value→Shared→Prop} {pins:List (Addr × Obj)} {s:Shared} {σ:St} {H:Hp} {x:Str} {u:Value} {pos:Pos} {Q:Value→Shared→Prop} (I:Inv X pins σ H s) (hg:Gl X x) (hm:X.mg x = some u) (h:Q u s)
    (hd:(x == ("__debug__":Str)) = false:=by decide):wpAny (model X.prog X.w) X.A (eval (.Name x pos) X.env) Q E s :=
  Calls.Name_function_global I.ok.kind hg (Calls.loadGlobal_global (by rw [I.ok.glob]; exact I.mod.glob.keeps I.bk) hm h) hd
theorem ld_blt {E:Value→Shared→Prop} {pins:List (Addr × Obj)} {s:Shared} {σ:St} {H:Hp} {x:Str} {u:Value} {pos:Pos} {Q:Value→Shared→Prop} (I:Inv X pins σ H s) (hg:Gl X x) (hm:X.mg x = none) (hv:bootBuiltins x = some u) (h:Q u s)
    (hn:x ≠ "__name__":=by decide) (hd:(x == ("__debug__":Str)) = false:=by decide):wpAny (model X.prog X.w) X.A (eval (.Name x pos) X.env) Q E s:=by
  obtain ⟨mb,h1,h2⟩:=I.mod.blt
  exact Calls.Name_function_global I.ok.kind hg (Calls.loadGlobal_builtin (by rw [I.ok.glob]; exact I.mod.glob.keeps I.bk) hm (by rw [I.ok.blt]; exact h1.keeps I.bk) ((h2 x hn).trans hv) h) hd
theorem pe_glob {x:Str} {v:V} {u:Value} {pos:Pos} (hg:Gl X x) (hm:X.mg x = some u) (r:RelV v u) (hd:(x == ("__debug__":Str)) = false:=by decide):PE X (.Name x pos) (tC v) :=
  fun _ _ _ H _ I h => ld_glob I hg hm ⟨v,H,I,r,h⟩ hd
theorem pe_bltn {x:Str} {v:V} {u:Value} {pos:Pos} (hg:Gl X x) (hm:X.mg x = none) (hv:bootBuiltins x = some u) (r:RelV v u) (hn:x ≠ "__name__":=by decide) (hd:(x == ("__debug__":Str)) = false:=by decide):PE X (.Name x pos) (tC v) :=
  fun _ _ _ H _ I h => ld_blt I hg hm hv ⟨v,H,I,r,h⟩ hn hd

variable {a b:Expr} {ta tb:TE} {pos:Pos}
variable {tA tB':TT} {rest:List Expr}
noncomputable def tAnd (t u:TT):TT:=fun σ H Q => t σ H fun c H1 => if c = true then u σ H1 Q else Q false H1
noncomputable def tOr (t u:TT):TT:=fun σ H Q => t σ H fun c H1 => if c = true then Q true H1 else u σ H1 Q
noncomputable def tNot (t:TT):TT:=fun σ H Q => t σ H fun c H1 => Q (!c) H1
theorem pw_and1 (ha:PT X a tA):PW X (.BoolOp .And [a] pos) tA:=by
  intro wh pins s σ H Q I h
  refine isTrue_and (thn (ha pins s σ H Q I h) fun c s1 e => ?_)
  cases c with
  | true => exact isTrue_and_nil e
  | false => exact e
theorem pw_or1 (ha:PT X a tA):PW X (.BoolOp .Or [a] pos) tA:=by
  intro wh pins s σ H Q I h
  refine isTrue_or (thn (ha pins s σ H Q I h) fun c s1 e => ?_)
  cases c with
  | false => exact isTrue_or_nil e
  | true => exact e
theorem pw_and (ha:PT X a tA) (hb:PW X (.BoolOp .And (b :: rest) pos) tB'):PW X (.BoolOp .And (a :: b :: rest) pos) (tAnd tA tB'):=by
  intro wh pins s σ H Q I h
  refine isTrue_and (thn (ha pins s σ H _ I h) fun c s1 x__2 => ?_)
  obtain ⟨H1,I1,q1⟩:=x__2
  cases c with
  | true => exact hb wh pins s1 σ H1 Q I1 q1
  | false => exact ⟨H1,I1,q1⟩
theorem pw_or (ha:PT X a tA) (hb:PW X (.BoolOp .Or (b :: rest) pos) tB'):PW X (.BoolOp .Or (a :: b :: rest) pos) (tOr tA tB'):=by
  intro wh pins s σ H Q I h
  refine isTrue_or (thn (ha pins s σ H _ I h) fun c s1 x__3 => ?_)
  obtain ⟨H1,I1,q1⟩:=x__3
  cases c with
  | true => exact ⟨H1,I1,q1⟩
  | false => exact hb wh pins s1 σ H1 Q I1 q1
theorem pt_not (ha:PT X a tA):PT X (.UnaryOp .Not a pos) (tNot tA):=by
  intro pins s σ H Q I h
  exact isTrue_not (thn (ha pins s σ H (fun c H1 => Q (!c) H1) I h) fun c s1 x__4 => (by obtain ⟨H1,I1,q1⟩:=x__4; exact ⟨H1,I1,q1⟩))
noncomputable def tAndV (ta tb:TE):TE:=fun σ H Q => ta σ H fun x H1 => ∃ c,x = .bl c∧if c = true then tb σ H1 Q else Q (.bl false) H1
noncomputable def tNotV (ta:TE):TE:=fun σ H Q => ta σ H fun x H1 => ∃ c,x = .bl c∧Q (.bl (!c)) H1
theorem pe_one {op} {t:TE} (h:PE X a t):PE X (.BoolOp op [a] pos) t:=fun pins s σ H Q I hw => BoolOp_one (h pins s σ H Q I hw)
theorem pe_and (ha:PE X a ta) (hb:PE X (.BoolOp .And (b :: rest) pos) tb):PE X (.BoolOp .And (a :: b :: rest) pos) (tAndV ta tb):=by
  intro pins s σ H Q I h
  refine BoolOp_and (thn (ha pins s σ H _ I h) fun v s1 x__5 => ?_)
  obtain ⟨x,H1,I1,r1,q1⟩:=x__5
  obtain ⟨c,rfl,q1⟩:=q1
  cases r1
  refine wpAny_truthy_bool ?_
  cases c with
  | true => exact hb pins s1 σ H1 Q I1 q1
  | false => exact ⟨.bl false,H1,I1,rfl,q1⟩
theorem pe_not (ha:PE X a ta):PE X (.UnaryOp .Not a pos) (tNotV ta):=by
  intro pins s σ H Q I h
  refine UnaryOp_ (thn (ha pins s σ H _ I h) fun v s1 x__6 => ?_)
  obtain ⟨x,H1,I1,r1,q1⟩:=x__6
  obtain ⟨c,rfl,q1⟩:=q1
  cases r1
  exact not_of (wpAny_truthy_bool ⟨.bl (!c),H1,I1,rfl,q1⟩)
noncomputable def tIf (t:TT) (ta tb:TE):TE:=fun σ H Q => t σ H fun c H1 => if c = true then ta σ H1 Q else tb σ H1 Q
theorem pe_ifExp {c:Expr} (hc:PT X c tA) (ha:PE X a ta) (hb:PE X b tb):PE X (.IfExp c a b pos) (tIf tA ta tb):=by
  intro pins s σ H Q I h
  refine wpAny_IfExp (thn (hc pins s σ H _ I h) fun d s1 x__7 => ?_)
  obtain ⟨H1,I1,q1⟩:=x__7
  cases d with
  | true => exact ha pins s1 σ H1 Q I1 q1
  | false => exact hb pins s1 σ H1 Q I1 q1
end
end L2

namespace L2
open PySem PySem.Spec PyProof.Rows

noncomputable def SqL (K:PySem.W.Frag) (H:Hp) (a:Addr) (xs:List V):Prop :=
  Rd H a (.lst xs) ∨
    ∃ (o:Obj) (its:Array Value) (n:Nat),K.lookup a = some o∧o.cls = .type "list"∧o.dict = none∧o.data = .seq its n∧its.size ≤ sizeLine∧Vals xs its.toList
noncomputable def SqT (K:PySem.W.Frag) (H:Hp) (a:Addr) (xs:List V):Prop :=
  Rd H a (.tup xs) ∨
    ∃ (o:Obj) (its:Array Value) (n:Nat),K.lookup a = some o∧o.cls = .type "tuple"∧o.data = .seq its n∧its.size ≤ sizeLine∧Vals xs its.toList
noncomputable def absV:Value→Option V
  | .none => some .non
  | .bool b => some (.bl b)
  | .int i _ => some (.int i)
  | .str x _ => some (.str x)
  | .bytes b _ => some (.byt b)
  | .float b _ => some (.flt b)
  | .ref a => some (.ref a)
  | .type n => some (.ty n)
  | _ => none
theorem RelV.abs {x:V} {u:Value} (r:RelV x u):absV u = some x:=by
  cases x with
  | non => cases r; rfl
  | bl _ => cases r; rfl
  | int _ => obtain ⟨t,rfl⟩:=r; rfl
  | str _ => obtain ⟨t,rfl⟩:=r; rfl
  | byt _ => obtain ⟨t,rfl⟩:=r; rfl
  | flt _ => obtain ⟨t,rfl⟩:=r; rfl
  | ref _ => cases r; rfl
  | ty _ => cases r; rfl
theorem RelV.inj {x y:V} {u:Value} (r:RelV x u) (q:RelV y u):x = y:=Option.some.inj (r.abs.symm.trans q.abs)
theorem Vals.inj {xs ys:List V} {us:List Value} (h:Vals xs us) (g:Vals ys us):xs = ys:=by
  induction h generalizing ys with
  | nil => cases g; rfl
  | cons r t ih =>
    cases g with
    | cons r' t' => rw [r.inj r',ih t']
section
variable {X:Cx} {pins:List (Addr × Obj)} {σ:St} {H:Hp} {s:Shared} {a:Addr} {xs ys:List V}
theorem SqL.of {K:PySem.W.Frag} (h:H a = some (.lst xs)):SqL K H a xs:=.inl (.inl h)
theorem SqT.of {K:PySem.W.Frag} (h:H a = some (.tup xs)):SqT K H a xs:=.inl (.inl h)
theorem Inv.list (I:Inv X pins σ H s) (h:SqL X.K H a xs):∃ its:List Value,Vals xs its∧PlainL s.heap a its.toArray∧xs.length ≤ sizeLine:=by
  rcases h with h | ⟨o,its,n,hk,hc,hd,hs,hz,r⟩
  · obtain ⟨z,its,n,r,e⟩:=h.ok I.hok
    exact ⟨its,r,⟨_,n,e,rfl,rfl,rfl⟩,z⟩
  · refine ⟨its.toList,r,⟨o,n,I.kIn a o hk,hc,hd,by simpa using hs⟩,?_⟩
    have e:=r.length
    simp only [Array.length_toList] at e
    lia
theorem Inv.tuple (I:Inv X pins σ H s) (h:SqT X.K H a xs):∃ its:List Value,Vals xs its∧IsTup s.heap a its.toArray∧xs.length ≤ sizeLine:=by
  rcases h with h | ⟨o,its,n,hk,hc,hs,hz,r⟩
  · obtain ⟨z,its,r,p⟩:=h.ok I.hok
    exact ⟨its,r,p,z⟩
  · refine ⟨its.toList,r,⟨o,I.kIn a o hk,hc,n,by simpa using hs⟩,?_⟩
    have e:=r.length
    simp only [Array.length_toList] at e
    lia
theorem Inv.list_inj (I:Inv X pins σ H s) (h:SqL X.K H a xs) (h':SqL X.K H a ys):xs = ys:=by
  obtain ⟨its,r,⟨o,n,e,_,_,d⟩,_⟩:=I.list h
  obtain ⟨its',r',⟨o',n',e',_,_,d'⟩,_⟩:=I.list h'
  rw [e] at e'; cases e'
  rw [d] at d'
  injection d' with d1 _
  have:its = its':=by simpa using congrArg Array.toList d1
  subst this
  exact r.inj r'
theorem Inv.tuple_inj (I:Inv X pins σ H s) (h:SqT X.K H a xs) (h':SqT X.K H a ys):xs = ys:=by
  obtain ⟨its,r,⟨o,e,_,n,d⟩,_⟩:=I.tuple h
  obtain ⟨its',r',⟨o',e',_,n',d'⟩,_⟩:=I.tuple h'
  rw [e] at e'; cases e'
  rw [d] at d'
  injection d' with d1 _
  have:its = its':=by simpa using congrArg Array.toList d1
  subst this
  exact r.inj r'
end

noncomputable abbrev Cx.wish (X:Cx) (E:Value→Shared→Prop):Cx:={ X with xe:=E }
noncomputable abbrev Cx.nox (X:Cx):Cx:=X.wish fun _ _ => False
theorem Cx.Ok.wish {X:Cx} (ok:X.Ok) (E:Value→Shared→Prop):(X.wish E).Ok :=
  ⟨ok.mod,ok.kind,ok.glob,ok.blt,ok.above,ok.inj,ok.has,ok.cab,ok.hd,ok.frames,ok.stk,ok.exf,ok.bs,ok.bsz,ok.noex,ok.exfs,ok.funs,ok.frf⟩
theorem Cx.Ok.unwish {X:Cx} {E:Value→Shared→Prop} (ok:(X.wish E).Ok):X.Ok :=
  ⟨ok.mod,ok.kind,ok.glob,ok.blt,ok.above,ok.inj,ok.has,ok.cab,ok.hd,ok.frames,ok.stk,ok.exf,ok.bs,ok.bsz,ok.noex,ok.exfs,ok.funs,ok.frf⟩
section
variable {X:Cx} {pins:List (Addr × Obj)} {σ:St} {H:Hp} {s:Shared} {E:Value→Shared→Prop}
theorem Inv.wish (I:Inv X pins σ H s) (E:Value→Shared→Prop):Inv (X.wish E) pins σ H s:=⟨I.ok.wish E,I.os,I.bare,I.base,I.loc,I.cell,I.free,I.freeC,I.pin,I.hok,I.len⟩
theorem Inv.unwish (I:Inv (X.wish E) pins σ H s):Inv X pins σ H s:=⟨I.ok.unwish,I.os,I.bare,I.base,I.loc,I.cell,I.free,I.freeC,I.pin,I.hok,I.len⟩
theorem SP.unwish {D:Ends} {f:Flow} {s':Shared} (h:SP (X.wish E) pins D f s'):SP X pins D f s':=by
  cases f with
  | next => obtain ⟨σ',H',I,q⟩:=h; exact ⟨σ',H',I.unwish,q⟩
  | brk => obtain ⟨σ',H',I,q⟩:=h; exact ⟨σ',H',I.unwish,q⟩
  | cont => obtain ⟨σ',H',I,q⟩:=h; exact ⟨σ',H',I.unwish,q⟩
  | ret u => obtain ⟨v,σ',H',I,r,q⟩:=h; exact ⟨v,σ',H',I.unwish,r,q⟩
theorem PSs.nox {st:List Stmt} {t:TS} (h:PSs X.nox st t):PSs X st t:=fun pins s σ H D I hw =>
  wpAny_mono (h pins s σ H D (I.wish _) hw) (fun _ _ q => q.unwish) fun _ _ z => False.elim z
end

section
variable {X:Cx} {st:Stmt} {rest:List Stmt} {t u:TS} {e:Expr} {te:TE} {pos:Pos}
noncomputable def tNext:TS:=fun D σ H => D.nx σ H
noncomputable def tSeq (t u:TS):TS:=fun D σ H => t { D with nx:=u D } σ H
theorem pss_nil:PSs X [] tNext:=fun _ _ σ H _ I h => wpAny_execs_nil ⟨σ,H,I,h⟩
theorem pss_cons (h1:PS X st t) (h2:PSs X rest u):PSs X (st :: rest) (tSeq t u):=by
  intro pins s σ H D I h
  refine wpAny_execs_cons (thn (h1 pins s σ H { D with nx:=u D } I h) fun f s1 q => ?_)
  cases f with
  | next =>
    obtain ⟨σ',H',I',q⟩:=q
    exact h2 pins s1 σ' H' D I' q
  | ret v => exact q
  | brk => exact q
  | cont => exact q
theorem pss_one (h1:PS X st t):PSs X [st] t:=by
  intro pins s σ H D I h
  refine wpAny_execs_cons (thn (h1 pins s σ H D I h) fun f s1 q => ?_)
  cases f with
  | next => exact wpAny_execs_nil q
  | ret v => exact q
  | brk => exact q
  | cont => exact q
theorem Inv.quiet {pins:List (Addr × Obj)} {σ:St} {H:Hp} {s:Shared} (I:Inv X pins σ H s):interactive X.env = false:=by simp [interactive,I.ok.kind]
noncomputable def tDrop (te:TE):TS:=fun D σ H => te σ H fun _ H1 => D.nx σ H1
theorem ps_expr (he:PE X e te) (hs:swapsWith e none pos.line X.env = pure false:=by rfl):PS X (.Expr e pos) (tDrop te):=by
  intro pins s σ H D I h
  exact wpAny_Expr_any (thn (he pins s σ H _ I h) fun v s1 x__8 => (by obtain ⟨x,H1,I1,r1,q1⟩:=x__8; exact ⟨σ,H1,I1,q1⟩)) I.quiet hs
noncomputable def tRet (te:TE):TS:=fun D σ H => te σ H D.rt
theorem ps_ret (he:PE X e te):PS X (.Return (some e) pos) (tRet te):=by
  intro pins s σ H D I h
  exact wpAny_Return_some (thn (he pins s σ H _ I h) fun v s1 x__9 => (by obtain ⟨x,H1,I1,r1,q1⟩:=x__9; exact ⟨x,σ,H1,I1,r1,q1⟩))
noncomputable def tIfS (c:TT) (t u:TS):TS:=fun D σ H => c σ H fun b H1 => if b = true then t D σ H1 else u D σ H1
theorem ps_if {c:Expr} {a b:List Stmt} {tc:TT} (hc:PT X c tc) (ha:PSs X a t) (hb:PSs X b u):PS X (.If c a b pos) (tIfS tc t u):=by
  intro pins s σ H D I h
  refine wpAny_If (thn (hc pins s σ H _ I h) fun d s1 x__10 => ?_)
  obtain ⟨H1,I1,q1⟩:=x__10
  cases d with
  | true => exact ha pins s1 σ H1 D I1 q1
  | false => exact hb pins s1 σ H1 D I1 q1
end

noncomputable abbrev TG:=V→St→Hp→(St→Hp→Prop)→Prop
noncomputable abbrev TGs:=List V→St→Hp→(St→Hp→Prop)→Prop
noncomputable def PG (X:Cx) (target:Expr) (t:TG):Prop :=
  ∀ (pins:List (Addr × Obj)) (s:Shared) (σ:St) (H:Hp) (v:V) (u:Value) (Q:St→Hp→Prop),Inv X pins σ H s→RelV v u→t v σ H Q →
    wpAny (model X.prog X.w) X.A (assign target X.env u) (fun _ s' => NP X pins Q s') X.xe s
noncomputable def PGs (X:Cx) (ts:List Expr) (t:TGs):Prop :=
  ∀ (pins:List (Addr × Obj)) (s:Shared) (σ:St) (H:Hp) (vs:List V) (us:List Value) (Q:St→Hp→Prop),Inv X pins σ H s→Vals vs us→t vs σ H Q →
    wpAny (model X.prog X.w) X.A (assignInOrder ((assignEach ts X.env).map (·.2)) us) (fun _ s' => NP X pins Q s') X.xe s
noncomputable abbrev TSet:=V→V→V→Hp→(Hp→Prop)→Prop
noncomputable def PSet (X:Cx) (t:TSet):Prop :=
  ∀ (pins:List (Addr × Obj)) (s:Shared) (σ:St) (H:Hp) (o i v:V) (ov iv u:Value) (Q:Hp→Prop),Inv X pins σ H s→RelV o ov→RelV i iv→RelV v u→t o i v H Q →
    wpAny (model X.prog X.w) X.A (setItem ov iv u) (fun _ s' => ∃ H',Inv X pins σ H' s'∧Q H') X.xe s
noncomputable abbrev TIp:=V→V→Hp→VK→Prop
noncomputable def PIp (X:Cx) (op:Operator) (t:TIp):Prop :=
  ∀ (pins:List (Addr × Obj)) (s:Shared) (σ:St) (H:Hp) (x y:V) (v u:Value) (Q:VK),Inv X pins σ H s→RelV x v→RelV y u→t x y H Q →
    wpAny (model X.prog X.w) X.A (inplaceOp op v u) (EP X pins σ Q) X.xe s
section
variable {X:Cx} {pos:Pos}
noncomputable def gName (i:Nat):TG:=fun v σ H Q => Q (σ.set i (some v)) H
theorem pg_name {i:Nat} {x:Str} (hN:X.N.Nodup) (hi:X.N[i]? = some x) (hx:Loc X.env.scope x) (hf:X.fn x = true ∨ X.env.scope.names.lookup x = some .local:=by first | exact .inl rfl | exact .inr rfl | assumption):PG X (.Name x pos) (gName i):=by
  intro pins s σ H v u Q I r h
  exact wpAny_assign_Name (store_ok I hN hi hx r (fun s' I' => ⟨_,H,I',h⟩) hf)
noncomputable def gNil:TGs:=fun vs σ H Q => vs = []∧Q σ H
noncomputable def gCons (t:TG) (u:TGs):TGs:=fun vs σ H Q => ∃ v r,vs = v :: r∧t v σ H fun σ' H' => u r σ' H' Q
theorem pgs_nil:PGs X [] gNil:=by
  intro pins s σ H vs us Q I r h
  obtain ⟨e,h⟩:=h
  subst e
  cases r
  exact assignInOrder_nil ⟨σ,H,I,h⟩
theorem pgs_cons {e:Expr} {es:List Expr} {t:TG} {u:TGs} (h1:PG X e t) (h2:PGs X es u)
    (hs:(assignEach (e :: es) X.env).map (·.2) = assign e X.env :: (assignEach es X.env).map (·.2):=by rfl):PGs X (e :: es) (gCons t u):=by
  intro pins s σ H vs us Q I r h
  obtain ⟨v,vr,e1,h⟩:=h
  subst e1
  cases r with
  | cons r rr =>
    rw [hs]
    refine assignInOrder_cons (thn (h1 pins s σ H _ _ _ I r h) fun _ s1 x__11 => ?_)
    obtain ⟨σ1,H1,I1,q1⟩:=x__11
    exact h2 pins s1 σ1 H1 _ _ Q I1 rr q1
noncomputable def gTup (K:PySem.W.Frag) (n:Nat) (t:TGs):TG:=fun v σ H Q => ∃ a xs,v = .ref a∧SqT K H a xs∧xs.length = n∧t xs σ H Q
theorem pg_tup {es:List Expr} {k:Nat} {t:TGs} {n:Nat} (hc:X.calm = true) (h:PGs X es t)
    (hn:(assignEach es X.env).length = n:=by rfl) (hst:(assignEach es X.env).findIdx? (·.1) = none:=by rfl):PG X (.Tuple es k pos) (gTup X.K n t):=by
  intro pins s σ H v u Q I r hw
  obtain ⟨a,xs,e1,hq,hl,hw⟩:=hw
  subst e1
  cases r
  obtain ⟨its,rv,ht,hz⟩:=I.tuple hq
  refine assign_Tuple_tuple (I.ok.hd hc) ht (by simp [hn,← hl,rv.length]) hst fun h' hx => ?_
  have I1:Inv X pins σ H { s with heap:=h' }:=I.kept (t':=s.toks) fun b o e => hx b o (Nat.ne_of_lt (Heap.lt_size e)) e
  exact h pins _ σ H xs _ Q I1 (by simpa using rv) hw
noncomputable def gSub (to ti:TE) (t:TSet):TG:=fun v σ H Q => to σ H fun o H1 => ti σ H1 fun i H2 => t o i v H2 fun H3 => Q σ H3
theorem pg_sub {o i:Expr} {to ti:TE} {t:TSet} (ho:PE X o to) (hi:PE X i ti) (hs:PSet X t)
    (ha:∀ v,assign (.Subscript o i pos) X.env v = (do
      let ov ← holding [v] (eval o X.env)
      let iv ← holding [v,ov] (eval i X.env)
      standAt pos
      holding [v,ov,iv] (setItem ov iv v)
      release [v,ov,iv] []):=by intro _; rfl):PG X (.Subscript o i pos) (gSub to ti t):=by
  intro pins s σ H v u Q I r h
  rw [ha]
  refine wpAny_bind (wpAny_holding (thn (ho pins s σ H _ I h) fun ov s1 x__12 => ?_))
  obtain ⟨x,H1,I1,r1,q1⟩:=x__12
  refine wpAny_bind (wpAny_holding (thn (hi pins s1 σ H1 _ I1 q1) fun iv s2 x__13 => ?_))
  obtain ⟨y,H2,I2,r2,q2⟩:=x__13
  refine wpAny_bind (wpAny_standAt (wpAny_bind (wpAny_holding (thn (hs pins s2 σ H2 x y v ov iv u _ I2 r1 r2 r q2) fun _ s3 x__14 => ?_))))
  obtain ⟨H3,I3,q3⟩:=x__14
  exact wpAny_release ⟨σ,H3,I3,q3⟩
noncomputable def tAsg (te:TE) (g:TG):TS:=fun D σ H => te σ H fun x H1 => g x σ H1 D.nx
theorem ps_asg {tg e:Expr} {te:TE} {g:TG} (he:PE X e te) (hg:PG X tg g) (hs:swapsWithSole [tg] e pos.line X.env = pure false:=by rfl) (hw:swappedStores [tg] e X.env = pure none:=by rfl)
    (h1:(assignEach [tg] X.env).map (·.2) = [assign tg X.env]:=by rfl):PS X (.Assign [tg] e pos) (tAsg te g):=by
  intro pins s σ H D I h
  refine wpAny_Assign_stores (thn (he pins s σ H _ I h) fun v s1 x__15 => ?_) hs hw
  obtain ⟨x,H1,I1,r1,q1⟩:=x__15
  rw [h1]
  exact thn (hg pins s1 σ H1 x v _ I1 r1 q1) fun _ s2 q => q
theorem ps_set {i:Nat} {x:Str} {e:Expr} {te:TE} {pos':Pos} (hN:X.N.Nodup) (hi:X.N[i]? = some x) (hx:Loc X.env.scope x) (he:PE X e te) (hs:swapsWith e (some (.Name x pos')) pos.line X.env = pure false:=by rfl) (hf:X.fn x = true ∨ X.env.scope.names.lookup x = some .local:=by first | exact .inl rfl | exact .inr rfl | assumption) :
    PS X (.Assign [.Name x pos'] e pos) (tAsg te (gName i)):=by
  intro pins s σ H D I h
  refine wpAny_Assign_Name (thn (he pins s σ H _ I h) fun v s1 x__16 => ?_) hs
  obtain ⟨y,H1,I1,r1,q1⟩:=x__16
  exact store_ok I1 hN hi hx r1 (fun s2 I2 => ⟨_,H1,I2,q1⟩) hf
noncomputable def tPar (i j:Nat) (ta:TA):TS:=fun D σ H => ta σ H fun vs H1 => ∃ v w,vs = [v,w]∧D.nx ((σ.set i (some v)).set j (some w)) H1
theorem ps_par {i j:Nat} {x y:Str} {a b:Expr} {ta:TA} {px py pt:Pos} {kt k2 pt2} (hc:X.calm = true) (hN:X.N.Nodup) (hi:X.N[i]? = some x) (hj:X.N[j]? = some y) (hij:i ≠ j)
    (hx:X.env.scope.names.lookup x = some .local) (hy:X.env.scope.names.lookup y = some .local) (ha:PA X [a,b] ta)
    (hw:swappedStores [.Tuple [.Name x px,.Name y py] kt pt] (.Tuple [a,b] k2 pt2) X.env = pure (some [x,y]))
    (hs:swapsWithSole [.Tuple [.Name x px,.Name y py] kt pt] (.Tuple [a,b] k2 pt2) pos.line X.env = pure false:=by rfl) :
    PS X (.Assign [.Tuple [.Name x px,.Name y py] kt pt] (.Tuple [a,b] k2 pt2) pos) (tPar i j ta):=by
  intro pins s σ H D I h
  rw [exec_Assign_arm]
  refine wpAny_bind (wpAny_standAt ?_)
  rw [hs]
  refine wpAny_bind (wpAny_pure ?_)
  rw [if_neg (by decide)]
  refine wpAny_bind (Tuple_ (thn (ha _ pins s σ H _ I h) fun us s1 x__17 => ?_))
  obtain ⟨vs,H1,I1,r1,q1⟩:=x__17
  obtain ⟨v,w,e1,q1⟩:=q1
  subst e1
  obtain ⟨u1,u2,rfl,rv,rw'⟩:∃ u1 u2,us = [u1,u2]∧RelV v u1∧RelV w u2:=by
    cases r1 with
    | cons p q =>
      cases q with
      | cons p' q' =>
        cases q'
        exact ⟨_,_,rfl,p,p'⟩
  refine wpAny_newObj_type ?_ (by show 2 ≤ sizeLine; decide)
  have I2:Inv X pins σ H1 { s1 with heap:=s1.heap.push { cls:=.type "tuple",data:=.seq [u1,u2].toArray } }:=I1.kept (t':=s1.toks) fun b o e => Heap.get?_push_of_some _ e
  rw [hw]
  refine wpAny_bind (wpAny_pure ?_)
  show wpAny (model X.prog X.w) X.A (do rule "assign.swapped-stores"; let items ← unpackItems (.ref s1.heap.objs.size) 2 none; assignInOrder [fun v => bindName X.env y v,fun v => bindName X.env x v] items.reverse; pure Flow.next) _ _ _
  refine wpAny_bind (wpAny_rule (wpAny_bind (unpackItems_tuple (items:=#[u1,u2]) (I.ok.hd hc) (IsTup.new s1.heap _) fun h' hx' => ?_)))
  have I3:=I2.kept (h':=h') (t':=s1.toks) fun b o e => hx' b o (Nat.ne_of_lt (Heap.lt_size e)) e
  show wpAny _ _ (assignInOrder [fun v => bindName X.env y v,fun v => bindName X.env x v] [u2,u1] >>= fun _ => pure Flow.next) _ _ _
  refine wpAny_bind (assignInOrder_cons (wpAny_bindName (store_ok I3 hN hj (.inl hy) rw' (fun s2 I4 => ?_) (.inr hy))))
  refine assignInOrder_cons (wpAny_bindName (store_ok I4 hN hi (.inl hx) rv (fun s3 I5 => assignInOrder_nil (wpAny_pure ?_)) (.inr hx)))
  rw [List.set_comm _ _ (Ne.symm hij)] at I5
  exact ⟨_,H1,I5,q1⟩
noncomputable def tAug (i:Nat) (te:TE) (ti:TIp):TS:=fun D σ H => ∃ x,σ[i]? = some (some x)∧te σ H fun y H1 => ti x y H1 fun z H2 => D.nx (σ.set i (some z)) H2
theorem ps_aug {i:Nat} {x:Str} {e:Expr} {te:TE} {op:Operator} {ti:TIp} {pos':Pos} (hN:X.N.Nodup) (hi:X.N[i]? = some x) (hx:Loc X.env.scope x) (he:PE X e te) (ho:PIp X op ti) (hf:X.fn x = true ∨ X.env.scope.names.lookup x = some .local:=by first | exact .inl rfl | exact .inr rfl | assumption) :
    PS X (.AugAssign (.Name x pos') op e pos) (tAug i te ti):=by
  intro pins s σ H D I h
  obtain ⟨v,e1,h⟩:=h
  obtain ⟨m,hn,hl⟩:=I.loc
  have vis:Vis X.env.scope x:=by rcases hx with k | k; exact .inl k; exact .inr (.inl k)
  obtain ⟨u,r,l⟩:=hl i x v hi e1 vis
  refine wpAny_AugAssign_Name ?_
  have go:wpAny (model X.prog X.w) X.A (eval e X.env) (fun w s₂ => wpAny (model X.prog X.w) X.A (inplaceOp op u w) (fun r s₃ => wpAny (model X.prog X.w) X.A (storeName X.env x r) (fun _ => SP X pins D .next) X.xe s₃) X.xe s₂) X.xe s:=by
    refine thn (he pins s σ H _ I h) fun w s1 x__18 => ?_
    obtain ⟨y,H1,I1,r1,q1⟩:=x__18
    refine thn (ho pins s1 σ H1 v y u w _ I1 r r1 q1) fun z s2 x__19 => ?_
    obtain ⟨zv,H2,I2,r2,q2⟩:=x__19
    exact store_ok I2 hN hi hx r2 (fun s3 I3 => ⟨_,H2,I3,q2⟩) hf
  rcases l with ⟨hk,hm⟩ | ⟨hk,c,hc,hcell⟩
  · exact wpAny_loadName_local I.ok.kind hk hn hm go
  · rcases hk with hk | hk
    · exact wpAny_loadName_cell I.ok.kind hk hc hcell go
    · rcases hx with k | k
      · have:X.env.scope.names.lookup x = some .free:=hk
        rw [k] at this; cases this
      · have:X.env.scope.names.lookup x = some .free:=hk
        rw [k] at this; cases this
end

section
variable {X:Cx} {pos:Pos}
noncomputable def tWhile (c:TT) (tb:TS):TS:=fun D σ H => ∃ W:Nat→St→Hp→Prop,(∃ m,W m σ H)∧∀ m σ H,W m σ H →
  c σ H fun b H1 => if b = true then ∃ N:St→Hp→Prop,(∀ σ' H',N σ' H'→∃ m',m' < m∧W m' σ' H')∧tb { D with nx:=N,ct:=N,bk:=D.nx } σ H1 else D.nx σ H1
theorem ps_while {c:Expr} {body:List Stmt} {tc:TT} {tb:TS} (hp:PassesOwn (model X.prog X.w) X.A X.env X.xe) (hc:PT X c tc) (hb:PSs X body tb):PS X (.While c body [] pos) (tWhile tc tb):=by
  intro pins s σ H D I h
  obtain ⟨W,⟨m0,w0⟩,turn⟩:=h
  refine wpAny_While (codeAny_whileLoop (fun n s' => NP X pins (W n) s') ?_ m0 ⟨σ,H,I,w0⟩)
  rintro n s1 ⟨σ1,H1,I1,w1⟩
  refine wpAny_passesOwn hp (thn (hc pins s1 σ1 H1 _ I1 (turn n σ1 H1 w1)) fun b s2 x__20 => ?_)
  obtain ⟨H2,I2,q2⟩:=x__20
  cases b with
  | true =>
    obtain ⟨N,hN,q2⟩:=q2
    rw [if_pos rfl]
    refine wpAny_passesOwn hp (thn (hb pins s2 σ1 H2 _ I2 q2) fun f s3 q3 => ?_)
    cases f with
    | next =>
      obtain ⟨σ3,H3,I3,n3⟩:=q3
      obtain ⟨m',hm,w3⟩:=hN σ3 H3 n3
      exact ⟨m',hm,σ3,H3,I3,w3⟩
    | cont =>
      obtain ⟨σ3,H3,I3,n3⟩:=q3
      obtain ⟨m',hm,w3⟩:=hN σ3 H3 n3
      exact ⟨m',hm,σ3,H3,I3,w3⟩
    | brk => exact q3
    | ret v => exact q3
  | false =>
    rw [if_neg Bool.false_ne_true]
    exact wpAny_execs_nil ⟨σ1,H2,I2,q2⟩
end

structure It where
  go:Nat→Hp→Prop
  yld:Nat→Hp→V→Hp→Prop
  stop:Nat→Hp→Prop
noncomputable def FpOk (X:Cx) (pins:List (Addr × Obj)) (H:Hp) (b:Addr):Prop :=
  H b = none∧b ≠ X.env.locals∧b ∉ X.fs∧(b ∈ X.ex ∨ X.s₀.heap.objs.size ≤ b)∧(∀ x c,X.env.cells.lookup x = some c→c ≠ b)∧∀ p ∈ X.pn ++ pins,p.1 ≠ b
theorem Inv.fpOk {X:Cx} {pins:List (Addr × Obj)} {σ:St} {H H':Hp} {s:Shared} {b:Addr} (I:Inv X pins σ H s) (hb:s.heap.objs.size ≤ b) (hn:H' b = none):FpOk X pins H' b:=by
  refine ⟨hn,Nat.ne_of_gt (Nat.lt_of_lt_of_le I.lt hb),I.nofs hb,.inr (Nat.le_trans I.sz hb),fun x c e z => ?_,fun p hp z => ?_⟩
  · obtain ⟨v,q⟩:=I.cell x c e
    exact absurd (Nat.lt_of_lt_of_le q.lt (by rw [z]; exact hb)) (Nat.lt_irrefl _)
  · exact absurd (Nat.lt_of_lt_of_le (Heap.lt_size (I.pin p hp).1) (by rw [z]; exact hb)) (Nat.lt_irrefl _)
inductive Yl (X:Cx) (pins:List (Addr × Obj)) (σ:St) (J:It) (i:Nat) (H:Hp) (fp:List Addr) (tn:Nat→Heap→Prop) (u:Value) (s2:Shared):Prop
  | mk (x:V) (H':Hp) (h0:Inv X pins σ H' s2) (h1:RelV x u) (h2:J.yld i H x H') (h3:tn (i + 1) s2.heap) (h4:∀ b ∈ fp,H' b = none)
inductive ForI (X:Cx) (pins:List (Addr × Obj)) (fp:List Addr) (tn:Nat→Heap→Prop) (W:Nat→Nat→St→Hp→Prop) (n:Nat) (s':Shared):Prop
  | mk (i:Nat) (σ':St) (H':Hp) (h0:Inv X pins σ' H' s') (h1:tn i s'.heap) (h2:∀ b ∈ fp,H' b = none) (h3:W i n σ' H')
structure Turn (P:Program) (w:World) (K:PySem.W.Frag) (tg:Expr) (J:It) (fp:List Addr) (it:Addr) (tn:Nat→Heap→Prop):Prop where
  mem:it ∈ fp
  obj:∀ i h,tn i h→∀ b ∈ fp,∃ o,h.get? b = some o∧∀ v,o.data ≠ .cell v
  keep:∀ i h h',tn i h→(∀ b ∈ fp,∀ o,h.get? b = some o→h'.get? b = some o)→tn i h'
  item:∀ (X:Cx),X.prog = P→X.w = w→X.K = K→X.calm = true→∀ (i:Nat) (pins:List (Addr × Obj)) (s:Shared) (σ:St) (H:Hp) (E:Value→Shared→Prop),Inv X pins σ H s→(∀ b ∈ fp,FpOk X pins H b)→tn i s.heap→J.go i H →
    wpAny (model P w) X.A (pyNext (.ref it)) (fun r s1 => ∃ u,r = some u ∧
      wpAny (model P w) X.A (letOwnedTupleGo tg (.ref it) u) (fun _ s2 => Yl X pins σ J i H fp tn u s2) E s1) E s
  done:∀ (X:Cx),X.prog = P→X.w = w→X.K = K→X.calm = true→∀ (i:Nat) (pins:List (Addr × Obj)) (s:Shared) (σ:St) (H:Hp) (E:Value→Shared→Prop),Inv X pins σ H s→(∀ b ∈ fp,FpOk X pins H b)→tn i s.heap→J.stop i H →
    wpAny (model P w) X.A (pyNext (.ref it)) (fun r s1 => r = none∧Inv X pins σ H s1) E s
  self:∀ (A:Around) (i:Nat) (s:Shared) (Q:Value→Shared→Prop) (E:Value→Shared→Prop),tn i s.heap→Q (.ref it) s→wpAny (model P w) A (pyIter (.ref it)) Q E s
noncomputable abbrev TI:=St→Hp→(It→Hp→Prop)→Prop
inductive PIE (X:Cx) (pins:List (Addr × Obj)) (σ:St) (tg:Expr) (R:It→Hp→Prop) (itv:Value) (s2:Shared):Prop
  | mk (it:Addr) (fp:List Addr) (tn:Nat→Heap→Prop) (J:It) (H':Hp) (h0:itv = .ref it) (h1:Inv X pins σ H' s2) (h2:Turn X.prog X.w X.K tg J fp it tn) (h3:tn 0 s2.heap) (h4:(∀ b ∈ fp,FpOk X pins H' b)) (h5:R J H')
noncomputable def PI (X:Cx) (tg iter:Expr) (wi:TI):Prop :=
  ∀ (pins:List (Addr × Obj)) (s:Shared) (σ:St) (H:Hp) (R:It→Hp→Prop),Inv X pins σ H s→wi σ H R →
    wpAny (model X.prog X.w) X.A (eval iter X.env) (fun v s1 => wpAny (model X.prog X.w) X.A (pyIter v) (PIE X pins σ tg R) X.xe s1) X.xe s

theorem go_of {M:Model} {A:Around} {E:Value→Shared→Prop} {s:Shared} {tg:Expr} {it:Addr} {u:Value} {o:Obj} {n:String} {vs:Array Value} {Q:Unit→Shared→Prop} (ho:s.heap.get? it = some o) (hc:o.cls = .type n) (hd:o.data = .fields vs)
    (hn:["enumerate","zip","dict_itemiterator","dict_reverseitemiterator","odict_iterator","itertools.zip_longest","itertools.pairwise"].contains n = false) (hQ:Q () s):wpAny M A (letOwnedTupleGo tg (.ref it) u) Q E s:=by
  unfold letOwnedTupleGo
  cases tg <;> first
    | exact wpAny_pure hQ
    | (cases u <;> first
        | exact wpAny_pure hQ
        | (refine wpAny_bind (wpAny_load ho ?_)
           rw [hc,hd]
           show wpAny M A (if (["enumerate","zip","dict_itemiterator","dict_reverseitemiterator","odict_iterator","itertools.zip_longest","itertools.pairwise"].contains n && vs[0]? == some (rawInt _)) = true then _ else _) Q E s
           rw [if_neg (by intro h; rw [hn,Bool.false_and] at h; cases h)]
           exact wpAny_pure hQ))

noncomputable def Itl (K:PySem.W.Frag) (a:Addr):It :=
  ⟨fun i H => ∃ xs x,SqL K H a xs∧xs[i]? = some x,fun i H x H' => H' = H∧∀ xs,SqL K H a xs→xs[i]? = some x,fun i H => ∃ xs,SqL K H a xs∧xs.length ≤ i⟩
noncomputable def Itt (K:PySem.W.Frag) (a:Addr):It :=
  ⟨fun i H => ∃ xs x,SqT K H a xs∧xs[i]? = some x,fun i H x H' => H' = H∧∀ xs,SqT K H a xs→xs[i]? = some x,fun i H => ∃ xs,SqT K H a xs∧xs.length ≤ i⟩
noncomputable def Itr (lo:Int) (n:Nat):It:=⟨fun i _ => i < n,fun i H x H' => H' = H∧x = .int (lo + i),fun i _ => n ≤ i⟩
theorem turn_list {P:Program} {w:World} {K:PySem.W.Frag} {tg:Expr} (a it:Addr):Turn P w K tg (Itl K a) [it] it (fun i h => h.IsListIter it a i) where
  mem:=by simp
  obj:=fun i h st b hb => by
    have e:b = it:=by simpa using hb
    subst e
    obtain ⟨o,e,c,d⟩:=st
    exact ⟨o,e,fun v z => by rw [d] at z; cases z⟩
  keep:=fun i h h' st k => st.at fun o e => k it (by simp) o e
  item:=by
    intro X hP hw hK hc i pins s σ H E I hf st hg
    subst hP hw hK
    obtain ⟨xs,x,hq,hx⟩:=hg
    obtain ⟨its,rv,p,hz⟩:=I.list hq
    obtain ⟨u,hu,ru⟩:=rv.get hx
    obtain ⟨f0,f1,f2,f3,f4,f5⟩:=hf it (by simp)
    refine wpAny_pyNext_list_item st p.isList (x:=u) (by simpa using hu) fun h' st' sb => ?_
    have I1:Inv X pins σ H { s with heap:=h' }:=I.turned (t':=s.toks) (fun b o hb e => (sb.2 b hb).trans e) f0 f1 f3 f4 f5
    obtain ⟨o,e,c,d⟩:=id st'
    exact ⟨u,rfl,go_of (s:={ s with heap:=h' }) e c d (by decide) ⟨x,H,I1,ru,⟨rfl,fun ys hy => by rw [I.list_inj hy hq]; exact hx⟩,st',fun b hb => (hf b hb).1⟩⟩
  done:=by
    intro X hP hw hK hc i pins s σ H E I hf st hg
    subst hP hw hK
    obtain ⟨xs,hq,hx⟩:=hg
    obtain ⟨its,rv,p,hz⟩:=I.list hq
    obtain ⟨f0,f1,f2,f3,f4,f5⟩:=hf it (by simp)
    have hl:=rv.length
    exact wpAny_pyNext_list_end (I.ok.hd hc) st p.isList (by simp; lia) fun h' eb => ⟨rfl,I.turned (t':=s.toks) (fun b o hb e => eb b o hb e) f0 f1 f3 f4 f5⟩
  self:=fun _ _ _ _ _ st h => wpAny_pyIter_listiter st h
theorem turn_tuple {P:Program} {w:World} {K:PySem.W.Frag} {tg:Expr} (a it:Addr):Turn P w K tg (Itt K a) [it] it (fun i h => h.IsTupleIter it a i) where
  mem:=by simp
  obj:=fun i h st b hb => by
    have e:b = it:=by simpa using hb
    subst e
    obtain ⟨o,e,c,d⟩:=st
    exact ⟨o,e,fun v z => by rw [d] at z; cases z⟩
  keep:=fun i h h' st k => st.at fun o e => k it (by simp) o e
  item:=by
    intro X hP hw hK hc i pins s σ H E I hf st hg
    subst hP hw hK
    obtain ⟨xs,x,hq,hx⟩:=hg
    obtain ⟨its,rv,p,hz⟩:=I.tuple hq
    obtain ⟨u,hu,ru⟩:=rv.get hx
    obtain ⟨f0,f1,f2,f3,f4,f5⟩:=hf it (by simp)
    refine wpAny_pyNext_tuple_item st (show s.heap.IsTuple a its.toArray from p) (x:=u) (by simpa using hu) fun h' st' sb => ?_
    have I1:Inv X pins σ H { s with heap:=h' }:=I.turned (t':=s.toks) (fun b o hb e => (sb.2 b hb).trans e) f0 f1 f3 f4 f5
    obtain ⟨o,e,c,d⟩:=id st'
    exact ⟨u,rfl,go_of (s:={ s with heap:=h' }) e c d (by decide) ⟨x,H,I1,ru,⟨rfl,fun ys hy => by rw [I.tuple_inj hy hq]; exact hx⟩,st',fun b hb => (hf b hb).1⟩⟩
  done:=by
    intro X hP hw hK hc i pins s σ H E I hf st hg
    subst hP hw hK
    obtain ⟨xs,hq,hx⟩:=hg
    obtain ⟨its,rv,p,hz⟩:=I.tuple hq
    obtain ⟨f0,f1,f2,f3,f4,f5⟩:=hf it (by simp)
    have hl:=rv.length
    exact wpAny_pyNext_tuple_end (I.ok.hd hc) st (show s.heap.IsTuple a its.toArray from p) (by simp; lia) fun h' eb => ⟨rfl,I.turned (t':=s.toks) (fun b o hb e => eb b o hb e) f0 f1 f3 f4 f5⟩
  self:=fun _ _ _ _ _ st h => wpAny_pyIter_tupleiter st h
theorem turn_range {P:Program} {w:World} {K:PySem.W.Frag} {tg:Expr} (it:Addr) (lo:Int) (n:Nat):Turn P w K tg (Itr lo n) [it] it (fun i h => IsRangeIter h it (lo + (i:Nat) * 1) ((n:Int) - (i:Nat)) 1) where
  mem:=by simp
  obj:=fun i h st b hb => by
    have e:b = it:=by simpa using hb
    subst e
    exact ⟨_,st,fun v z => by
      have z':Data.fields _ = Data.cell v:=z
      cases z'⟩
  keep:=fun i h h' st k => k it (by simp) _ st
  item:=by
    intro X hP hw hK hc i pins s σ H E I hf st hg
    subst hP hw hK
    obtain ⟨f0,f1,f2,f3,f4,f5⟩:=hf it (by simp)
    have W:=Walks.range (prog:=X.prog) (w:=X.w) (I.ok.hd hc) it lo 1 n
    refine W.item i s _ _ hg st fun v h' tk hv st' kk => ?_
    obtain ⟨t,rfl⟩:=hv
    have I1:Inv X pins σ H { s with heap:=h',toks:=tk }:=I.turned (fun b o hb e => kk b o (by simpa using hb) e) f0 f1 f3 f4 f5
    refine ⟨_,rfl,go_of (s:={ s with heap:=h',toks:=tk }) (n:="range_iterator") st' rfl rfl (by decide) ⟨.int (lo + i),H,I1,⟨t,?_⟩,⟨rfl,rfl⟩,st',fun b hb => (hf b hb).1⟩⟩
    rw [Int.mul_one]
  done:=by
    intro X hP hw hK hc i pins s σ H E I hf st hg
    subst hP hw hK
    obtain ⟨f0,f1,f2,f3,f4,f5⟩:=hf it (by simp)
    exact wpAny_pyNext_range_end (I.ok.hd hc) st (by have:n ≤ i:=hg; lia) fun h' eb => ⟨rfl,I.turned (t':=s.toks) (fun b o hb e => eb b o hb e) f0 f1 f3 f4 f5⟩
  self:=fun _ _ _ _ _ st h => wpAny_pyIter_rangeiter st h
end L2

namespace L2
open PySem PySem.Spec PyProof.Rows
section
variable {X:Cx} {tg:Expr}
theorem range_it {pins:List (Addr × Obj)} {σ:St} {H:Hp} {s:Shared} {R:It→Hp→Prop} {E:Value→Shared→Prop} {lo hi:Int} {t u v:Tok} {tk:Nat} (I:Inv X pins σ H s) (h1:-(2 ^ 62) ≤ lo) (h2:lo < 2 ^ 62) (h3:-(2 ^ 62) ≤ hi) (h4:hi < 2 ^ 62)
    (q:R (Itr lo (hi - lo).toNat) H):wpAny (model X.prog X.w) X.A (pyIter (.ref s.heap.objs.size)) (PIE X pins σ tg R) E { s with heap:=s.heap.push { cls:=.type "range",data:=.fields #[.int lo t,.int hi u,.int 1 v] },toks:=tk }:=by
  refine wpAny_pyIter_range (IsRange.new ..) (small_one h1 h2 h3 h4) ?_
  have I1:Inv X pins σ H { s with heap:=s.heap.push { cls:=.type "range",data:=.fields #[.int lo t,.int hi u,.int 1 v] },toks:=tk }:=I.kept fun b o e => Heap.get?_push_of_some _ e
  refine ⟨(s.heap.push { cls:=.type "range",data:=.fields #[.int lo t,.int hi u,.int 1 v] }).objs.size,[(s.heap.push { cls:=.type "range",data:=.fields #[.int lo t,.int hi u,.int 1 v] }).objs.size],_,_,H,rfl,
    I1.kept (t':=tk) fun b o e => Heap.get?_push_of_some _ e,turn_range _ lo (hi - lo).toNat,?_,fun b hb => ?_,q⟩
  · have e1:lo + ((0:Nat):Int) * 1 = lo:=by simp
    have e2:(((hi - lo).toNat:Nat):Int) - ((0:Nat):Int) = Builtin.Range.rangeSize lo hi 1:=by rw [rangeSize_one]; split <;> lia
    show IsRangeIter _ _ (lo + ((0:Nat):Int) * 1) ((((hi - lo).toNat:Nat):Int) - ((0:Nat):Int)) 1
    rw [e1,e2]
    exact Heap.get?_push_size _ rfl
  · have e:b = (s.heap.push { cls:=.type "range",data:=.fields #[.int lo t,.int hi u,.int 1 v] }).objs.size:=by simpa using hb
    subst e
    exact I1.fpOk (Nat.le_refl _) (I1.hok.fresh (Nat.le_refl _))
noncomputable def iRng1 (ta:TA):TI:=fun σ H R => ta σ H fun vs H1 => ∃ j:Int,vs = [.int j]∧-(2 ^ 62) ≤ j∧j < 2 ^ 62∧R (Itr 0 j.toNat) H1
theorem pi_range1 {a:Expr} {ta:TA} {p pos:Pos} (hg:Gl X "range") (hm:X.mg "range" = none) (ha:PA X [a] ta) (hs:starEach [a] X.env = [(false,eval a X.env)]:=by rfl):PI X tg (.Call (.Name "range" p) [a] [] pos) (iRng1 ta):=by
  intro pins s σ H R I h
  refine Call_ (ld_blt I hg hm boot_range (PyProof.Rows.callWith_type1 (thn (ha pos pins s σ H _ I h) fun us s1 x__21 => ?_) hs rfl))
  obtain ⟨vs,H1,I1,r1,q1⟩:=x__21
  obtain ⟨j,e,q1,q2,q⟩:=q1
  subst e
  cases r1 with
  | cons r rr =>
    cases rr
    obtain ⟨t,rfl⟩:=r
    exact call_range_1 (range_it I1 (by lia) (by lia) q1 q2 (by simpa using q))
noncomputable def tFor (wi:TI) (g:TG) (tb:TS):TS:=fun D σ H => wi σ H fun J H1 => ∃ W:Nat→Nat→St→Hp→Prop,(∃ m,W 0 m σ H1)∧∀ i m σ H,W i m σ H →
  (J.stop i H∧D.nx σ H) ∨ (J.go i H∧∃ N:St→Hp→Prop,(∀ σ' H',N σ' H'→∃ m',m' < m∧W (i + 1) m' σ' H')∧∀ x H',J.yld i H x H'→g x σ H' fun σ2 H2 => tb { D with nx:=N,ct:=N,bk:=D.nx } σ2 H2)
noncomputable def pinsAt (fp:List Addr) (h:Heap):List (Addr × Obj):=fp.filterMap fun b => (h.get? b).map fun o => (b,o)
theorem mem_pinsAt {fp:List Addr} {h:Heap} {b:Addr} {o:Obj} (hb:b ∈ fp) (e:h.get? b = some o):(b,o) ∈ pinsAt fp h:=List.mem_filterMap.mpr ⟨b,hb,by rw [e]; rfl⟩
theorem of_pinsAt {fp:List Addr} {h:Heap} {p:Addr × Obj} (hp:p ∈ pinsAt fp h):p.1 ∈ fp∧h.get? p.1 = some p.2:=by
  obtain ⟨b,hb,e⟩:=List.mem_filterMap.mp hp
  cases q:h.get? b with
  | none => rw [q] at e; cases e
  | some o =>
    rw [q] at e
    have e':(b,o) = p:=Option.some.inj e
    subst e'
    exact ⟨hb,q⟩
theorem Inv.pinned {pins:List (Addr × Obj)} {σ:St} {H:Hp} {s:Shared} {fp:List Addr} (I:Inv X pins σ H s) (hf:∀ b ∈ fp,FpOk X pins H b) (ho:∀ b ∈ fp,∃ o,s.heap.get? b = some o∧∀ v,o.data ≠ .cell v):Inv X (pins ++ pinsAt fp s.heap) σ H s :=
  I.pins_of fun p hp => (List.mem_append.mp hp).elim (fun z => I.pin p (List.mem_append_right _ z)) fun z => by
    obtain ⟨hb,e⟩:=of_pinsAt z
    obtain ⟨f0,f1,f2,_⟩:=hf p.1 hb
    obtain ⟨o,e',d⟩:=ho p.1 hb
    rw [e] at e'; cases e'
    exact ⟨e,f0,f1,f2,d⟩
theorem Inv.unpinned {pins pl:List (Addr × Obj)} {σ:St} {H:Hp} {s:Shared} (I:Inv X (pins ++ pl) σ H s):Inv X pins σ H s:=I.pins_of fun p hp => I.pin p (List.mem_append_right _ (List.mem_append_left _ hp))
theorem ps_for {iter:Expr} {body:List Stmt} {wi:TI} {g:TG} {tb:TS} {pos:Pos} (hp:PassesOwn (model X.prog X.w) X.A X.env X.xe) (hc:X.calm = true) (hi:PI X tg iter wi) (hg:PG X tg g) (hb:PSs X body tb)
    (hs:∀ x,foldedSetIterable iter X.env x = pure x:=by intro _; rfl):PS X (.For tg iter body [] pos) (tFor wi g tb):=by
  intro pins s σ H D I h
  refine wpAny_For (thn (hi pins s σ H _ I h) fun v s1 h1 => thn h1 fun itv s2 h2 => ?_) hs
  obtain ⟨it,fp,tn,J,H2,e,I2,T,st2,f2,W,⟨m0,w0⟩,turn⟩:=h2
  subst e
  -- what stays true of the iterator's objects through the loop
  have stat:∀ {H':Hp},(∀ b ∈ fp,H' b = none)→∀ b ∈ fp,FpOk X pins H' b:=fun hn b hb => ⟨hn b hb,(f2 b hb).2⟩
  refine codeAny_forLoop_any (ForI X pins fp tn W) ?_ m0 ⟨0,σ,H2,I2,st2,fun b hb => (f2 b hb).1,w0⟩
  rintro n s3 ⟨i,σ3,H3,I3,st3,fr3,w3⟩
  rcases turn i n σ3 H3 w3 with ⟨stop,qn⟩ | ⟨go,N,hN,step⟩
  · refine wpAny_passesOwn hp (thn (T.done X rfl rfl rfl hc i pins s3 σ3 H3 X.xe I3 (stat fr3) st3 stop) fun r s4 ⟨hr,I4⟩ => ?_)
    subst hr
    exact wpAny_execs_nil ⟨σ3,H3,I4,qn⟩
  · refine wpAny_passesOwn hp (thn (T.item X rfl rfl rfl hc i pins s3 σ3 H3 X.xe I3 (stat fr3) st3 go) fun r s4 ⟨u,hr,h4⟩ => ?_)
    subst hr
    refine wpAny_passesOwn hp (thn h4 fun _ s5 x__24 => ?_)
    obtain ⟨x,H5,I5,r5,y5,st5,fr5⟩:=x__24
    have I5':=I5.pinned (stat fr5) (T.obj _ _ st5)
    refine wpAny_passesOwn hp (thn (hg _ s5 σ3 H5 x u _ I5' r5 (step x H5 y5)) fun _ s6 x__25 => ?_)
    obtain ⟨σ6,H6,I6,q6⟩:=x__25
    refine wpAny_passesOwn hp (thn (hb _ s6 σ6 H6 _ I6 q6) fun f s7 q7 => ?_)
    have again:∀ {σ7:St} {H7:Hp},Inv X (pins ++ pinsAt fp s5.heap) σ7 H7 s7→N σ7 H7→∃ m,m < n∧ForI X pins fp tn W m s7:=fun {σ7 H7} I7 n7 => by
      obtain ⟨m',hm,w7⟩:=hN σ7 H7 n7
      refine ⟨m',hm,i + 1,σ7,H7,I7.unpinned,T.keep _ _ _ st5 fun b hb o e => (I7.pin (b,o) (List.mem_append_right _ (List.mem_append_right _ (mem_pinsAt hb e)))).1,fun b hb => ?_,w7⟩
      obtain ⟨o,e,d⟩:=T.obj _ _ st5 b hb
      exact (I7.pin (b,o) (List.mem_append_right _ (List.mem_append_right _ (mem_pinsAt hb e)))).2.1
    cases f with
    | next => obtain ⟨σ7,H7,I7,n7⟩:=q7; exact again I7 n7
    | cont => obtain ⟨σ7,H7,I7,n7⟩:=q7; exact again I7 n7
    | brk => obtain ⟨σ7,H7,I7,q7⟩:=q7; exact ⟨σ7,H7,I7.unpinned,q7⟩
    | ret v => obtain ⟨x7,σ7,H7,I7,r7,q7⟩:=q7; exact ⟨x7,σ7,H7,I7.unpinned,r7,q7⟩
end

end L2

namespace L2
open PySem PySem.Spec PyProof.Rows

noncomputable abbrev R2:=V→V→Hp→VK→Prop
noncomputable def OpR (X:Cx) (f:Value→Value→Sem Value) (r:R2):Prop :=
  ∀ (pins:List (Addr × Obj)) (s:Shared) (σ:St) (H:Hp) (x y:V) (v u:Value) (Q:VK),Inv X pins σ H s→RelV x v→RelV y u→r x y H Q →
    wpAny (model X.prog X.w) X.A (f v u) (EP X pins σ Q) X.xe s
noncomputable def UnR (X:Cx) (f:Value→Sem Value) (r:V→Hp→VK→Prop):Prop :=
  ∀ (pins:List (Addr × Obj)) (s:Shared) (σ:St) (H:Hp) (x:V) (v:Value) (Q:VK),Inv X pins σ H s→RelV x v→r x H Q →
    wpAny (model X.prog X.w) X.A (f v) (EP X pins σ Q) X.xe s
noncomputable def CallR (X:Cx) (f:Value) (r:List V→Hp→VK→Prop):Prop :=
  ∀ (pins:List (Addr × Obj)) (s:Shared) (σ:St) (H:Hp) (xs:List V) (us:List Value) (Q:VK),Inv X pins σ H s→Vals xs us→r xs H Q →
    wpAny (model X.prog X.w) X.A (call f us) (EP X pins σ Q) X.xe s
noncomputable def TruR (X:Cx) (r:V→Hp→(Bool→Hp→Prop)→Prop):Prop :=
  ∀ (pins:List (Addr × Obj)) (s:Shared) (σ:St) (H:Hp) (x:V) (v:Value) (Q:Bool→Hp→Prop),Inv X pins σ H s→RelV x v→r x H Q →
    wpAny (model X.prog X.w) X.A (truthy v) (TP X pins σ Q) X.xe s

noncomputable def tOp (r:R2) (ta tb:TE):TE:=fun σ H Q => ta σ H fun x H1 => tb σ H1 fun y H2 => r x y H2 Q
noncomputable def tUn (r:V→Hp→VK→Prop) (ta:TE):TE:=fun σ H Q => ta σ H fun x H1 => r x H1 Q
noncomputable def rI (C:Int→Int→Prop) (g:Int→Int→V):R2:=fun x y H Q => ∃ i j,x = .int i∧y = .int j∧C i j∧Q (g i j) H
noncomputable def rI0 (g:Int→Int→V):R2:=fun x y H Q => ∃ i j,x = .int i∧y = .int j∧Q (g i j) H
noncomputable def rU (g:Int→V):V→Hp→VK→Prop:=fun x H Q => ∃ i,x = .int i∧Q (g i) H

section
variable {X:Cx} {a b c:Expr} {ta tb tc:TE} {pos:Pos}

theorem binT (ha:PE X a ta) (hb:PE X b tb) {pins:List (Addr × Obj)} {s:Shared} {σ:St} {H:Hp} {R:V→V→Hp→Prop} (I:Inv X pins σ H s)
    (h:ta σ H fun x H1 => tb σ H1 fun y H2 => R x y H2) {Q:Value→Shared→Prop} {f:Value→Value→Sem Value}
    (hf:∀ v u s2 x y H2,Inv X pins σ H2 s2→RelV x v→RelV y u→R x y H2→wpAny (model X.prog X.w) X.A (f v u) Q X.xe s2) :
    wpAny (model X.prog X.w) X.A (eval a X.env) (fun v s₁ => wpAny (model X.prog X.w) X.A (eval b X.env) (fun u s₂ => wpAny (model X.prog X.w) X.A (f v u) Q X.xe s₂) X.xe s₁) X.xe s:=by
  refine thn (ha pins s σ H _ I h) fun v s1 x__26 => ?_
  obtain ⟨x,H1,I1,r1,q1⟩:=x__26
  refine thn (hb pins s1 σ H1 _ I1 q1) fun u s2 x__27 => ?_
  obtain ⟨y,H2,I2,r2,q2⟩:=x__27
  exact hf v u s2 x y H2 I2 r1 r2 q2

theorem pe_op {op:Operator} {r:R2} (ho:OpR X (binaryOp op) r) (ha:PE X a ta) (hb:PE X b tb):PE X (.BinOp a op b pos) (tOp r ta tb):=by
  intro pins s σ H Q I h
  exact wpAny_BinOp (binT ha hb I h fun v u s2 x y H2 I2 rx ry q => ho pins s2 σ H2 x y v u Q I2 rx ry q)
theorem pe_un {op:UnaryOp} {r:V→Hp→VK→Prop} (ho:UnR X (unaryOp op) r) (ha:PE X a ta):PE X (.UnaryOp op a pos) (tUn r ta):=by
  intro pins s σ H Q I h
  exact UnaryOp_ (thn (ha pins s σ H _ I h) fun v s1 x__28 => (by obtain ⟨x,H1,I1,r1,q1⟩:=x__28; exact ho pins s1 σ H1 x v Q I1 r1 q1))
theorem opI {f:Value→Value→Sem Value} {C:Int→Int→Prop} {g:Int→Int→Int}
    (rule:∀ (i j:Int) (t u:Tok) (s:Shared) (Q:Value→Shared→Prop) (E:Value→Shared→Prop),C i j→Q (.int (g i j) s.toks) { s with toks:=s.toks + 1 }→wpAny (model X.prog X.w) X.A (f (.int i t) (.int j u)) Q E s) :
    OpR X f (rI C fun i j => .int (g i j)):=by
  intro pins s σ H x y v u Q I rx ry h
  obtain ⟨i,j,rfl,rfl,hc,q⟩:=h
  obtain ⟨t,rfl⟩:=rx
  obtain ⟨t',rfl⟩:=ry
  exact rule i j t t' s _ _ hc ⟨.int (g i j),H,I.tok _,⟨_,rfl⟩,q⟩
theorem opI0 {f:Value→Value→Sem Value} {g:Int→Int→Int}
    (rule:∀ (i j:Int) (t u:Tok) (s:Shared) (Q:Value→Shared→Prop) (E:Value→Shared→Prop),Q (.int (g i j) s.toks) { s with toks:=s.toks + 1 }→wpAny (model X.prog X.w) X.A (f (.int i t) (.int j u)) Q E s) :
    OpR X f (rI0 fun i j => .int (g i j)):=by
  intro pins s σ H x y v u Q I rx ry h
  obtain ⟨i,j,rfl,rfl,q⟩:=h
  obtain ⟨t,rfl⟩:=rx
  obtain ⟨t',rfl⟩:=ry
  exact rule i j t t' s _ _ ⟨.int (g i j),H,I.tok _,⟨_,rfl⟩,q⟩
theorem opB0 {f:Value→Value→Sem Value} {g:Int→Int→Bool}
    (rule:∀ (i j:Int) (t u:Tok) (s:Shared) (Q:Value→Shared→Prop) (E:Value→Shared→Prop),Q (.bool (g i j)) s→wpAny (model X.prog X.w) X.A (f (.int i t) (.int j u)) Q E s) :
    OpR X f (rI0 fun i j => .bl (g i j)):=by
  intro pins s σ H x y v u Q I rx ry h
  obtain ⟨i,j,rfl,rfl,q⟩:=h
  obtain ⟨t,rfl⟩:=rx
  obtain ⟨t',rfl⟩:=ry
  exact rule i j t t' s _ _ ⟨.bl (g i j),H,I,rfl,q⟩

noncomputable def CPow (i j:Int):Prop:=0 ≤ j∧j ≤ 1000000∧i.natAbs < 2 ^ 64
theorem op_add:OpR X (binaryOp .Add) (rI0 fun i j => .int (i + j)):=opI0 fun _ _ _ _ _ _ _ q => add_int q
theorem op_sub:OpR X (binaryOp .Sub) (rI0 fun i j => .int (i - j)):=opI0 fun _ _ _ _ _ _ _ q => sub_int q
theorem op_modN:OpR X (binaryOp .Mod) (rI (fun _ j => j ≠ 0) fun i j => .int (i.fmod j)):=opI fun _ _ _ _ _ _ _ hc q => mod_int' hc q
theorem op_pow:OpR X (binaryOp .Pow) (rI CPow fun i j => .int (i ^ j.toNat)):=opI fun _ _ _ _ _ _ _ hc q => pow_int_small hc.1 hc.2.1 hc.2.2 q
theorem iop_sub:OpR X (inplaceOp .Sub) (rI0 fun i j => .int (i - j)):=opI0 fun _ _ _ _ _ _ _ q => isub_int q
theorem unI {f:Value→Sem Value} {g:Int→Int}
    (rule:∀ (i:Int) (t:Tok) (s:Shared) (Q:Value→Shared→Prop) (E:Value→Shared→Prop),Q (.int (g i) s.toks) { s with toks:=s.toks + 1 }→wpAny (model X.prog X.w) X.A (f (.int i t)) Q E s) :
    UnR X f (rU fun i => .int (g i)):=by
  intro pins s σ H x v Q I rx h
  obtain ⟨i,rfl,q⟩:=h
  obtain ⟨t,rfl⟩:=rx
  exact rule i t s _ _ ⟨.int (g i),H,I.tok _,⟨_,rfl⟩,q⟩
theorem un_neg:UnR X (unaryOp .USub) (rU fun i => .int (-i)):=unI fun _ _ _ _ _ q => neg_int q
end

section
variable {X:Cx} {a b c:Expr} {ta tb tc:TE} {pos:Pos}
theorem fin_bl {pins:List (Addr × Obj)} {σ:St} {H:Hp} {s:Shared} {Q:VK} {k k':Bool} (I:Inv X pins σ H s) (q:Q (.bl k) H) (e:k = k'):EP X pins σ Q (.bool k') s:=by
  subst e
  exact ⟨.bl k,H,I,rfl,q⟩
theorem op_lt:OpR X (compareOp .Lt) (rI0 fun i j => .bl (decide (i < j))):=opB0 fun _ _ _ _ _ _ _ q => lt_int q
theorem op_gt:OpR X (compareOp .Gt) (rI0 fun i j => .bl (decide (j < i))):=opB0 fun _ _ _ _ _ _ _ q => gt_int q
theorem op_ge:OpR X (compareOp .GtE) (rI0 fun i j => .bl (decide (j ≤ i))):=opB0 fun _ _ _ _ _ _ _ q => ge_int q
theorem op_isN:OpR X (compareOp .Is) (fun x y H Q => y = .non∧Q (.bl (decide (x = .non))) H):=by
  intro pins s σ H x y v u Q I rx ry h
  obtain ⟨rfl,q⟩:=h
  cases ry
  refine is_none_gen (fin_bl I q ?_)
  cases x <;> first
    | (cases rx; rfl)
    | (obtain ⟨t,rfl⟩:=rx; rfl)
theorem OpR.or {f:Value→Value→Sem Value} {r r':R2} (h:OpR X f r) (h':OpR X f r'):OpR X f (fun x y H Q => r x y H Q ∨ r' x y H Q):=by
  intro pins s σ H x y v u Q I rx ry q
  rcases q with q | q
  · exact h pins s σ H x y v u Q I rx ry q
  · exact h' pins s σ H x y v u Q I rx ry q

theorem nomark (b:Expr) {op:CmpOp} (h:op ≠ .In:=by decide) (h2:op ≠ .NotIn:=by decide):behindInMarks op b = false:=by
  have e1:(op == CmpOp.In) = false:=by cases op <;> first | rfl | exact absurd rfl h
  have e2:(op == CmpOp.NotIn) = false:=by cases op <;> first | rfl | exact absurd rfl h2
  cases b <;> simp [behindInMarks,e1,e2]
noncomputable def tTest (t:TE):TT:=fun σ H Q => t σ H fun x H' => ∃ k,x = .bl k∧Q k H'
theorem pt_cmpR {op:CmpOp} {r:R2} (ho:OpR X (compareOp op) r) (ha:PE X a ta) (hb:PE X b tb) (hm:behindInMarks op b = false):PT X (.Compare a [op] [b] pos) (tTest (tOp r ta tb)):=by
  intro pins s σ H Q I h
  refine wpAny_isTrue_Compare1 (thn (ha pins s σ H _ I h) fun v s1 ⟨x,H1,I1,r1,q1⟩ => thn (hb pins s1 σ H1 _ I1 q1) fun u s2 ⟨y,H2,I2,r2,q2⟩ =>
    thn (ho pins s2 σ H2 x y v u _ I2 r1 r2 q2) fun c s3 ⟨z,H3,I3,r3,k,e,q3⟩ => ?_) hm
  subst e
  cases r3
  exact wpAny_truthy_bool ⟨H3,I3,q3⟩
noncomputable def TruV (K:PySem.W.Frag) (x:V) (H:Hp) (k:Bool):Prop :=
  match x with
  | .non => k = false
  | .bl b => k = b
  | .int i => k = (i != 0)
  | .str y => y.length ≤ sizeLine∧k = ((y.length:Int) != 0)
  | .byt y => y.size ≤ sizeLine∧k = ((y.size:Int) != 0)
  | .ref p => (∃ xs,SqL K H p xs∧k = !xs.isEmpty) ∨ (∃ xs,SqT K H p xs∧k = !xs.isEmpty) ∨ ∃ kvs,H p = some (.dK kvs)∧k = !kvs.isEmpty
  | _ => False
theorem isEmpty_kv {κ:Type} {kvs:List (κ × V)} {vs:List (κ × Value)} (r:KV kvs vs):(!vs.isEmpty) = !kvs.isEmpty:=by
  cases r <;> rfl
theorem isEmpty_of {xs:List V} {its:List Value} (r:Vals xs its):(!its.toArray.isEmpty) = !xs.isEmpty:=by
  cases r <;> simp
theorem line63:(sizeLine:Nat) < 2 ^ 63:=by rw [sizeLine_eq]; decide
theorem tru_ok:TruR X (fun x H Q => ∃ k,TruV X.K x H k∧Q k H):=by
  intro pins s σ H x v Q I rx h
  obtain ⟨k,e,q⟩:=h
  have hl:=line63
  have hs:sizeLine = 16777216:=sizeLine_eq
  cases x with
  | non =>
    cases rx
    have e':k = false:=e
    subst e'
    exact truthy_none ⟨H,I,q⟩
  | bl b =>
    cases rx
    have e':k = b:=e
    subst e'
    exact wpAny_truthy_bool ⟨H,I,q⟩
  | int i =>
    obtain ⟨t,rfl⟩:=rx
    have e':k = (i != 0):=e
    subst e'
    exact PySem.P.truthy_int ⟨H,I,q⟩
  | str y =>
    obtain ⟨t,rfl⟩:=rx
    obtain ⟨hy,e'⟩:y.length ≤ sizeLine∧k = ((y.length:Int) != 0):=e
    subst e'
    exact PySem.P.truthy_str (by lia) ⟨H,I.tok _,q⟩
  | byt y =>
    obtain ⟨t,rfl⟩:=rx
    obtain ⟨hy,e'⟩:y.size ≤ sizeLine∧k = ((y.size:Int) != 0):=e
    subst e'
    exact PySem.W.truthy_bytes (by lia) ⟨H,I.tok _,q⟩
  | ref p =>
    cases rx
    have e':(∃ xs,SqL X.K H p xs∧k = !xs.isEmpty) ∨ (∃ xs,SqT X.K H p xs∧k = !xs.isEmpty) ∨ ∃ kvs,H p = some (.dK kvs)∧k = !kvs.isEmpty:=e
    rcases e' with ⟨xs,hx,e'⟩ | ⟨xs,hx,e'⟩ | ⟨kvs,hx,e'⟩
    · subst e'
      obtain ⟨its,r,pl,hz⟩:=I.list hx
      have hlen:=r.length
      exact wpAny_truthy_list pl.isList (by simp only [List.size_toArray]; lia) ⟨H,I.tok _,by rw [isEmpty_of r]; exact q⟩
    · subst e'
      obtain ⟨its,r,pl,hz⟩:=I.tuple hx
      have hlen:=r.length
      exact truthy_tuple pl (by simp only [List.size_toArray]; lia) ⟨H,I.tok _,by rw [isEmpty_of r]; exact q⟩
    · subst e'
      obtain ⟨hz,hS,vs,r,m⟩:kvs.length ≤ sizeLine∧(p == sysModules) = false∧∃ vs,KV kvs vs∧s.heap.DictOf (mixKind X.prog X.w) p vs:=I.hok p _ hx
      have hlen:kvs.length = vs.length:=Paired.length r
      exact wpAny_truthy_dict hS m (by lia) ⟨H,I.tok _,by rw [isEmpty_kv r]; exact q⟩
  | _ => exact (show False from e).elim
theorem pt_truth (ha:PE X a ta) (he:∀ whole,isTrue a X.env whole = (do let v ← whole; standAt a.pos; holding [v] (truthy v))) :
    PT X a (fun σ H Q => ta σ H fun x H' => ∃ k,TruV X.K x H' k∧Q k H'):=by
  intro pins s σ H Q I h
  exact isTrue_plain (thn (ha pins s σ H _ I h) fun v s1 x__32 => (by obtain ⟨x,H1,I1,r1,q1⟩:=x__32; exact tru_ok pins s1 σ H1 x v Q I1 r1 q1)) (he _)

theorem vals1 {x:V} {us:List Value} (r:Vals [x] us):∃ u,us = [u]∧RelV x u:=by
  cases r with
  | cons r1 r2 => cases r2; exact ⟨_,rfl,r1⟩
theorem vals2 {x y:V} {us:List Value} (r:Vals [x,y] us):∃ u w',us = [u,w']∧RelV x u∧RelV y w':=by
  cases r with
  | cons r1 r2 =>
    cases r2 with
    | cons r3 r4 => cases r4; exact ⟨_,_,rfl,r1,r3⟩
theorem call_abs:CallR X (.builtin "abs") (fun xs H Q => ∃ i,xs = [.int i]∧Q (.int (if i < 0 then -i else i)) H):=by
  intro pins s σ H xs us Q I r h
  obtain ⟨i,rfl,q⟩:=h
  obtain ⟨u,rfl,t,rfl⟩:=vals1 r
  exact call_abs_int fun u tk => ⟨.int (if i < 0 then -i else i),H,I.tok _,⟨_,rfl⟩,q⟩
theorem call_max2 (hc:X.calm = true):CallR X (.builtin "max") (fun xs H Q => ∃ i j,xs = [.int i,.int j]∧Q (.int (if j > i then j else i)) H):=by
  intro pins s σ H xs us Q I r h
  obtain ⟨i,j,rfl,q⟩:=h
  obtain ⟨u,w',rfl,⟨t,rfl⟩,⟨t',rfl⟩⟩:=vals2 r
  refine max_two_ints (I.ok.hd hc) fun h' tk k => ⟨_,H,I.kept k,?_,q⟩
  by_cases hj:j > i
  · rw [if_pos hj,if_pos hj]; exact ⟨_,rfl⟩
  · rw [if_neg hj,if_neg hj]; exact ⟨_,rfl⟩
theorem call_int1:CallR X (.type "int") (fun xs H Q => (∃ i,xs = [.int i]∧Q (.int i) H) ∨ ∃ k,xs = [.bl k]∧Q (.int (if k then 1 else 0)) H):=by
  intro pins s σ H xs us Q I r h
  rcases h with ⟨i,rfl,q⟩ | ⟨k,rfl,q⟩
  · obtain ⟨u,rfl,t,rfl⟩:=vals1 r
    exact call_int_int ⟨.int i,H,I,⟨_,rfl⟩,q⟩
  · obtain ⟨u,rfl,r1⟩:=vals1 r
    cases r1
    exact call_int_bool ⟨.int (if k then 1 else 0),H,I.tok _,⟨_,rfl⟩,q⟩
end
end L2

namespace L2
open PySem PySem.Spec PyProof.Rows

structure ObjM (h:Heap) (x dx C:Addr) (mA:Str→Option Value):Prop where
  obj:h.get? x = some (PySem.W.instObj C dx)
  ns:h.Ns1 dx mA
  ne:dx ≠ x

theorem lookIn_ns {h:Heap} {dx:Addr} {mA:Str→Option Value} (n:h.Ns1 dx mA):∃ od,h.get? dx = some od∧∀ name,PySem.W.lookIn name od = some (mA name):=by
  obtain ⟨o,es,ep,ho,hd,hk,_,hm⟩:=n
  refine ⟨o,ho,fun name => ?_⟩
  have e:=hm name
  unfold nsFind findBy at e
  rw [← Array.find?_toList] at e
  unfold PySem.W.lookIn
  rw [hd]
  dsimp only
  split
  · rename_i y q
    rw [q] at e
    exact congrArg some e
  · rename_i q
    rw [q] at e
    have a:es.toList.any (·.refKey) = false:=by
      rw [List.any_eq_false]
      intro y hy
      obtain ⟨z,t,hkey⟩:=hk y (Array.mem_toList_iff.mp hy)
      simp [DictEntry.refKey,hkey]
    have a':¬ es.toList.any (·.refKey) = true:=by rw [a]; exact Bool.false_ne_true
    rw [if_neg a']
    exact congrArg some e

theorem ObjM.look {h:Heap} {x dx C:Addr} {mA:Str→Option Value} (I:ObjM h x dx C mA):∃ od,PySem.W.InstAt h x (PySem.W.instObj C dx) C (some od)∧∀ name,PySem.W.lookIn name od = some (mA name) :=
  let ⟨od,ho,hl⟩:=lookIn_ns I.ns
  ⟨od,⟨I.obj,rfl,rfl,ho⟩,hl⟩

section
variable {prog:Program} {w:World} {A:Around} {E:Value→Shared→Prop} {s:Shared} {K:PySem.W.Frag} {x dx C f:Addr} {mA:Str→Option Value} {name:Str} {v:Value}

theorem get_map {expr:Bool} {Q:Value→Shared→Prop} (X:K.In s.heap) (I:ObjM s.heap x dx C mA) (hg:PySem.W.plainGet K C name = true) (hh:PySem.W.hasDictIn K C = true)
    (ha:PySem.W.findIn K (.ref C) name = some none) (hv:mA name = some v) (hv':PySem.W.handedIn v = true) (h:Q v { s with toks:=s.toks + 1 }) :
    wpAny (model prog w) A (getAttr (.ref x) name expr) Q E s:=by
  obtain ⟨od,J,hl⟩:=I.look
  exact PySem.W.get_value X J (PySem.W.plainGet_of hg).1 (PySem.W.findObj_own hh ha rfl (by rw [hl,hv])) hv' h

theorem get_meth {pl:Sem Bool} {Q:Value × List Value→Shared→Prop} (X:K.In s.heap) (I:ObjM s.heap x dx C mA) (hg:PySem.W.plainGet K C name = true)
    (hf:PySem.W.findIn K (.ref C) name = some (some (.ref f))) (ht:PySem.W.isFn K (.ref f) = true) (hv:mA name = none) (h:Q (.ref f,[.ref x]) s) :
    wpAny (model prog w) A (getMethod (.ref x) name pl) Q E s:=by
  obtain ⟨od,J,hl⟩:=I.look
  exact PySem.W.method_fn X J (PySem.W.plainGet_of hg).1 (PySem.W.plainGet_of hg).2 hf (beq_iff_eq.mp ht) (by show (PySem.W.lookIn name od).map (·.isSome) = some false; rw [hl,hv]; rfl) h

theorem set_map {ns:List Str} {Q:Unit→Shared→Prop} (X:K.In s.heap) (I:ObjM s.heap x dx C mA)
    (hs:PySem.W.findIn K (.ref C) "__setattr__" = some (some (.builtin "object.__setattr__"))) (hp:PySem.W.plainOver K C = true) (ht:PySem.W.takerIn K C name = some none) (hh:PySem.W.hasDictIn K C = true)
    (hw:PySem.Within mA ns) (hsz:ns.length ≤ sizeLine)
    (h:∀ h',ObjM h' x dx C (fun y => if y = name then some v else mA y)→Heap.SameBut dx s.heap h'→Q () { s with heap:=h',toks:=s.toks + 2 }) :
    wpAny (model prog w) A (setAttr (.ref x) name v) Q E s:=by
  obtain ⟨od,J,hl⟩:=I.look
  refine PySem.W.set_plain X J hs (PySem.W.osa_open (s:={ s with toks:=s.toks + 1 }) (r:=none) X J hp ht fun b => ?_)
  obtain ⟨cd,hc,hd'⟩:=PySem.W.any_some hh
  have hx:s.heap.get? x = some ⟨.ref C,some dx,.plain,#[]⟩:=I.obj
  refine wpAny_bind (wpAny_pure (wpAny_bind (wpAny_bind (wpAny_loadPart hx (wpAny_bind (PySem.W.Looks.here (s:={ s with toks:=s.toks + 1 }) (PySem.W.looks_clsIn X hc) ?_))))))
  rw [hd']
  refine wpAny_pure (a:=some dx) (wpAny_bind (wpAny_pure (wpAny_bind ?_)))
  refine wpAny_nsSet1 (s:={ s with toks:=s.toks + 1 }) I.ns fun h' hn2 hs2 => ?_
  obtain ⟨oD,esD,epD,hoD,hdD,hcD⟩:=hn2.count (PySem.Within.cons name v hw)
  refine wpAny_bind (wpAny_lookBehind hoD (by rw [hdD]; exact pastItsLine_dict (Nat.le_trans hcD (by rw [List.length_cons]; lia))) ?_)
  exact wpAny_pure (h _ ⟨(hs2.2 _ (Ne.symm I.ne)).trans I.obj,hn2,I.ne⟩ hs2)

theorem make_map {R:Result→Shared→Prop} {vs:List Value} {kw:List (Str × Value)} (X:K.In s.heap) (hm:PySem.W.makesIn K C = true)
    (hi:PySem.W.findIn K (.ref C) "__init__" = some (some (.ref f))) (hf:PySem.W.typeIn K (.ref f) = some (.type "function"))
    (h:codeAny (model prog w) (A.under (.builtin "type.__call__" ⟨.ref C :: vs,kw⟩)) (.call (.ref f) ⟨.ref (s.heap.objs.size + 1) :: vs,kw⟩) (PySem.W.InitBack (s.heap.objs.size + 1) R)
      { s with heap:=(s.heap.push PySem.W.emptyDict).push (PySem.W.instObj C s.heap.objs.size) }) :
    codeAny (model prog w) A (.call (.ref C) ⟨vs,kw⟩) R s:=by
  obtain ⟨hh,g,d,t,os⟩:=s
  exact PySem.W.make_core (PySem.W.makes_of X hm) (PySem.W.looks_findIn X hi) (fun self => PySem.W.bind_fn X self hf) (.inl rfl) h
end

noncomputable def putF (f:Str) (v:V):List (Str × V)→List (Str × V)
  | [] => [(f,v)]
  | (g,x) :: r => if g = f then (g,v) :: r else (g,x) :: putF f v r
theorem lookup_putF (f g:Str) (v:V):∀ fs:List (Str × V),(putF f v fs).lookup g = if g = f then some v else fs.lookup g
  | [] => by
    show List.lookup g [(f,v)] = _
    by_cases h:g = f
    · have hb:(g == f) = true:=beq_iff_eq.mpr h
      simp only [List.lookup,hb,if_pos h]
    · have hb:(g == f) = false:=beq_eq_false_iff_ne.mpr h
      simp only [List.lookup,hb,if_neg h]
  | (k,x) :: r => by
    have ih:=lookup_putF f g v r
    rw [show putF f v ((k,x) :: r) = (if k = f then (k,v) :: r else (k,x) :: putF f v r) from rfl]
    by_cases hk:k = f
    · rw [if_pos hk]
      by_cases h:g = k
      · have hb:(g == k) = true:=beq_iff_eq.mpr h
        simp only [List.lookup,hb,if_pos (h.trans hk)]
      · have hb:(g == k) = false:=beq_eq_false_iff_ne.mpr h
        simp only [List.lookup,hb,if_neg (fun e:g = f => h (e.trans hk.symm))]
    · rw [if_neg hk]
      by_cases h:g = k
      · have hb:(g == k) = true:=beq_iff_eq.mpr h
        simp only [List.lookup,hb,if_neg (fun e:g = f => hk (h.symm.trans e))]
      · have hb:(g == k) = false:=beq_eq_false_iff_ne.mpr h
        simp only [List.lookup,hb]
        exact ih
theorem keys_putF (f:Str) (v:V):∀ fs:List (Str × V),f ∈ (putF f v fs).map (·.1)∧∀ g,g ∈ fs.map (·.1)→g ∈ (putF f v fs).map (·.1)
  | [] => ⟨by simp [putF],fun g h => by simp at h⟩
  | (k,x) :: r => by
    obtain ⟨i1,i2⟩:=keys_putF f v r
    rw [show putF f v ((k,x) :: r) = (if k = f then (k,v) :: r else (k,x) :: putF f v r) from rfl]
    by_cases hk:k = f
    · rw [if_pos hk]
      subst hk
      exact ⟨by simp,fun g h => by simpa using h⟩
    · rw [if_neg hk]
      refine ⟨?_,fun g h => ?_⟩
      · rw [List.map_cons]
        exact List.mem_cons_of_mem _ i1
      · rw [List.map_cons] at h ⊢
        rcases List.mem_cons.mp h with e | e
        · exact List.mem_cons.mpr (.inl e)
        · exact List.mem_cons_of_mem _ (i2 g e)
theorem length_putF (f:Str) (v:V):∀ fs:List (Str × V),(putF f v fs).length ≤ fs.length + 1
  | [] => by simp [putF]
  | (k,x) :: r => by
    have ih:=length_putF f v r
    rw [show putF f v ((k,x) :: r) = (if k = f then (k,v) :: r else (k,x) :: putF f v r) from rfl]
    by_cases hk:k = f
    · rw [if_pos hk,List.length_cons,List.length_cons]; lia
    · rw [if_neg hk,List.length_cons,List.length_cons]; lia

theorem RelO.some_of {v:V} {o:Option Value} (r:RelO (some v) o):∃ u,o = some u∧RelV v u:=by
  cases o with
  | none => exact (show False from r).elim
  | some u => exact ⟨u,rfl,r⟩
theorem RelO.none_of {o:Option Value} (r:RelO none o):o = none:=by
  cases o with
  | none => rfl
  | some u => exact (show False from r).elim
theorem handed_of {v:V} {u:Value} (r:RelV v u):PySem.W.handedIn u = true:=by
  cases v with
  | non => cases (show u = Value.none from r); rfl
  | bl b => cases (show u = Value.bool b from r); rfl
  | int i => obtain ⟨t,e⟩:=(show ∃ t,u = Value.int i t from r); cases e; rfl
  | str x => obtain ⟨t,e⟩:=(show ∃ t,u = Value.str x t from r); cases e; rfl
  | byt b => obtain ⟨t,e⟩:=(show ∃ t,u = Value.bytes b t from r); cases e; rfl
  | flt b => obtain ⟨t,e⟩:=(show ∃ t,u = Value.float b t from r); cases e; rfl
  | ref a => cases (show u = Value.ref a from r); rfl
  | ty n => cases (show u = Value.type n from r); rfl

section
variable {P:Program} {w:World} {H H':Hp} {h h':Heap} {a C dx:Addr} {fs fs':List (Str × V)}
theorem ins_get (hok:HOk P w H h) (e:H a = some (.ins C dx fs)):∃ mA,ObjM h a dx C mA∧(∀ f,RelO (fs.lookup f) (mA f))∧PySem.Within mA (fs.map (·.1))∧fs.length ≤ 1000∧H dx = some (.own a):=by
  obtain ⟨d,z,ne,ob,mA,n,r,q⟩:=(show ObjOk P w H h a (.ins C dx fs) from hok a _ e)
  exact ⟨mA,⟨ob,n,ne⟩,r,q,z,d⟩
end

structure Cls (K:PySem.W.Frag) (C:Addr):Prop where
  pg:PySem.W.plainGet K C Str.empty = true
  hd:PySem.W.hasDictIn K C = true
  po:PySem.W.plainOver K C = true
  sa:PySem.W.findIn K (.ref C) "__setattr__" = some (some (.builtin "object.__setattr__"))
theorem Cls.get {K:PySem.W.Frag} {C:Addr} (c:Cls K C) (f:Str):PySem.W.plainGet K C f = true:=c.pg
noncomputable def NoAttr (K:PySem.W.Frag) (C:Addr) (f:Str):Prop:=PySem.W.findIn K (.ref C) f = some none
theorem NoAttr.taker {K:PySem.W.Frag} {C:Addr} {f:Str} (n:NoAttr K C f):PySem.W.takerIn K C f = some none:=by
  unfold PySem.W.takerIn
  rw [show PySem.W.findIn K (.ref C) f = some none from n]
  rfl
structure Con (K:PySem.W.Frag) (C:Addr) (f:Str) (v:V) (u:Value):Prop where
  at_:PySem.W.findIn K (.ref C) f = some (some u)
  rel:RelV v u
  get:PySem.W.specialIn K u "__get__" = some none
  cp:PySem.W.copiedNames.contains f = false
structure Meth (K:PySem.W.Frag) (C:Addr) (m:Str) (f:Addr):Prop where
  at_:PySem.W.findIn K (.ref C) m = some (some (.ref f))
  fn:PySem.W.isFn K (.ref f) = true
  kp:PySem.W.keepIn K (.ref f) = true

section
variable {X:Cx} {pins:List (Addr × Obj)} {σ:St} {H:Hp} {s:Shared} {a C dx:Addr} {fs:List (Str × V)} {f:Str} {v:V} {A:Around} {E:Value→Shared→Prop}

theorem getattr_ok {b:Bool} {Q:Value→Shared→Prop} (I:Inv X pins σ H s) (e:H a = some (.ins C dx fs)) (c:Cls X.K C) (n:NoAttr X.K C f) (l:fs.lookup f = some v)
    (h:∀ u s',Inv X pins σ H s'→RelV v u→Q u s'):wpAny (model X.prog X.w) A (getAttr (.ref a) f b) Q E s:=by
  obtain ⟨mA,O,r,_,_,_⟩:=ins_get I.hok e
  obtain ⟨u,hu,ru⟩:=RelO.some_of (v:=v) (o:=mA f) (by rw [← l]; exact r f)
  exact get_map I.kIn O (c.get f) c.hd n hu (handed_of ru) (h u _ (I.tok _) ru)

theorem getmeth_ok {m:Str} {g:Addr} {pl:Sem Bool} {Q:Value × List Value→Shared→Prop} (I:Inv X pins σ H s) (e:H a = some (.ins C dx fs)) (c:Cls X.K C) (k:Meth X.K C m g) (l:fs.lookup m = none)
    (h:Q (.ref g,[.ref a]) s):wpAny (model X.prog X.w) A (getMethod (.ref a) m pl) Q E s:=by
  obtain ⟨mA,O,r,_,_,_⟩:=ins_get I.hok e
  have hn:mA m = none:=RelO.none_of (by rw [← l]; exact r m)
  exact get_meth I.kIn O (c.get m) k.at_ k.fn hn h

theorem setattr_ok {y:V} {u:Value} {Q:Unit→Shared→Prop} (I:Inv X pins σ H s) (e:H a = some (.ins C dx fs)) (c:Cls X.K C) (n:NoAttr X.K C f) (hl:fs.length < 1000) (ry:RelV y u)
    (h:∀ s',Inv X pins σ (upd H a (.ins C dx (putF f y fs))) s'→Q () s'):wpAny (model X.prog X.w) A (setAttr (.ref a) f u) Q E s:=by
  obtain ⟨mA,O,r,wi,_,ho⟩:=ins_get I.hok e
  have hz:(fs.map (·.1)).length ≤ sizeLine:=by rw [List.length_map,sizeLine_eq]; lia
  refine set_map I.kIn O c.sa c.po n.taker c.hd wi hz fun h' O' sb => h _ ?_
  have hd:∃ o,h'.get? dx = some o:=let ⟨o,_,_,e',_⟩:=O'.ns; ⟨o,e'⟩
  refine I.write (x:=a) (e:=dx) (by rw [e]; exact True.intro) (.inr ho) (fun b q hb z => (sb.2 b hb).trans z) hd ?_
  refine ⟨by rw [upd_ne O.ne]; exact ho,?_,O.ne,O'.obj,_,O'.ns,fun g => ?_,fun g hg => ?_⟩
  · have:=length_putF f y fs; lia
  · show RelO ((putF f y fs).lookup g) (if g = f then some u else mA g)
    rw [lookup_putF]
    by_cases q:g = f
    · rw [if_pos q,if_pos q]; exact ry
    · rw [if_neg q,if_neg q]; exact r g
  · by_cases q:g = f
    · rw [q]; exact (keys_putF f y fs).1
    · refine (keys_putF f y fs).2 g (wi g fun z => hg ?_)
      show (if g = f then some u else mA g) = none
      rw [if_neg q]; exact z

theorem Inv.made (I:Inv X pins σ H s):Inv X pins σ (upd (upd H s.heap.objs.size (.own (s.heap.objs.size + 1))) (s.heap.objs.size + 1) (.ins C s.heap.objs.size []))
    { s with heap:=(s.heap.push PySem.W.emptyDict).push (PySem.W.instObj C s.heap.objs.size) }:=by
  have e1:(s.heap.push PySem.W.emptyDict).get? s.heap.objs.size = some PySem.W.emptyDict:=Heap.get?_push_size s.heap rfl
  have e2:((s.heap.push PySem.W.emptyDict).push (PySem.W.instObj C s.heap.objs.size)).get? (s.heap.objs.size + 1) = some (PySem.W.instObj C s.heap.objs.size):=by
    have:=Heap.get?_push_size (s.heap.push PySem.W.emptyDict) (o:=PySem.W.instObj C s.heap.objs.size) rfl
    rwa [Heap.size_push] at this
  have e3:(s.heap.push PySem.W.emptyDict).Ns s.heap.objs.size (fun _ => none):=⟨PySem.W.emptyDict,#[],_,e1,rfl,(fun e he => absurd he (by simp)),fun _ => rfl⟩
  have I1:=I.laid (a:=s.heap.objs.size) (o:=.own (s.heap.objs.size + 1)) (h':=s.heap.push PySem.W.emptyDict) (t':=s.toks) (fun b u q => Heap.get?_push_of_some _ q) (Nat.le_refl _) ⟨_,e1⟩
  refine I1.laid (a:=s.heap.objs.size + 1) (o:=.ins C s.heap.objs.size []) (t':=s.toks) (fun b u q => Heap.get?_push_of_some _ q) (Nat.le_of_eq (Heap.size_push _ _)) ?_
  have ne:s.heap.objs.size ≠ s.heap.objs.size + 1:=Nat.ne_of_lt (Nat.lt_succ_self _)
  refine ⟨by rw [upd_ne ne,upd_same],Nat.zero_le _,ne,e2,fun _ => none,(Heap.Ns1.of_empty e3).at fun o q => Heap.get?_push_of_some _ q,fun _ => True.intro,fun y hy => absurd rfl hy⟩

theorem attr_of {prog:Program} {w:World} {env:Env} {e:Expr} {f:Str} {pos:Pos} {s:Shared} {Q:Value→Shared→Prop} (hb:attributeBase e f env (eval e env) = eval e env)
    (h:wpAny (model prog w) A (eval e env) (fun o s₁ => wpAny (model prog w) A (getAttr o f true) Q E s₁) E s):wpAny (model prog w) A (eval (.Attribute e f pos) env) Q E s :=
  Attribute_any_ h (by rw [arm_eval_Attribute,hb])
end

noncomputable def tFld (K:PySem.W.Frag) (ta:TE) (f:Str):TE:=fun σ H Q => ta σ H fun x H1 => ∃ a C dx fs v,x = .ref a∧H1 a = some (.ins C dx fs)∧Cls K C∧NoAttr K C f∧fs.lookup f = some v∧Q v H1
noncomputable def sFld (K:PySem.W.Frag) (ta tv:TE) (f:Str):TS:=fun D σ H => tv σ H fun y H1 => ta σ H1 fun x H2 => ∃ a C dx fs,x = .ref a∧H2 a = some (.ins C dx fs)∧Cls K C∧NoAttr K C f∧fs.length < 1000 ∧
  D.nx σ (upd H2 a (.ins C dx (putF f y fs)))
section
variable {X:Cx} {o e value:Expr} {f:Str} {pos pos' tpos:Pos} {ta tv:TE}
theorem pe_fld (he:PE X e ta) (hb:attributeBase e f X.env (eval e X.env) = eval e X.env):PE X (.Attribute e f pos) (tFld X.K ta f):=by
  intro pins s σ H Q I h
  refine attr_of hb (thn (he pins s σ H _ I h) fun u s1 x__33 => ?_)
  obtain ⟨x,H1,I1,rx,a,C,dx,fs,v,ex,ea,c,n,l,q⟩:=x__33
  subst ex
  obtain rfl:u = Value.ref a:=rx
  exact getattr_ok I1 ea c n l fun u' s2 I2 ru => ⟨v,H1,I2,ru,q⟩
theorem ps_fld (ha:PE X o ta) (hv:PE X value tv) (hs:swapsWith value (some (.Attribute o f pos')) pos.line X.env = pure false):PS X (.Assign [.Attribute o f pos'] value pos) (sFld X.K ta tv f):=by
  intro pins s σ H D I h
  refine plainObj_wpAny_Assign_Attribute (thn (hv pins s σ H _ I h) fun u s1 ⟨y,H1,I1,ry,q⟩ => thn (ha pins s1 σ H1 _ I1 q) fun ov s2 x__35 => ?_) hs
  obtain ⟨x,H2,I2,rx,a,C,dx,fs,ex,ea,c,n,l,q2⟩:=x__35
  subst ex
  obtain rfl:ov = Value.ref a:=rx
  exact setattr_ok I2 ea c n l ry fun s3 I3 => ⟨σ,_,I3,q2⟩
end

section
variable {X:Cx} {pins:List (Addr × Obj)} {σ:St} {H:Hp} {s:Shared} {A:Around} {E:Value→Shared→Prop} {Q:Value→Shared→Prop} {c:Value} {b:Bool}
inductive TyOf (K:PySem.W.Frag) (H:Hp):V→Value→Prop where
  | non:TyOf K H .non (.type "NoneType")
  | bl (x:Bool):TyOf K H (.bl x) (.type "bool")
  | int (i:Int):TyOf K H (.int i) (.type "int")
  | str (x:Str):TyOf K H (.str x) (.type "str")
  | flt (x:UInt64):TyOf K H (.flt x) (.type "float")
  | lst {a:Addr} {xs:List V} (e:H a = some (.lst xs)):TyOf K H (.ref a) (.type "list")
  | frz {a:Addr} {o:Obj} {xs:List V} (e:H a = some (.frz o (.lst xs))):TyOf K H (.ref a) (.type "list")
  | tup {a:Addr} {xs:List V} (e:H a = some (.tup xs)):TyOf K H (.ref a) (.type "tuple")
  | dK {a:Addr} {kvs:List (Key × V)} (e:H a = some (.dK kvs)):TyOf K H (.ref a) (.type "dict")
  | dT {a:Addr} {kvs:List (List Key × V)} (e:H a = some (.dT kvs)):TyOf K H (.ref a) (.type "dict")
  | ins {a C dx:Addr} {fs:List (Str × V)} (e:H a = some (.ins C dx fs)) (cl:Cls K C) (ha:PySem.W.findIn K (.ref C) "__class__" = some (some (.builtin "object.__class__")))
      (hn:PySem.W.specialIn K (.builtin "object.__class__") "__get__" = some (some (.builtin "getset_descriptor.__get__"))) (htk:PySem.W.takesIn K (.builtin "object.__class__") = some true)
      (hm:PySem.W.mroIn K C (.type "object") = some true):TyOf K H (.ref a) (.ref C)
end
end L2

namespace L2
open PySem PySem.Spec PyProof.Rows

structure Room (k:Nat) (A:Around):Prop where
  hd:A.handled = none
  dp:A.depth + 3 * k + 5 < recursionLimit
  un:A.units + 16 * k + 200 < cLine
theorem Room.mono {j k:Nat} {A:Around} (r:Room k A) (h:j ≤ k):Room j A:=⟨r.hd,by have:=r.dp; lia,by have:=r.un; lia⟩
theorem Room.deeper {k:Nat} {A:Around} (r:Room (k + 1) A) (env:Env):Room k (A.deeper env) :=
  ⟨r.hd,by have:=r.dp; show A.depth + 1 + 3 * k + 5 < _; lia,by have:=r.un; show A.units + 3 + 16 * k + 200 < _; lia⟩
theorem make_depth {A:Around} {C:Addr} {us:List Value} {kw:List (Str × Value)}:(A.under (.builtin "type.__call__" ⟨.ref C :: us,kw⟩)).depth = A.depth + 1:=by
  first | rfl | simp [Around.under,Code.weight,Code.isCreation,Code.isGuard,Code.isCaller,Code.frames,Code.isFrame,guardIds]
theorem make_units {A:Around} {C:Addr} {us:List Value} {kw:List (Str × Value)}:(A.under (.builtin "type.__call__" ⟨.ref C :: us,kw⟩)).units = A.units + 1:=by
  first | rfl | simp [Around.under,Code.cUnits,Code.frames,Code.isFrame]
theorem Room.make {k:Nat} {A:Around} (r:Room (k + 1) A) (C:Addr) (us:List Value) (kw:List (Str × Value)):Room k (A.under (.builtin "type.__call__" ⟨.ref C :: us,kw⟩)) :=
  ⟨r.hd,by have:=r.dp; rw [make_depth]; lia,by have:=r.un; rw [make_units]; lia⟩
theorem Room.depth {k:Nat} {A:Around} (r:Room k A):A.depth < recursionLimit:=by have:=r.dp; lia
theorem Room.units {k:Nat} {A:Around} (r:Room k A):A.units + 64 < cLine:=by have:=r.un; lia
noncomputable def tNil:TA:=fun _ H Q => Q [] H
noncomputable def tCons (ta:TE) (tr:TA):TA:=fun σ H Q => ta σ H fun x H1 => tr σ H1 fun xs H2 => Q (x :: xs) H2
section
variable {X:Cx} {e:Expr} {es:List Expr} {te:TE} {t:TA} {pos:Pos}
theorem pa_nil:PA X [] tNil:=fun _ _ _ _ H Q I h => Calls.spliced_nil ⟨[],H,I,.nil,h⟩
theorem pa_cons (ha:PE X e te) (hr:PA X es t) (hs:starEach (e :: es) X.env = (false,eval e X.env) :: starEach es X.env:=by rfl):PA X (e :: es) (tCons te t):=by
  intro pos pins s σ H Q I h
  rw [hs]
  show wpAny _ _ (spliced ((false,eval e X.env) :: backTo pos (starEach es X.env))) _ _ s
  refine Calls.spliced_cons (thn (ha pins s σ H _ I h) fun u s1 x__36 => ?_)
  obtain ⟨x,H1,I1,r1,q1⟩:=x__36
  exact thn (hr pos pins s1 σ H1 _ I1 q1) fun us s2 x__37 => (by obtain ⟨xs,H2,I2,r2,q2⟩:=x__37; exact ⟨x :: xs,H2,I2,.cons r1 r2,q2⟩)

noncomputable def tTup (t:TA):TE:=fun σ H Q => t σ H fun xs H1 => xs.length ≤ sizeLine∧∀ p,H1 p = none→Q (.ref p) (upd H1 p (.tup xs))
noncomputable def tLst (t:TA):TE:=fun σ H Q => t σ H fun xs H1 => xs.length ≤ sizeLine∧∀ p,H1 p = none→Q (.ref p) (upd H1 p (.lst xs))
theorem pe_tup {x1} (h:PA X es t):PE X (.Tuple es x1 pos) (tTup t):=by
  intro pins s σ H Q I hq
  refine wpAny_Tuple_spliced (thn (h pos pins s σ H _ I hq) fun us s1 ⟨xs,H1,I1,r,z,q⟩ => ⟨by rw [← r.length]; exact z,?_⟩)
  have hf:H1 s1.heap.objs.size = none:=I1.hok.fresh (Nat.le_refl _)
  refine ⟨.ref s1.heap.objs.size,upd H1 s1.heap.objs.size (.tup xs),I1.laid (t':=s1.toks) (fun b u e => Heap.get?_push_of_some _ e) (Nat.le_refl _) ?_,rfl,q _ hf⟩
  exact ⟨z,us,r,⟨_,Heap.get?_push_size _ rfl,rfl,_,rfl⟩⟩
theorem pe_lst (h:PA X es t):PE X (.List es pos) (tLst t):=by
  intro pins s σ H Q I hq
  refine wpAny_List_spliced (thn (h pos pins s σ H _ I hq) fun us s1 ⟨xs,H1,I1,r,z,q⟩ => ⟨by rw [← r.length]; exact z,?_⟩)
  have hf:H1 s1.heap.objs.size = none:=I1.hok.fresh (Nat.le_refl _)
  refine ⟨.ref s1.heap.objs.size,upd H1 s1.heap.objs.size (.lst xs),I1.laid (t':=s1.toks) (fun b u e => Heap.get?_push_of_some _ e) (Nat.le_refl _) ?_,rfl,q _ hf⟩
  exact ⟨z,us,0,r,Heap.get?_push_size _ rfl⟩
end

noncomputable abbrev Sp:=List V→Hp→VK→XK→Prop
noncomputable abbrev CXT:=List Env→Hp→Shared→XK→Value→Shared→Prop

structure Env0 (P:Program) (w:World) (K:PySem.W.Frag) (mg:Str→Option Value) (base:Heap) (A:Around) (outer:List Env) (s:Shared) (H:Hp):Prop where
  frames:A.frames = some outer
  mod:Mod K mg base
  bs:∀ b o,base.get? b = some o→s.heap.get? b = some o∧H b = none
  bsz:base.objs.size ≤ s.heap.objs.size
  funs:s.heap.FunFrames base outer
  frf:∀ b ∈ frs outer,H b = none
  hok:HOk P w H s.heap
  bare:AllBare s.gens
noncomputable def CE (outer:List Env) (P:Program) (w:World) (H:Hp) (s:Shared) (Q:VK) (u:Value) (s':Shared):Prop :=
  ∃ v H',s'.os = s.os∧AllBare s'.gens∧Un (frs outer) [] H H' s.heap s'.heap∧HOk P w H' s'.heap∧RelV v u∧Q v H'
noncomputable def CR (CX:CXT) (outer:List Env) (P:Program) (w:World) (H:Hp) (s:Shared) (Q:VK) (E:XK) (r:Result) (s':Shared):Prop :=
  match r with
  | .ok (.ret u) => CE outer P w H s Q u s'
  | .ok _ => False
  | .error e => CX outer H s E e s'
structure FnOk (P:Program) (w:World) (K:PySem.W.Frag) (mg:Str→Option Value) (base:Heap) (CX:CXT) (k:Nat) (f:Addr) (fd:FuncData) (ps:List Str) (sp:Sp):Prop where
  len:∀ vs H Q E,sp vs H Q E→vs.length = ps.length
  run:∀ (A:Around) (outer:List Env) (s:Shared) (H:Hp) (args:Args) (us:List Value) (vs:List V) (Q:VK) (E:XK),Room k A→Env0 P w K mg base A outer s H→BindsTo s fd args (ps.zip us)→Vals vs us→sp vs H Q E →
    codeAny (model P w) A (.call (.ref f) args) (CR CX outer P w H s Q E) s
theorem Env0.make {P:Program} {w:World} {K:PySem.W.Frag} {mg:Str→Option Value} {base:Heap} {A:Around} {outer:List Env} {s:Shared} {H:Hp} (e:Env0 P w K mg base A outer s H) (C:Addr) (us:List Value) (kw:List (Str × Value)) :
    Env0 P w K mg base (A.under (.builtin "type.__call__" ⟨.ref C :: us,kw⟩)) outer s H:=⟨by first | exact e.frames | (simpa [Around.under,Code.envs,Code.isFrame,pushEnvs] using e.frames),e.mod,e.bs,e.bsz,e.funs,e.frf,e.hok,e.bare⟩
section
variable {X:Cx} {pins:List (Addr × Obj)} {σ:St} {H:Hp} {s s':Shared}
theorem Inv.env0 (I:Inv X pins σ H s):Env0 X.prog X.w X.K X.mg X.base X.A X.stack s H :=
  ⟨I.ok.frames,I.ok.mod,I.bs,Nat.le_trans I.ok.bsz I.sz,I.stack,I.stkFree,I.hok,I.bare⟩
theorem Inv.after {Q:VK} {u:Value} (I:Inv X pins σ H s) (h:CE X.stack X.prog X.w H s Q u s'):EP X pins σ Q u s':=by
  obtain ⟨v,H',os,bare,un,hok,r,q⟩:=h
  obtain ⟨hh,g,d,t,os'⟩:=s'
  obtain rfl:os' = s.os:=os
  exact ⟨v,H',I.call (h':=hh) (g':=g) (d':=d) (t':=t) (ch:=[]) un hok bare (fun b z => absurd z (by simp)),r,q⟩
end

noncomputable def tCall (sp:Sp) (dvs:List V) (E:XK) (t:TA):TE:=fun σ H Q => t σ H fun vs H1 => sp (vs ++ dvs) H1 Q E
noncomputable def tMeth (C:Addr) (m:Str) (sp:Sp) (dvs:List V) (E:XK) (ta:TE) (t:TA):TE:=fun σ H Q => ta σ H fun x H1 => ∃ a dx fs,x = .ref a∧H1 a = some (.ins C dx fs)∧fs.lookup m = none ∧
  t σ H1 fun vs H2 => sp (x :: (vs ++ dvs)) H2 Q E
noncomputable def tMake (C:Addr) (sp:Sp) (dvs:List V) (E:XK) (t:TA):TE:=fun σ H Q => t σ H fun vs H1 => ∀ x dx,H1 x = none→H1 dx = none→dx ≠ x →
  sp (.ref x :: (vs ++ dvs)) (upd (upd H1 dx (.own x)) x (.ins C dx [])) (fun v H2 => v = .non∧Q (.ref x) H2) E

noncomputable def Binds (K:PySem.W.Frag) (fd:FuncData) (ps:List Str) (ds:List Value):Prop :=
  ∀ (s:Shared) (us:List Value),K.In s.heap→(us ++ ds).length = ps.length→BindsTo s fd ⟨us,[]⟩ (ps.zip (us ++ ds))
theorem Binds.all {K:PySem.W.Frag} {fd:FuncData} {ps:List Str} (h:∀ us:List Value,us.length = ps.length→bindArgs fd ⟨us,[]⟩ = pure (ps.zip us)):Binds K fd ps []:=fun s us _ hl => by
  rw [List.append_nil] at hl ⊢
  exact .of_eq (h us hl)

noncomputable def Passes (CX:CXT) (X:Cx) (E:XK):Prop:=∀ (pins:List (Addr × Obj)) (σ:St) (H:Hp) (s:Shared) (e:Value) (s':Shared),Inv X pins σ H s→CX X.stack H s E e s'→X.xe e s'

section
variable {X:Cx} {CX:CXT} {k:Nat} {f C:Addr} {fd:FuncData} {ps:List Str} {sp:Sp} {dvs:List V} {ds:List Value} {E:XK} {x m:Str} {p pos apos:Pos} {e o:Expr} {es:List Expr} {ta:TE} {t:TA}

theorem run_fn {pins:List (Addr × Obj)} {σ:St} {H:Hp} {s:Shared} {Q:VK} {us:List Value} {vs:List V} (F:FnOk X.prog X.w X.K X.mg X.base CX k f fd ps sp) (hr:Room k X.A) (hb:Binds X.K fd ps ds) (hd:Vals dvs ds) (hx:Passes CX X E)
    (I:Inv X pins σ H s) (r:Vals vs us) (h:sp (vs ++ dvs) H Q E):wpAny (model X.prog X.w) X.A (call (.ref f) us) (EP X pins σ Q) X.xe s:=by
  have r2:Vals (vs ++ dvs) (us ++ ds):=r.append hd
  have hl:(us ++ ds).length = ps.length:=by rw [← r2.length]; exact F.len _ _ _ _ h
  refine wpAny_call (codeAny_mono (F.run X.A X.stack s H ⟨us,[]⟩ (us ++ ds) (vs ++ dvs) Q E hr I.env0 (hb s us I.kIn hl) r2 h) fun r s' hq => ?_)
  cases r with
  | error e => exact hx pins σ H s e s' I hq
  | ok fl =>
    cases fl with
    | ret u => exact I.after hq
    | next => exact False.elim hq
    | brk => exact False.elim hq
    | cont => exact False.elim hq

theorem pe_call (F:FnOk X.prog X.w X.K X.mg X.base CX k f fd ps sp) (hr:Room k X.A) (hg:Gl X x) (hm:X.mg x = some (.ref f)) (hk:PySem.W.keepIn X.K (.ref f) = true) (hb:Binds X.K fd ps ds) (hd:Vals dvs ds) (hx:Passes CX X E)
    (ha:PA X (e :: es) t) (hdb:(x == ("__debug__":Str)) = false:=by decide) (he:starEach (e :: es) X.env = (false,eval e X.env) :: starEach es X.env:=by rfl) (hpl:(backTo pos (starEach es X.env)).any (·.1) = false:=by rfl) :
    PE X (.Call (.Name x p) (e :: es) [] pos) (tCall sp dvs E t):=by
  intro pins s σ H Q I h
  refine wpAny_Call_Name_kw (ld_glob I hg hm ?_ hdb)
  refine PySem.W.callWith_K (h₀:=X.base) I.ok.mod.kin hk (thn (ha pos pins s σ H _ I h) fun us s1 ⟨vs,H1,I1,r,q⟩ => ⟨I1.kIn,?_⟩) he hpl
  exact run_fn F hr hb hd hx I1 r q
theorem pe_meth {pl:Sem Bool} (he:PE X o ta) (c:Cls X.K C) (hm:Meth X.K C m f) (F:FnOk X.prog X.w X.K X.mg X.base CX k f fd ps sp) (hr:Room k X.A) (hb:Binds X.K fd ps ds) (hd:Vals dvs ds) (hx:Passes CX X E) (ha:PA X (e :: es) t)
    (hst:starEach (e :: es) X.env = (false,eval e X.env) :: starEach es X.env:=by rfl) (hpl:(backTo pos (starEach es X.env)).any (·.1) = false:=by rfl)
    (ht:eval (.Call (.Attribute o m apos) (e :: es) [] pos) X.env = (do
      let ov ← eval o X.env
      standAt apos.atName
      let (f,first) ← holding [ov] (getMethod ov m pl)
      callWith pos f first (backTo pos (starEach (e :: es) X.env)) (backToKw pos (keywordEach [] X.env))):=by rfl) :
    PE X (.Call (.Attribute o m apos) (e :: es) [] pos) (tMeth C m sp dvs E ta t):=by
  intro pins s σ H Q I h
  refine PySem.W.methodCall_KW (pl:=pl) (thn (he pins s σ H _ I h) fun u s1 x__41 => ?_) ht
  obtain ⟨x,H1,I1,rx,a,dx,fs,ex,ea,l,q⟩:=x__41
  subst ex
  obtain rfl:u = Value.ref a:=rx
  refine getmeth_ok I1 ea c hm l ?_
  refine PySem.W.callWith_K (first:=[.ref a]) (h₀:=X.base) I.ok.mod.kin hm.kp (thn (ha pos pins s1 σ H1 _ I1 q) fun us s2 ⟨vs,H2,I2,r,q2⟩ => ⟨I2.kIn,?_⟩) hst hpl
  exact run_fn (us:=.ref a :: us) (vs:=.ref a :: vs) F hr hb hd hx I2 (.cons rfl r) q2
structure Mk (K:PySem.W.Frag) (C f:Addr):Prop where
  makes:PySem.W.makesIn K C = true
  init:PySem.W.findIn K (.ref C) "__init__" = some (some (.ref f))
  fn:PySem.W.isFn K (.ref f) = true
  kp:PySem.W.keepIn K (.ref C) = true

theorem run_make {pins:List (Addr × Obj)} {σ:St} {H:Hp} {s:Shared} {Q:VK} {us:List Value} {vs:List V} (M:Mk X.K C f) (F:FnOk X.prog X.w X.K X.mg X.base CX k f fd ps sp) (hr:Room (k + 1) X.A) (hb:Binds X.K fd ps ds) (hd:Vals dvs ds)
    (hx:Passes CX X E) (I:Inv X pins σ H s) (r:Vals vs us)
    (h:∀ x dx,H x = none→H dx = none→dx ≠ x→sp (.ref x :: (vs ++ dvs)) (upd (upd H dx (.own x)) x (.ins C dx [])) (fun v H2 => v = .non∧Q (.ref x) H2) E) :
    wpAny (model X.prog X.w) X.A (call (.ref C) us) (EP X pins σ Q) X.xe s:=by
  have hq:=h (s.heap.objs.size + 1) s.heap.objs.size (I.hok.fresh (Nat.le_succ _)) (I.hok.fresh (Nat.le_refl _)) (Nat.ne_of_lt (Nat.lt_succ_self _))
  have I2:=Inv.made (C:=C) I
  have r2:Vals (V.ref (s.heap.objs.size + 1) :: (vs ++ dvs)) (Value.ref (s.heap.objs.size + 1) :: (us ++ ds)):=.cons rfl (r.append hd)
  have hl:(Value.ref (s.heap.objs.size + 1) :: us ++ ds).length = ps.length:=by
    have e:=r2.length
    rw [F.len _ _ _ _ hq] at e
    exact e.symm
  refine wpAny_call (make_map (f:=f) I.kIn M.makes M.init (beq_iff_eq.mp M.fn) (codeAny_mono (F.run _ X.stack _ _ ⟨Value.ref (s.heap.objs.size + 1) :: us,[]⟩ (Value.ref (s.heap.objs.size + 1) :: (us ++ ds)) _ _ E (hr.make C us [])
    (I2.env0.make C us []) (hb _ (Value.ref (s.heap.objs.size + 1) :: us) I2.kIn hl) r2 hq) fun r s' hq' => ?_))
  cases r with
  | error e => exact hx pins σ _ _ e s' I2 hq'
  | ok fl =>
    cases fl with
    | ret u =>
      obtain ⟨v,H',I3,rv,ev,q3⟩:=I2.after hq'
      subst ev
      exact ⟨rv,⟨V.ref (s.heap.objs.size + 1),H',I3,rfl,q3⟩⟩
    | next => exact False.elim hq'
    | brk => exact False.elim hq'
    | cont => exact False.elim hq'
theorem pe_make0 (M:Mk X.K C f) (F:FnOk X.prog X.w X.K X.mg X.base CX k f fd ps sp) (hr:Room (k + 1) X.A) (hg:Gl X x) (hm:X.mg x = some (.ref C)) (hb:Binds X.K fd ps ds) (hd:Vals dvs ds) (hx:Passes CX X E)
    (hdb:(x == ("__debug__":Str)) = false:=by decide):PE X (.Call (.Name x p) [] [] pos) (tMake C sp dvs E tNil):=by
  intro pins s σ H Q I h
  refine wpAny_Call_Name_kw (ld_glob I hg hm ?_ hdb)
  exact PySem.W.callWith_K0 I.kIn M.kp (run_make (us:=[]) M F hr hb hd hx I .nil h)
end

section
variable {X:Cx} {CX:CXT} {k:Nat} {f C:Addr} {fd:FuncData} {ps ks:List Str} {sp:Sp} {E:XK} {x m:Str} {p pos apos kpos:Pos} {e o:Expr} {es:List Expr} {kws:List Keyword} {te ta:TE} {t tk:TA} {nm:Option Str}
structure KBinds (K:PySem.W.Frag) (fd:FuncData) (ps ks:List Str) (g:List Value→List Value→List Value) (gV:List V→List V→List V):Prop where
  to:∀ (s:Shared) (us ws:List Value),K.In s.heap→(g us ws).length = ps.length→BindsTo s fd ⟨us,ks.zip ws⟩ (ps.zip (g us ws))
  rel:∀ {vs:List V} {us:List Value} {zs:List V} {ws:List Value},Vals vs us→Vals zs ws→Vals (gV vs zs) (g us ws)
variable {g:List Value→List Value→List Value} {gV:List V→List V→List V}
end

structure FnScope (N P:List Str) (sc:Scope):Prop where
  kind:sc.kind = .function
  co:sc.isCoroutine = false
  gen:sc.isGenerator = false
  nd:N.Nodup
  pre:N.take P.length = P
  par:∀ x ∈ P,sc.names.lookup x = some .local ∨ sc.names.lookup x = some .cell
  nofree:∀ y ∈ sc.names,y.2 ≠ .free

theorem bindL_out {kindOf:Str→Option NameKind} {x:Str}:∀ {binds:List (Str × Value)} {m:Str→Option Value},(∀ v,(x,v) ∉ binds)→bindL kindOf binds m x = m x
  | [],_,_ => rfl
  | (n,v) :: r,m,h => by
    unfold bindL
    rw [bindL_out fun w hw => h w (List.mem_cons_of_mem _ hw)]
    split
    · have:x ≠ n:=by rintro rfl; exact h v List.mem_cons_self
      simp [this]
    · rfl
theorem bindC_out {kindOf:Str→Option NameKind} {x:Str}:∀ {binds:List (Str × Value)} {m:Str→Option Value},(∀ v,(x,v) ∉ binds)→bindC kindOf binds m x = m x
  | [],_,_ => rfl
  | (n,v) :: r,m,h => by
    unfold bindC
    rw [bindC_out fun w hw => h w (List.mem_cons_of_mem _ hw)]
    split
    · rfl
    · have:x ≠ n:=by rintro rfl; exact h v List.mem_cons_self
      simp [this]
theorem bindL_get {kindOf:Str→Option NameKind} {x:Str} {v:Value}:∀ {P:List Str} {vs:List Value} {i:Nat} {m:Str→Option Value},P.Nodup→P[i]? = some x→vs[i]? = some v→kindOf x = some .local →
    bindL kindOf (P.zip vs) m x = some v
  | [],_,_,_,_,h,_,_ => by simp at h
  | _ :: _,[],_,_,_,_,h,_ => by simp at h
  | p :: P,w :: vs,0,m,nd,h1,h2,hk => by
    simp at h1 h2; subst h1; subst h2
    show bindL kindOf ((p,w) :: P.zip vs) m p = _
    unfold bindL
    rw [bindL_out fun v hv => (List.nodup_cons.mp nd).1 (List.of_mem_zip hv).1,if_pos hk]
    simp
  | p :: P,w :: vs,i + 1,m,nd,h1,h2,hk => by
    show bindL kindOf ((p,w) :: P.zip vs) m x = _
    unfold bindL
    exact bindL_get (i:=i) (List.nodup_cons.mp nd).2 (by simpa using h1) (by simpa using h2) hk
theorem bindC_get {kindOf:Str→Option NameKind} {x:Str} {v:Value}:∀ {P:List Str} {vs:List Value} {i:Nat} {m:Str→Option Value},P.Nodup→P[i]? = some x→vs[i]? = some v→kindOf x ≠ some .local →
    bindC kindOf (P.zip vs) m x = some v
  | [],_,_,_,_,h,_,_ => by simp at h
  | _ :: _,[],_,_,_,_,h,_ => by simp at h
  | p :: P,w :: vs,0,m,nd,h1,h2,hk => by
    simp at h1 h2; subst h1; subst h2
    show bindC kindOf ((p,w) :: P.zip vs) m p = _
    unfold bindC
    rw [bindC_out fun v hv => (List.nodup_cons.mp nd).1 (List.of_mem_zip hv).1,if_neg hk]
    simp
  | p :: P,w :: vs,i + 1,m,nd,h1,h2,hk => by
    show bindC kindOf ((p,w) :: P.zip vs) m x = _
    unfold bindC
    exact bindC_get (i:=i) (List.nodup_cons.mp nd).2 (by simpa using h1) (by simpa using h2) hk

noncomputable def start (N:List Str) (vs:List V):St:=vs.map some ++ List.replicate (N.length - vs.length) none

noncomputable def cxOf (CX:CXT) (P:Program) (w:World) (K:PySem.W.Frag) (mg:Str→Option Value) (base:Heap) (N:List Str) (qual:Str) (scope:Scope) (f:Addr) (cd:Value) (A:Around) (outer:List Env) (s:Shared) (H:Hp) (E:XK):Cx where
  prog:=P
  w:=w
  K:=K
  mg:=mg
  base:=base
  A:=A.deeper (envOfC qual scope s.heap.objs.size f cd)
  N:=N
  s₀:=s
  H₀:=H
  env:=envOfC qual scope s.heap.objs.size f cd
  outer:=outer
  stack:=envOfC qual scope s.heap.objs.size f cd :: outer
  ex:=[]
  calm:=true
  fn:=fun _ => true
  pn:=[]
  xe:=fun e s' => wpAny (model P w) (A.deeper (envOfC qual scope s.heap.objs.size f cd)) (leaving (envOfC qual scope s.heap.objs.size f cd) e) (fun _ s'' => CX outer H s E e s'') (fun e' s'' => CX outer H s E e' s'') s'

theorem cell_has {sc:Scope} {n:Nat} {x:Str} (h:sc.names.lookup x = some .cell):∃ c,(cellsFrom n sc.names []).lookup x = some c:=by
  have q:=PySem.W.cellsFrom_some sc.names n [] (.inl h)
  exact Option.isSome_iff_exists.mp q

theorem inv_start {CX:CXT} {P:Program} {w:World} {K:PySem.W.Frag} {mg:Str→Option Value} {base:Heap} {N ps:List Str} {qual:Str} {scope:Scope} {f:Addr} {cd:Value} {A:Around} {outer:List Env} {s s1:Shared} {H:Hp} {E:XK} {us:List Value} {vs:List V}
    (S:FnScope N ps scope) (hd:A.handled = none) (e0:Env0 P w K mg base A outer s H) (hl:vs.length = ps.length) (r:Vals vs us)
    (x:InCallC s s.heap.objs.size (bindL (envOfC qual scope s.heap.objs.size f cd).kindOf (ps.zip us) fun _ => none) (cellsFrom (s.heap.objs.size + 1) scope.names []) (bindC (envOfC qual scope s.heap.objs.size f cd).kindOf (ps.zip us) fun _ => none) s1) :
    Inv (cxOf CX P w K mg base N qual scope f cd A outer s H E) [] (start N vs) H s1:=by
  have hpl:ps.length ≤ N.length:=by have:=congrArg List.length S.pre; rw [List.length_take] at this; lia
  obtain ⟨h1,tk,rfl,hk⟩:=x.done
  have noA:∀ b:Addr,b ∉ (cxOf CX P w K mg base N qual scope f cd A outer s H E).ex:=fun b z => absurd (show b ∈ ([]:List Addr) from z) (by simp)
  refine ⟨⟨e0.mod,S.kind,rfl,rfl,Nat.le_refl _,fun y z c h1 h2 => ?_,fun y hy => ?_,fun y c _ h => ?_,fun _ => hd,Around.frames_deeper e0.frames,.inr ⟨rfl,rfl⟩,fun b z => absurd z (noA b),e0.bs,e0.bsz,fun b _ _ => noA b,fun b z => absurd z (noA b),e0.funs,e0.frf⟩,
    rfl,e0.bare,Un.kept hk,⟨_,x.toInCall.ns,fun i y v h1 h2 h3 => ?_⟩,fun y c h => ⟨_,x.cell y c h⟩,e0.hok.fresh (Nat.le_refl _),fun y c h => ?_,fun p hp => absurd (show p ∈ ([]:List (Addr × Obj)) from hp) (by simp),e0.hok.kept hk,?_⟩
  · exact name_of_addr x.apart (PySem.mem_of_lookup h1) (PySem.mem_of_lookup h2)
  · have hy:scope.names.lookup y = some .cell ∨ scope.names.lookup y = some .free:=hy
    rcases hy with hy | hy
    · exact cell_has hy
    · exact absurd rfl (S.nofree _ (PySem.mem_of_lookup hy))
  · exact Nat.le_of_lt (x.above y c (PySem.mem_of_lookup h))
  · have hi:i < vs.length:=by
      unfold start at h2
      by_cases hi:i < vs.length
      · exact hi
      · rw [List.getElem?_append_right (by simpa using hi)] at h2
        rw [List.getElem?_replicate] at h2
        split at h2 <;> cases h2
    have ha:vs[i]? = some v:=by
      unfold start at h2
      rw [List.getElem?_append_left (by simpa using hi),List.getElem?_map] at h2
      cases e:vs[i]? with
      | none => rw [e] at h2; cases h2
      | some a => rw [e] at h2; cases h2; rfl
    obtain ⟨u,hu,rv⟩:=r.get ha
    have hp:ps[i]? = some y:=by
      rw [← S.pre,List.getElem?_take_of_lt (by lia)]; exact h1
    have ndP:ps.Nodup:=by rw [← S.pre]; exact S.nd.sublist (List.take_sublist _ _)
    refine ⟨u,rv,?_⟩
    rcases S.par y (List.mem_of_getElem? hp) with k | k
    · exact .inl ⟨k,bindL_get ndP hp hu k⟩
    · obtain ⟨c,e⟩:=cell_has (n:=s.heap.objs.size + 1) k
      refine .inr ⟨.inl k,c,e,?_⟩
      have q:=x.cell y c e
      rw [bindC_get ndP hp hu (by show scope.names.lookup y ≠ _; rw [k]; decide)] at q
      exact q
  · exact e0.hok.fresh (Nat.le_of_lt (x.above y c (PySem.mem_of_lookup h)))
  · unfold start
    show _ = N.length
    rw [List.length_append,List.length_map,List.length_replicate]
    lia

theorem fn_of {CX:CXT} {P:Program} {w:World} {K:PySem.W.Frag} {mg:Str→Option Value} {base:Heap} {k:Nat} {f:Addr} {name qual:Str} {params:Arguments} {body:List Stmt} {scope:Scope} {dV kV doc pm cdv ct oc:Value} {an od:Option Addr}
    {osl:Array (Option Value)} {N ps:List Str} {sp:Sp} (lk:K.lookup f = some ⟨oc,od,.func (PySem.W.fnOf name qual params body scope dV kV doc pm an cdv ct),osl⟩) (hcd:PySem.W.codeIn K cdv qual = true) (S:FnScope N ps scope)
    (len:∀ vs H Q E,sp vs H Q E→vs.length = ps.length)
    (hbody:∀ (A:Around) (outer:List Env) (s:Shared) (H:Hp) (vs:List V) (Q:VK) (E:XK),Room k (A.deeper (envOfC qual scope s.heap.objs.size f cdv))→sp vs H Q E →
      ∃ t,PSs (cxOf CX P w K mg base N qual scope f cdv A outer s H E) body t∧t { nx:=fun _ H' => Q .non H',rt:=Q } (start N vs) H) :
    FnOk P w K mg base CX (k + 1) f (PySem.W.fnOf name qual params body scope dV kV doc pm an cdv ct) ps sp:=by
  refine ⟨len,fun A outer s H args us vs Q E hr e0 hb r hsp => ?_⟩
  have hl:=len _ _ _ _ hsp
  have KX:K.In s.heap:=e0.mod.kin.keeps fun b o e => (e0.bs b o e).1
  have lim:s.heap.NoLimit:=e0.mod.nolimit.keeps fun b o e => (e0.bs b o e).1
  have hkind:∀ y ∈ ps.zip us,scope.names.lookup y.1 = some .local ∨ (scope.names.lookup y.1 = some .cell∧((cellsFrom (s.heap.objs.size + 1) scope.names []).lookup y.1).isSome = true):=fun x__43 hy => by
    obtain ⟨n,v⟩:=x__43
    rcases S.par n (List.of_mem_zip hy).1 with q | q
    · exact .inl q
    · exact .inr ⟨q,PySem.W.cellsFrom_some _ _ _ (.inl q)⟩
  refine codeAny_call_function hr.depth (KX _ _ lk) rfl S.co S.gen rfl (PySem.W.codeRec_of KX hcd) (hb _ _ _ _ ?_)
  refine wpAny_newFunctionEnv_cells S.kind hkind fun env he s1 x => ?_
  subst he
  refine ⟨lim.keeps x.toInCall.keep,codeAny_func ?_⟩
  obtain ⟨t,ht,hq⟩:=hbody A outer s H vs Q E (hr.deeper _) hsp
  have I:Inv (cxOf CX P w K mg base N qual scope f cdv A outer s H E) [] (start N vs) H s1:=inv_start S hr.hd e0 hl r x
  refine wpAny_mono (ht [] s1 (start N vs) H _ I hq) (fun fl s' hs => ?_) fun e s' hs => hs
  have fin:∀ {σ':St} {H':Hp} {v:V} {u:Value},Inv (cxOf CX P w K mg base N qual scope f cdv A outer s H E) [] σ' H' s'→RelV v u→Q v H'→CE outer P w H s Q u s' :=
    fun {σ' H' v u} J rv q => ⟨v,H',J.os,J.bare,J.base,J.hok,rv,q⟩
  cases fl with
  | ret u =>
    obtain ⟨v,σ',H',J,rv,q⟩:=hs
    exact fin J rv q
  | next =>
    obtain ⟨σ',H',J,q⟩:=hs
    exact fin (v:=V.non) (u:=Value.none) J rfl q
  | brk =>
    obtain ⟨_,_,_,q⟩:=hs
    exact False.elim q
  | cont =>
    obtain ⟨_,_,_,q⟩:=hs
    exact False.elim q
end L2

namespace L2
open PySem PySem.Spec PyProof.Rows
section
variable {X:Cx} {x:Str} {p pos:Pos} {e:Expr} {es:List Expr} {t:TA} {id T:String} {r:List V→Hp→VK→Prop}

noncomputable def tCB (r:List V→Hp→VK→Prop) (t:TA):TE:=fun σ H Q => t σ H fun vs H1 => r vs H1 Q
theorem pe_callB (hc:CallR X (.builtin id) r) (hg:Gl X x) (hm:X.mg x = none) (hv:bootBuiltins x = some (.builtin id)) (ha:PA X (e :: es) t) (hn:x ≠ "__name__":=by decide) (hdb:(x == ("__debug__":Str)) = false:=by decide)
    (he:starEach (e :: es) X.env = (false,eval e X.env) :: starEach es X.env:=by rfl) (hpl:(backTo pos (starEach es X.env)).any (·.1) = false:=by rfl):PE X (.Call (.Name x p) (e :: es) [] pos) (tCB r t):=by
  intro pins s σ H Q I h
  refine wpAny_Call_Name_kw (ld_blt I hg hm hv ?_ hn hdb)
  exact PyProof.Rows.callWith_builtin1 (thn (ha pos pins s σ H _ I h) fun us s1 x__44 => (by obtain ⟨vs,H1,I1,r1,q1⟩:=x__44; exact hc pins s1 σ H1 vs us Q I1 r1 q1)) he hpl
theorem pe_callTy (hc:CallR X (.type T) r) (hg:Gl X x) (hm:X.mg x = none) (hv:bootBuiltins x = some (.type T)) (ha:PA X (e :: es) t) (hn:x ≠ "__name__":=by decide) (hdb:(x == ("__debug__":Str)) = false:=by decide)
    (he:starEach (e :: es) X.env = (false,eval e X.env) :: starEach es X.env:=by rfl) (hpl:(backTo pos (starEach es X.env)).any (·.1) = false:=by rfl):PE X (.Call (.Name x p) (e :: es) [] pos) (tCB r t):=by
  intro pins s σ H Q I h
  refine wpAny_Call_Name_kw (ld_blt I hg hm hv ?_ hn hdb)
  exact PyProof.Rows.callWith_type1 (thn (ha pos pins s σ H _ I h) fun us s1 x__45 => (by obtain ⟨vs,H1,I1,r1,q1⟩:=x__45; exact hc pins s1 σ H1 vs us Q I1 r1 q1)) he hpl
end
end L2

namespace HT
open PySem PyProof.Rows

section
open PySem.SeqAt
open PySem.AutoSeq1 (wpAny_loadPart')
open PySem.MeetsSeq PySem.MeetsSeq2 PySem.MeetsSeq3

end

section
variable {prog:Program} {w:World} {A:Around} {E:Value→Shared→Prop} {s:Shared}

noncomputable def sIx (n d:Nat):Option Int→Nat
  | none => d
  | some v => if v < 0 then (v + (n:Int)).toNat else min v.toNat n
theorem sIx_none (n d:Nat):sIx n d none = d:=rfl
theorem sIx_nat (n d k:Nat):sIx n d (some (k:Int)) = min k n:=by
  show (if (k:Int) < 0 then ((k:Int) + (n:Int)).toNat else min (k:Int).toNat n) = min k n
  rw [if_neg (by lia),Int.toNat_natCast]
end
end HT

namespace L2
open PySem PySem.Spec PyProof.Rows

noncomputable abbrev TO:=St→Hp→(Option Int→Hp→Prop)→Prop
noncomputable def PO (X:Cx) (e:Option Expr) (t:TO):Prop :=
  ∀ (pins:List (Addr × Obj)) (s:Shared) (σ:St) (H:Hp) (Q:Option Int→Hp→Prop),Inv X pins σ H s→t σ H Q →
    wpAny (model X.prog X.w) X.A (evalPart e X.env) (fun u s' => ∃ o H',Inv X pins σ H' s'∧IsPart u o∧Q o H') X.xe s
noncomputable def tNoPart:TO:=fun _ H Q => Q none H
noncomputable def tPart (t:TE):TO:=fun σ H Q => t σ H fun x H1 => ∃ i,x = .int i∧Q (some i) H1

section
variable {X:Cx} {e:Expr} {te:TE} {lo hi:Option Expr} {tl th:TO} {pos p2:Pos}

theorem po_none:PO X none tNoPart:=by
  intro pins s σ H Q I h
  rw [evalPart_none]
  exact wpAny_pure ⟨none,H,I,.none,h⟩
theorem po_some (h:PE X e te):PO X (some e) (tPart te):=by
  intro pins s σ H Q I hw
  rw [evalPart_some]
  refine thn (h pins s σ H _ I hw) fun u s1 x__46 => ?_
  obtain ⟨x,H1,I1,r1,q1⟩:=x__46
  obtain ⟨i,rfl,q⟩:=q1
  obtain ⟨t,rfl⟩:=r1
  exact ⟨some i,H1,I1,.int i t,q⟩

noncomputable def SlR (X:Cx) (r:V→Option Int→Option Int→Hp→VK→Prop):Prop :=
  ∀ (pins:List (Addr × Obj)) (s:Shared) (σ:St) (H:Hp) (x:V) (v vl vu:Value) (lo hi:Option Int) (sl:Addr) (Q:VK),Inv X pins σ H s→RelV x v→s.heap.IsSliceOf sl vl vu .none→IsPart vl lo→IsPart vu hi→r x lo hi H Q →
    ∃ T id,typeLookup (.type T) "__getitem__" = pure (some (.builtin id))∧s.TypeIs v T∧wpAny (model X.prog X.w) X.A (getItem v (.ref sl)) (EP X pins σ Q) X.xe s
theorem SlR.or {r r':V→Option Int→Option Int→Hp→VK→Prop} (h:SlR X r) (h':SlR X r'):SlR X (fun x lo hi H Q => r x lo hi H Q ∨ r' x lo hi H Q):=by
  intro pins s σ H x v vl vu lo hi sl Q I rx hs pl pu q
  rcases q with q | q
  · exact h pins s σ H x v vl vu lo hi sl Q I rx hs pl pu q
  · exact h' pins s σ H x v vl vu lo hi sl Q I rx hs pl pu q
noncomputable def tSl (r:V→Option Int→Option Int→Hp→VK→Prop) (te:TE) (tl th:TO):TE:=fun σ H Q => te σ H fun x H1 => tl σ H1 fun l H2 => th σ H2 fun u H3 => r x l u H3 Q
theorem pe_slice {r:V→Option Int→Option Int→Hp→VK→Prop} (hr:SlR X r) (he:PE X e te) (hl:PO X lo tl) (hu:PO X hi th):PE X (.Subscript e (.Slice lo hi none p2) pos) (tSl r te tl th):=by
  intro pins s σ H Q I h
  refine Subscript_ (thn (he pins s σ H _ I h) fun v s1 x__47 => ?_)
  obtain ⟨x,H1,I1,r1,q1⟩:=x__47
  refine wpAny_Slice (thn (hl pins s1 σ H1 _ I1 q1) fun vl s2 ⟨l,H2,I2,pl,q2⟩ => thn (hu pins s2 σ H2 _ I2 q2) fun vu s3 x__49 => ?_)
  obtain ⟨u,H3,I3,pu,q3⟩:=x__49
  rw [evalPart_none]
  refine wpAny_pure ?_
  have I4:Inv X pins σ H3 { s3 with heap:=s3.heap.push { cls:=.type "slice",data:=.fields #[vl,vu,.none] } }:=I3.kept (t':=s3.toks) fun b ob q => Heap.get?_push_of_some _ q
  obtain ⟨T,id,hT,ht,hg⟩:=hr pins { s3 with heap:=s3.heap.push { cls:=.type "slice",data:=.fields #[vl,vu,.none] } } σ H3 x v vl vu l u s3.heap.objs.size Q I4 r1 (Heap.IsSliceOf.new ..) pl pu q3
  show wpAny (model X.prog X.w) X.A (subscriptTail e (.Slice lo hi none p2) v (.ref s3.heap.objs.size)) (EP X pins σ Q) X.xe { s3 with heap:=s3.heap.push { cls:=.type "slice",data:=.fields #[vl,vu,.none] } }
  exact tail_any (ops:=[.ref s3.heap.objs.size,v]) ht hT hg (by with_unfolding_all rfl)

noncomputable def cutV (xs:List V) (lo hi:Option Int):List V:=(xs.drop (HT.sIx xs.length 0 lo)).take (HT.sIx xs.length xs.length hi - HT.sIx xs.length 0 lo)
theorem cutV_length (xs:List V) (lo hi:Option Int):(cutV xs lo hi).length ≤ xs.length:=by
  unfold cutV
  rw [List.length_take,List.length_drop]
  lia
end
end L2

namespace L2
open PySem PySem.Spec PyProof.Rows

noncomputable def ixN (n:Nat) (i:Int):Option Nat:=if 0 ≤ i then (if i < n then some i.toNat else none) else if -(n:Int) ≤ i then some (i + n).toNat else none
noncomputable def atI {α:Type} (xs:List α) (i:Int):Option α:=(ixN xs.length i).bind fun j => xs[j]?
theorem ixN_seq {n:Nat} {i:Int} {j:Nat} (h:ixN n i = some j):seqIndex? i n = some j∧j < n∧-(n:Int) ≤ i∧i < n:=by
  unfold ixN at h
  by_cases h0:0 ≤ i
  · rw [if_pos h0] at h
    by_cases h1:i < n
    · rw [if_pos h1] at h
      have e:i.toNat = j:=Option.some.inj h
      exact ⟨by rw [seqIndex_of h0 h1,e],by lia,by lia,h1⟩
    · rw [if_neg h1] at h; cases h
  · rw [if_neg h0] at h
    by_cases h1:-(n:Int) ≤ i
    · rw [if_pos h1] at h
      have e:(i + n).toNat = j:=Option.some.inj h
      exact ⟨by rw [seqIndex_neg (by lia) h1,e],by lia,h1,by lia⟩
    · rw [if_neg h1] at h; cases h
theorem atI_get {α:Type} {xs:List α} {i:Int} {v:α} (h:atI xs i = some v):∃ j,seqIndex? i xs.length = some j∧xs[j]? = some v∧j < xs.length∧-(xs.length:Int) ≤ i∧i < xs.length:=by
  unfold atI at h
  cases e:ixN xs.length i with
  | none => rw [e] at h; cases h
  | some j =>
    rw [e] at h
    obtain ⟨h1,h2,h3,h4⟩:=ixN_seq e
    exact ⟨j,h1,h,h2,h3,h4⟩
theorem atI_nat {α:Type} {xs:List α} {j:Nat} {v:α} (h:xs[j]? = some v):atI xs (j:Int) = some v:=by
  have hj:j < xs.length:=(List.getElem?_eq_some_iff.mp h).1
  have e:ixN xs.length (j:Int) = some j:=by
    unfold ixN
    rw [if_pos (by lia),if_pos (by lia)]; simp
  unfold atI; rw [e]; exact h
theorem atI_last {α:Type} (xs:List α) (v:α):atI (xs ++ [v]) (-1) = some v:=by
  have hl:(xs ++ [v]).length = xs.length + 1:=by simp
  have e:ixN (xs ++ [v]).length (-1) = some xs.length:=by
    unfold ixN
    rw [hl,if_neg (by decide),if_pos (by lia)]
    congr 1
    omega
  unfold atI
  rw [e]
  show (xs ++ [v])[xs.length]? = some v
  simp

noncomputable def PlainIx (b:Expr):Prop:=∀ o i,subscripted b false o i = operate [o,i] (getItem o i)
noncomputable def IxR (X:Cx) (r:R2):Prop :=
  ∀ (value slice:Expr) (pins:List (Addr × Obj)) (s:Shared) (σ:St) (H:Hp) (x y:V) (v u:Value) (Q:VK),Inv X pins σ H s→RelV x v→RelV y u→r x y H Q →
    subscripted slice false v u = operate [v,u] (getItem v u)→wpAny (model X.prog X.w) X.A (subscriptTail value slice v u) (EP X pins σ Q) X.xe s
noncomputable def MtR (X:Cx) (id:String) (r:V→List V→Hp→VK→Prop):Prop :=
  ∀ (pins:List (Addr × Obj)) (s:Shared) (σ:St) (H:Hp) (x:V) (xs:List V) (v:Value) (us:List Value) (Q:VK),Inv X pins σ H s→RelV x v→Vals xs us→r x xs H Q →
    wpAny (model X.prog X.w) X.A (call (.builtin id) (v :: us)) (EP X pins σ Q) X.xe s
section
variable {X:Cx} {a b:Expr} {ta tb:TE} {pos:Pos}
theorem IxR.or {r r':R2} (h:IxR X r) (h':IxR X r'):IxR X (fun x y H Q => r x y H Q ∨ r' x y H Q):=by
  intro value slice pins s σ H x y v u Q I rx ry q hs
  rcases q with q | q
  · exact h value slice pins s σ H x y v u Q I rx ry q hs
  · exact h' value slice pins s σ H x y v u Q I rx ry q hs
theorem pe_ix {r:R2} (hr:IxR X r) (ha:PE X a ta) (hb:PE X b tb) (hs:PlainIx b):PE X (.Subscript a b pos) (tOp r ta tb):=by
  intro pins s σ H Q I h
  exact Subscript_ (binT ha hb I h fun v u s2 x y H2 I2 rx ry q => hr a b pins s2 σ H2 x y v u Q I2 rx ry q (hs _ _))

noncomputable def rIxL (K:PySem.W.Frag):R2:=fun x y H Q => ∃ p xs i v,x = .ref p∧y = .int i∧SqL K H p xs∧atI xs i = some v∧Q v H
noncomputable def rIxT (K:PySem.W.Frag):R2:=fun x y H Q => ∃ p xs i v,x = .ref p∧y = .int i∧SqT K H p xs∧atI xs i = some v∧Q v H
noncomputable def rIxS:R2:=fun x y H Q => ∃ z i c,x = .str z∧y = .int i∧z.length ≤ sizeLine∧atI z.cps.toList i = some c∧Q (.str ⟨#[c]⟩) H
theorem ix_list:IxR X (rIxL X.K):=by
  intro value slice pins s σ H x y v u Q I rx ry h hs
  obtain ⟨p,xs,i,z,rfl,rfl,hq,he,q⟩:=h
  cases rx
  obtain ⟨t,rfl⟩:=ry
  obtain ⟨its,r,pl,hz⟩:=I.list hq
  obtain ⟨j,h1,h2,h3,h4,h5⟩:=atI_get he
  obtain ⟨w,ew,rw'⟩:=r.get h2
  have hl:=r.length
  have hn:=line63
  have fin:EP X pins σ Q w s:=⟨z,H,I,rw',q⟩
  by_cases h0:0 ≤ i
  · have hj:i.toNat = j:=by
      rw [seqIndex_of h0 h5] at h1
      exact Option.some.inj h1
    exact item_listR pl.isList h0 (by lia) (by rw [hj]; simpa using ew) fin hs
  · have hj:(i + (its.toArray.size:Int)).toNat = j:=by
      rw [seqIndex_neg (by lia) h4] at h1
      rw [List.size_toArray,← hl]
      exact Option.some.inj h1
    exact subscriptTail_builtinR (x:=w) pl.isList.typeIs slot_list_getitem.lookup
      (wpAny_getItem_list_neg (Q:=fun r s' => r = w∧EP X pins σ Q r s') pl.isList (by lia) (by rw [List.size_toArray] <;> lia) (by lia) (by rw [hj]; simpa using ew) ⟨rfl,fin⟩) hs
theorem ix_tup:IxR X (rIxT X.K):=by
  intro value slice pins s σ H x y v u Q I rx ry h hs
  obtain ⟨p,xs,i,z,rfl,rfl,hq,he,q⟩:=h
  cases rx
  obtain ⟨t,rfl⟩:=ry
  obtain ⟨its,r,pl,hz⟩:=I.tuple hq
  obtain ⟨j,h1,h2,h3,h4,h5⟩:=atI_get he
  obtain ⟨w,ew,rw'⟩:=r.get h2
  have hl:=r.length
  have hn:=line63
  have fin:EP X pins σ Q w s:=⟨z,H,I,rw',q⟩
  exact subscriptTail_builtinR (x:=w) pl.typeIs slot_tuple_getitem.lookup
    (getItem_tuple (j:=j) (Q:=fun r s' => r = w∧EP X pins σ Q r s') pl (by lia) (by lia) (by rw [List.size_toArray,← hl]; exact h1) (by simpa using ew) ⟨rfl,fin⟩) hs
theorem ix_str:IxR X rIxS:=by
  intro value slice pins s σ H x y v u Q I rx ry h hs
  obtain ⟨z,i,c,rfl,rfl,hz,he,q⟩:=h
  obtain ⟨t,rfl⟩:=rx
  obtain ⟨t',rfl⟩:=ry
  obtain ⟨j,h1,h2,h3,h4,h5⟩:=atI_get he
  have hl:z.cps.toList.length = z.length:=by simp [Str.length]
  rw [hl] at h1 h4 h5
  have hn:=line63
  exact tail_any (typeIs_str s z t) slot_str_getitem.lookup (getItem_str (c:=c) (by
    have e1:decide (i < -(2 ^ 63:Int)) = false:=decide_eq_false (by lia)
    have e2:decide (i ≥ 2 ^ 63) = false:=decide_eq_false (by lia)
    rw [e1,e2,Bool.or_false]) (by rw [h1]; simpa using h2) ⟨.str ⟨#[c]⟩,H,I.tok _,⟨_,rfl⟩,q⟩) hs
noncomputable def rIx (K:PySem.W.Frag):R2:=fun x y H Q => rIxL K x y H Q ∨ rIxT K x y H Q ∨ rIxS x y H Q
theorem ix_seq:IxR X (rIx X.K):=ix_list.or (ix_tup.or ix_str)

theorem mapSeq_set (its:List Value) (n j:Nat) (u:Value):Obj.mapSeq (·.setIfInBounds j u) { cls:=.type "list",data:=.seq its.toArray n } = { cls:=.type "list",data:=.seq (its.set j u).toArray n }:=by
  simp [Obj.mapSeq]
theorem Inv.lst {pins:List (Addr × Obj)} {σ:St} {H:Hp} {s:Shared} {p:Addr} {xs:List V} (I:Inv X pins σ H s) (h:H p = some (.lst xs)) :
    ∃ (its:List Value) (n:Nat),Vals xs its∧s.heap.get? p = some { cls:=.type "list",data:=.seq its.toArray n }∧xs.length ≤ sizeLine:=by
  obtain ⟨z,its,n,r,e⟩:=I.hok p _ h
  exact ⟨its,n,r,e,z⟩
theorem Inv.lstUpd {pins:List (Addr × Obj)} {σ:St} {H:Hp} {s:Shared} {p:Addr} {xs ys:List V} {its its':List Value} {n n':Nat} {f:Obj→Obj} (I:Inv X pins σ H s) (h:H p = some (.lst xs))
    (ho:s.heap.get? p = some { cls:=.type "list",data:=.seq its.toArray n }) (hf:f { cls:=.type "list",data:=.seq its.toArray n } = { cls:=.type "list",data:=.seq its'.toArray n' }) (r:Vals ys its') (hz:ys.length ≤ sizeLine) (t:Nat) :
    Inv X pins σ (upd H p (.lst ys)) { s with heap:=s.heap.update p f,toks:=t }:=by
  have e:(s.heap.update p f).get? p = some { cls:=.type "list",data:=.seq its'.toArray n' }:=by
    rw [Heap.get?_update_self f ho (by rw [hf] <;> rfl),hf]
  refine I.write (x:=p) (e:=p) (by rw [h]; trivial) (.inl rfl) (fun b u hb q => (Heap.get?_update_other _ _ (Ne.symm hb)).trans q) ⟨_,e⟩ ?_
  exact ⟨hz,its',n',r,e⟩
noncomputable def rSetL:V→V→V→Hp→(Hp→Prop)→Prop:=fun o i v H Q => ∃ p xs k j,o = .ref p∧i = .int k∧H p = some (.lst xs)∧ixN xs.length k = some j∧Q (upd H p (.lst (xs.set j v)))
theorem set_list:PSet X rSetL:=by
  intro pins s σ H o i v ov iv u Q I ro ri rv h
  obtain ⟨p,xs,k,j,rfl,rfl,hp,hj,q⟩:=h
  cases ro
  obtain ⟨t,rfl⟩:=ri
  obtain ⟨its,n,r,ho,hz⟩:=I.lst hp
  obtain ⟨h1,h2,h3,h4⟩:=ixN_seq hj
  have hl:=r.length
  have hn:=line63
  have I':Inv X pins σ (upd H p (.lst (xs.set j v))) { s with heap:=s.heap.update p (Obj.mapSeq (·.setIfInBounds j u)) } :=
    I.lstUpd hp ho (mapSeq_set its n j u) (r.set rv j) (by rw [List.length_set]; exact hz) s.toks
  by_cases h0:0 ≤ k
  · have hk:k.toNat = j:=by
      rw [seqIndex_of h0 h4] at h1
      exact Option.some.inj h1
    exact PySem.W.ki_setAt ho h0 (by lia) (by rw [List.size_toArray,← hl]; exact h4) (by rw [hk]; exact ⟨_,I',q⟩)
  · have hk:(k + (its.toArray.size:Int)).toNat = j:=by
      rw [seqIndex_neg (by lia) h3] at h1
      rw [List.size_toArray,← hl]
      exact Option.some.inj h1
    exact PySem.W.ki_setBack ho (by lia) (by rw [List.size_toArray,← hl]; exact h3) (by lia) (by rw [hk]; exact ⟨_,I',q⟩)

theorem slice_bounds (lo hi:Option Int) (n:Nat):(sliceBounds lo hi none n).1 = ((HT.sIx n 0 lo:Nat):Int)∧(sliceBounds lo hi none n).2.1 = ((HT.sIx n n hi:Nat):Int)∧(sliceBounds lo hi none n).2.2 = 1:=by
  refine ⟨?_,?_,rfl⟩
  · cases lo with
    | none => simp [sliceBounds,HT.sIx]
    | some i =>
      simp only [sliceBounds,HT.sIx,Option.getD_none,show (1:Int) > 0 by decide,if_true]
      by_cases h:i < 0
      · simp only [h,if_true] <;> lia
      · simp only [h,if_false] <;> lia
  · cases hi with
    | none => simp [sliceBounds,HT.sIx]
    | some i =>
      simp only [sliceBounds,HT.sIx,Option.getD_none,show (1:Int) > 0 by decide,if_true]
      by_cases h:i < 0
      · simp only [h,if_true] <;> lia
      · simp only [h,if_false] <;> lia
theorem slicePick_cut (its:List Value) (lo hi:Option Int):slicePick its.toArray lo hi none = ((its.drop (HT.sIx its.length 0 lo)).take (HT.sIx its.length its.length hi - HT.sIx its.length 0 lo)).toArray:=by
  obtain ⟨h1,h2,h3⟩:=slice_bounds lo hi its.toArray.size
  unfold slicePick
  rw [h1,h2,h3]
  simp only [sliceRange_one,pick_run,List.size_toArray] <;> rfl
noncomputable def rSlL (K:PySem.W.Frag):V→Option Int→Option Int→Hp→VK→Prop:=fun x lo hi H Q => ∃ a xs,x = .ref a∧SqL K H a xs∧∀ p,H p = none→Q (.ref p) (upd H p (.lst (cutV xs lo hi)))
theorem sl_list:SlR X (rSlL X.K):=by
  intro pins s σ H x v vl vu lo hi sl Q I rx hs pl pu h
  obtain ⟨a,xs,rfl,hx,q⟩:=h
  cases rx
  obtain ⟨its,r,ht,hz⟩:=I.list hx
  have hlen:=r.length
  refine ⟨"list",_,slot_list_getitem.lookup,ht.isList.typeIs,?_⟩
  refine wpAny_getItem_list_slice ht.isList hs pl pu .none (by simp) ?_ (by rw [List.size_toArray] <;> lia)
  rw [slicePick_cut,← hlen]
  refine ⟨.ref s.heap.objs.size,_,I.laid (t':=s.toks) (o:=.lst (cutV xs lo hi)) (fun b ob q => Heap.get?_push_of_some _ q) (Nat.le_refl _) ?_,rfl,q _ (I.hok.fresh (Nat.le_refl _))⟩
  exact ⟨Nat.le_trans (cutV_length xs lo hi) hz,_,0,(r.drop (HT.sIx xs.length 0 lo)).take (HT.sIx xs.length xs.length hi - HT.sIx xs.length 0 lo),Heap.get?_push_size _ rfl⟩

theorem call_len_seq:CallR X (.builtin "len") (fun xs H Q => ∃ p ys,xs = [.ref p]∧(SqL X.K H p ys ∨ SqT X.K H p ys)∧Q (.int ys.length) H):=by
  intro pins s σ H xs us Q I r h
  obtain ⟨p,ys,rfl,hq,q⟩:=h
  obtain ⟨u,rfl,rx⟩:=vals1 r
  cases rx
  have hn:=line63
  rcases hq with hq | hq
  · obtain ⟨its,r',pl,hz⟩:=I.list hq
    have hlen:=r'.length
    exact Calls.call_len_list pl.isList (by simp only [List.size_toArray] <;> lia) ⟨.int ys.length,H,I.tok _,⟨s.toks + 1,by rw [List.size_toArray,hlen]⟩,q⟩
  · obtain ⟨its,r',pl,hz⟩:=I.tuple hq
    have hlen:=r'.length
    exact len_tuple pl (by simp only [List.size_toArray] <;> lia) ⟨.int ys.length,H,I.tok _,⟨s.toks + 1,by rw [List.size_toArray,hlen]⟩,q⟩
theorem call_list_of:CallR X (.type "list") (fun xs H Q => ∃ p ys,xs = [.ref p]∧(SqL X.K H p ys ∨ SqT X.K H p ys)∧∀ l,H l = none→Q (.ref l) (upd H l (.lst ys))):=by
  intro pins s σ H xs us Q I r h
  obtain ⟨p,ys,rfl,hq,q⟩:=h
  obtain ⟨u,rfl,rx⟩:=vals1 r
  cases rx
  have fin:∀ (its:List Value),Vals ys its→ys.length ≤ sizeLine→∀ (h':Heap) (c':Nat),(∀ b o',s.heap.get? b = some o'→h'.get? b = some o') →
      h'.get? s.heap.objs.size = some { cls:=.type "list",dict:=none,data:=.seq its.toArray c',slots:=#[] }→EP X pins σ Q (.ref s.heap.objs.size) { s with heap:=h' }:=fun its r' hz h' c' kp e =>
    ⟨.ref s.heap.objs.size,_,I.laid (t':=s.toks) kp (Nat.le_refl _) (show ObjOk X.prog X.w _ h' _ (.lst ys) from ⟨hz,its,c',r',e⟩),rfl,q _ (I.hok.fresh (Nat.le_refl _))⟩
  rcases hq with hq | hq
  · obtain ⟨its,r',pl,hz⟩:=I.list hq
    have hlen:=r'.length
    obtain ⟨o,ho,hc,n,hd⟩:=pl.isList
    exact call_list_seq p (.inl rfl) ho hc hd (fun h' c' kp e => fin its r' hz h' c' kp e) (by simp only [List.size_toArray] <;> lia)
  · obtain ⟨its,r',pl,hz⟩:=I.tuple hq
    have hlen:=r'.length
    obtain ⟨o,ho,hc,n,hd⟩:=pl
    exact call_list_seq p (.inr rfl) ho hc hd (fun h' c' kp e => fin its r' hz h' c' kp e) (by simp only [List.size_toArray] <;> lia)
theorem call_tuple_of:CallR X (.type "tuple") (fun xs H Q => ∃ p ys,xs = [.ref p]∧((SqL X.K H p ys∧∀ l,H l = none→Q (.ref l) (upd H l (.tup ys))) ∨ (SqT X.K H p ys∧Q (.ref p) H))):=by
  intro pins s σ H xs us Q I r h
  obtain ⟨p,ys,rfl,h⟩:=h
  obtain ⟨u,rfl,rx⟩:=vals1 r
  cases rx
  rcases h with ⟨hq,q⟩ | ⟨hq,q⟩
  · obtain ⟨its,r',pl,hz⟩:=I.list hq
    have hlen:=r'.length
    refine call_tuple_list pl.isList (fun h' kp => ?_) (by simp only [List.size_toArray] <;> lia)
    have I1:Inv X pins σ H { s with heap:=h' }:=I.kept (t':=s.toks) kp
    have I2:Inv X pins σ (upd H h'.objs.size (.tup ys)) { s with heap:=h'.push { cls:=.type "tuple",data:=.seq its.toArray } } :=
      I1.laid (t':=s.toks) (fun b o e => Heap.get?_push_of_some _ e) (Nat.le_refl _) (show ObjOk X.prog X.w _ _ _ (.tup ys) from ⟨hz,its,r',IsTup.new _ _⟩)
    exact ⟨.ref h'.objs.size,_,I2,rfl,q _ (I1.hok.fresh (Nat.le_refl _))⟩
  · obtain ⟨its,r',pl,hz⟩:=I.tuple hq
    exact call_tuple_same pl ⟨.ref p,H,I,rfl,q⟩

noncomputable def tyV (K:PySem.W.Frag) (T:String) (x:V) (H:Hp):Prop:=match x with
  | .str _ => T = "str"
  | .int _ => T = "int"
  | .ref p => (T = "list"∧∃ xs,SqL K H p xs) ∨ (T = "tuple"∧∃ o,K.lookup p = some o∧o.cls = .type "tuple"∧o.dict = none) ∨
      (T = "dict"∧((∃ kvs,H p = some (.dK kvs)) ∨ ∃ kvs,H p = some (.dT kvs))) ∨ (T = "set"∧∃ S n,H p = some (.set S n))
  | _ => False
theorem tyV_is {pins:List (Addr × Obj)} {σ:St} {H:Hp} {s:Shared} {T:String} {x:V} {v:Value} (I:Inv X pins σ H s) (r:RelV x v) (ty:tyV X.K T x H) :
    s.TypeIs v T∧∀ a,v = .ref a→∃ ob,s.heap.get? a = some ob∧ob.dict = none:=by
  cases x with
  | str z =>
    obtain ⟨t,rfl⟩:=r
    cases (show T = "str" from ty)
    exact ⟨typeIs_str s z t,fun _ e => nomatch e⟩
  | int i =>
    obtain ⟨t,rfl⟩:=r
    cases (show T = "int" from ty)
    exact ⟨typeIs_int s i t,fun _ e => nomatch e⟩
  | ref p =>
    cases r
    rcases ty with ⟨rfl,xs,hq⟩ | ⟨rfl,o,hk,hc,hd⟩ | ⟨rfl,hk⟩ | ⟨rfl,S,n,hk⟩
    · obtain ⟨its,_,pl,_⟩:=I.list hq
      refine ⟨pl.isList.typeIs,fun a e => ?_⟩
      cases e
      obtain ⟨o,n,e,c,hd,_⟩:=pl
      exact ⟨o,e,hd⟩
    · refine ⟨⟨o,I.kIn p o hk,hc⟩,fun a e => ?_⟩
      cases e
      exact ⟨o,I.kIn _ o hk,hd⟩
    · have z:∃ o,s.heap.get? p = some o∧o.ExactDict:=by
        rcases hk with ⟨kvs,hk⟩ | ⟨kvs,hk⟩
        · obtain ⟨_,_,_,_,o,_,_,e,ex,_⟩:=I.hok p _ hk
          exact ⟨o,e,ex⟩
        · obtain ⟨_,_,_,_,o,_,_,e,ex,_⟩:=I.hok p _ hk
          exact ⟨o,e,ex⟩
      obtain ⟨o,e,ex⟩:=z
      refine ⟨⟨o,e,ex.1⟩,fun a e2 => ?_⟩
      cases e2
      exact ⟨o,e,ex.2.1⟩
    · obtain ⟨o,_,_,_,e,ex,_⟩:=I.hok p _ hk
      refine ⟨⟨o,e,ex.1⟩,fun a e2 => ?_⟩
      cases e2
      exact ⟨o,e,ex.2.1⟩
  | _ => exact False.elim ty
noncomputable def tBM0 (K:PySem.W.Frag) (T:String) (r:V→List V→Hp→VK→Prop) (to:TE):TE:=fun σ H Q => to σ H fun x H1 => tyV K T x H1∧r x [] H1 Q
noncomputable def tBM (K:PySem.W.Frag) (T:String) (r:V→List V→Hp→VK→Prop) (to:TE) (t:TA):TE:=fun σ H Q => to σ H fun x H1 => tyV K T x H1∧t σ H1 fun xs H2 => r x xs H2 Q
variable {o e:Expr} {es:List Expr} {to:TE} {t:TA} {name:Str} {apos cpos:Pos} {T id:String} {r:V→List V→Hp→VK→Prop}
theorem pe_bm0 (pa:PlainAttrs T) (slot:Slot T name id) (hty:typeOf (.builtin id) = pure (.type "method_descriptor")) (hm:MtR X id r) (ho:PE X o to)
    (hbase:attributeBase o name X.env (eval o X.env) = eval o X.env:=by rfl) (hline:(apos.endLine == cpos.line) = true:=by rfl):PE X (.Call (.Attribute o name apos) [] [] cpos) (tBM0 X.K T r to):=by
  intro pins s σ H Q I h
  refine wpAny_Call_method0_late hbase hline (thn (ho pins s σ H _ I h) fun v s1 x__50 => ?_)
  obtain ⟨x,H1,I1,r1,ty,q1⟩:=x__50
  obtain ⟨h1,h2⟩:=tyV_is I1 r1 ty
  exact ⟨T,id,pa,slot,hty,h1,h2,Calls.callWith_builtin rfl (PySem.evalArgs_none (hm pins s1 σ H1 x [] v [] Q I1 r1 .nil q1))⟩
theorem pe_bm (pa:PlainAttrs T) (slot:Slot T name id) (hty:typeOf (.builtin id) = pure (.type "method_descriptor")) (hm:MtR X id r) (ho:PE X o to) (ha:PA X (e :: es) t)
    (hbase:attributeBase o name X.env (eval o X.env) = eval o X.env:=by rfl)
    (hfew:((backTo cpos (starEach (e :: es) X.env)).all (fun x => !x.1) && (backToKw cpos (keywordEach [] X.env)).all (fun x => x.1.isSome)
      && decide ((e :: es).length + ([]:List Keyword).length + (if ([]:List Keyword).isEmpty then 0 else 1) < 30)) = true:=by rfl)
    (hline:(apos.endLine == cpos.line) = true:=by rfl) (hs:starEach (e :: es) X.env = (false,eval e X.env) :: starEach es X.env:=by rfl) (hplain:(backTo cpos (starEach es X.env)).any (·.1) = false:=by rfl) :
    PE X (.Call (.Attribute o name apos) (e :: es) [] cpos) (tBM X.K T r to t):=by
  intro pins s σ H Q I h
  refine wpAny_Call_method_late hbase hfew hline rfl (thn (ho pins s σ H _ I h) fun v s1 x__51 => ?_)
  obtain ⟨x,H1,I1,r1,ty,q1⟩:=x__51
  obtain ⟨h1,h2⟩:=tyV_is I1 r1 ty
  refine ⟨T,id,pa,slot,hty,h1,h2,?_⟩
  have hA:=ha cpos pins s1 σ H1 _ I1 q1
  rw [hs] at hA ⊢
  refine Calls.callWith_builtin (by show (false || (backTo cpos (starEach es X.env)).any (·.1)) = false; rw [hplain] <;> rfl) (Calls.evalArgs_plain ?_)
  exact thn hA fun us s2 x__52 => (by obtain ⟨vs,H2,I2,r2,q2⟩:=x__52; exact hm pins s2 σ H2 x vs v us Q I2 r1 r2 q2)
/- xs.append(e),list.index on a module's tuple .. are MtR facts of 06m -/
end
end L2

namespace L2
open PySem PySem.Spec PyProof.Rows

noncomputable def MtM (X:Cx) (id:String) (r:V→List V→Hp→VK→Prop):Prop :=
  ∀ (pins:List (Addr × Obj)) (s:Shared) (σ:St) (H:Hp) (x:V) (xs:List V) (v:Value) (us:List Value) (Q:VK),Inv X pins σ H s→RelV x v→Vals xs us→r x xs H Q →
    wpAny (model X.prog X.w) X.A (call (.builtin id) (v :: us)) (EP X pins σ Q) X.xe s

theorem Vals.one {x:V} {us:List Value} (h:Vals [x] us):∃ u,us = [u]∧RelV x u:=by
  cases h with
  | cons r h =>
    cases h
    exact ⟨_,rfl,r⟩
theorem Vals.zero:∀ {us:List Value},Vals [] us→us = []
  | _,.nil => rfl
theorem Vals.dropLast {xs:List V} {us:List Value} (h:Vals xs us):Vals xs.dropLast us.dropLast:=by
  induction h with
  | nil => exact .nil
  | cons r t ih =>
    cases t with
    | nil => exact .nil
    | cons q t' => exact .cons r ih
theorem Vals.rep {xs:List V} {us:List Value} (h:Vals xs us):∀ k:Nat,Vals (List.replicate k xs).flatten (List.replicate k us).flatten
  | 0 => .nil
  | k + 1 => by
    rw [List.replicate_succ,List.replicate_succ,List.flatten_cons,List.flatten_cons]
    exact Vals.append h (Vals.rep h k)
theorem erase_last {α:Type} (l:List α):l.eraseIdx (l.length - 1) = l.dropLast:=by
  induction l with
  | nil => rfl
  | cons a r ih =>
    cases r with
    | nil => rfl
    | cons b r =>
      have e:(a :: b :: r).length - 1 = ((b :: r).length - 1) + 1:=by
        have h1:(a :: b :: r).length = r.length + 2:=rfl
        have h2:(b :: r).length = r.length + 1:=rfl
        lia
      rw [e,List.eraseIdx_cons_succ,ih]
      all_goals rfl
theorem foldl_rep (its:List Value):∀ (k:Nat) (acc:List Value),
    List.foldl (fun x1 x2 => x1 ++ x2) acc.toArray (List.replicate k its.toArray) = (acc ++ (List.replicate k its).flatten).toArray
  | 0,acc => by simp
  | k + 1,acc => by
    have e:acc.toArray ++ its.toArray = (acc ++ its).toArray:=by simp
    have e2:(acc ++ its) ++ (List.replicate k its).flatten = acc ++ (List.replicate (k + 1) its).flatten:=by
      rw [List.replicate_succ,List.flatten_cons,List.append_assoc]
    rw [← e2,← foldl_rep its k (acc ++ its),← e,List.replicate_succ,List.foldl_cons]

section
variable {X:Cx} {pins:List (Addr × Obj)} {σ:St} {H:Hp} {s:Shared} {l b:Addr} {xs ys zs:List V}

theorem Inv.lset {its its':List Value} {n:Nat} {f:Array Value→Array Value} {t':Nat} (I:Inv X pins σ H s) (hH:H l = some (.lst xs))
    (e:s.heap.get? l = some { cls:=.type "list",data:=.seq its.toArray n }) (hf:f its.toArray = its'.toArray) (hv:Vals ys its') (hz:ys.length ≤ sizeLine) :
    Inv X pins σ (upd H l (.lst ys)) { s with heap:=s.heap.update l (Obj.mapSeq f),toks:=t' }:=by
  have q:=PySem.IsL.update e f
  rw [hf] at q
  refine I.write (x:=l) (e:=l) (by rw [hH]; exact trivial) (.inl rfl) (fun b' u hb hu => (Heap.get?_update_other s.heap (Obj.mapSeq f) (Ne.symm hb)).trans hu) ⟨_,q⟩ ?_
  exact ⟨hz,its',_,hv,q⟩
theorem Inv.lnew {its:List Value} {t':Nat} (I:Inv X pins σ H s) (hv:Vals ys its) (hz:ys.length ≤ sizeLine) :
    Inv X pins σ (upd H s.heap.objs.size (.lst ys)) { s with heap:=s.heap.push { cls:=.type "list",data:=.seq its.toArray },toks:=t' } :=
  I.laid (fun _ _ q => Heap.get?_push_of_some _ q) (Nat.le_refl _) ⟨hz,its,0,hv,Heap.get?_push_size _ rfl⟩
theorem Inv.fresh (I:Inv X pins σ H s):H s.heap.objs.size = none:=I.hok.fresh (Nat.le_refl _)
theorem Inv.lstM (I:Inv X pins σ H s) (hH:H l = some (.lst xs)):xs.length ≤ sizeLine∧∃ (its:List Value) (n:Nat),Vals xs its∧xs.length = its.length∧s.heap.get? l = some { cls:=.type "list",data:=.seq its.toArray n }:=by
  obtain ⟨z,its,n,r,e⟩:=I.hok l _ hH
  exact ⟨z,its,n,r,r.length,e⟩

theorem notLongL {n:Nat} (h:n ≤ sizeLine):Builtin.List.listTooLong n = false:=by
  unfold Builtin.List.listTooLong
  exact decide_eq_false (by lia)
end

section
variable {X:Cx}

noncomputable def rAppend:V→List V→Hp→VK→Prop:=fun x vs H Q => ∃ l xs y,x = .ref l∧vs = [y]∧H l = some (.lst xs)∧xs.length < sizeLine∧Q .non (upd H l (.lst (xs ++ [y])))
theorem mt_append:MtM X "list.append" rAppend:=by
  intro pins s σ H x vs v us Q I rx rv h
  obtain ⟨l,xs,y,rfl,rfl,hH,hz,q⟩:=h
  cases rx
  obtain ⟨u,rfl,ru⟩:=rv.one
  obtain ⟨z,its,n,r,hl,e⟩:=I.lstM hH
  refine call_meets F.slot_list_append ⟨_,e,rfl⟩ F.entry_list_append (F.args_list_append_2 _ _) (PySem.list_append l its.toArray n u (by rw [List.size_toArray]; lia)) ⟨e,?_⟩
  refine ⟨.non,_,I.lset (its':=its ++ [u]) hH e (by simp) (r.append (.cons ru .nil)) ?_,rfl,q⟩
  rw [List.length_append,List.length_singleton]
  lia

noncomputable def rPop:V→List V→Hp→VK→Prop:=fun x vs H Q => ∃ l xs y,x = .ref l∧vs = []∧H l = some (.lst xs)∧xs[xs.length - 1]? = some y∧Q y (upd H l (.lst xs.dropLast))
theorem mt_pop:MtM X "list.pop" rPop:=by
  intro pins s σ H x vs v us Q I rx rv h
  obtain ⟨l,xs,y,rfl,rfl,hH,hy,q⟩:=h
  cases rx
  have hus:=rv.zero
  subst hus
  obtain ⟨z,its,n,r,hl,e⟩:=I.lstM hH
  obtain ⟨u,hu,ru⟩:=r.get hy
  have hy':its.toArray[its.toArray.size - 1]? = some u:=by
    show its.toArray[its.length - 1]? = some u
    rw [← Array.getElem?_toList,← hl]
    exact hu
  refine call_meets F.slot_list_pop ⟨_,e,rfl⟩ F.entry_list_pop (F.args_list_pop_1 _) (MeetsSeq.list_pop_last l its.toArray n u hy' (by rw [List.size_toArray]; lia)) ⟨e,?_⟩
  refine ⟨y,_,I.lset (its':=its.dropLast) hH e ?_ r.dropLast ?_,ru,q⟩
  · show its.toArray.eraseIdxIfInBounds (its.toArray.size - 1) = its.dropLast.toArray
    rw [List.size_toArray,List.eraseIdxIfInBounds_toArray,erase_last]
  · rw [List.length_dropLast]
    lia

noncomputable def rCat:R2:=fun x y H Q => ∃ l b xs zs,x = .ref l∧y = .ref b∧H l = some (.lst xs)∧H b = some (.lst zs)∧xs.length + zs.length ≤ sizeLine∧∀ p,H p = none→Q (.ref p) (upd H p (.lst (xs ++ zs)))
theorem op_cat:OpR X (binaryOp .Add) rCat:=by
  intro pins s σ H x y v u Q I rx ry h
  obtain ⟨l,b,xs,zs,rfl,rfl,hH,hB,hz,q⟩:=h
  cases rx
  cases ry
  obtain ⟨z,its,n,r,hl,e⟩:=I.lstM hH
  obtain ⟨z2,its2,n2,r2,hl2,e2⟩:=I.lstM hB
  refine PySem.P.add_list e e2 ?_ (by rw [List.size_toArray,List.size_toArray]; lia)
  have ea:its.toArray ++ its2.toArray = (its ++ its2).toArray:=by simp
  rw [ea]
  exact ⟨.ref _,_,I.lnew (t':=s.toks) (r.append r2) (by rw [List.length_append]; omega),rfl,q _ I.fresh⟩
noncomputable def rRep:R2:=fun x y H Q => ∃ l k xs,x = .ref l∧y = .int k∧H l = some (.lst xs)∧-(2 ^ 63) ≤ k∧k < 2 ^ 63∧xs.length * k.toNat ≤ sizeLine ∧
  ∀ p,H p = none→Q (.ref p) (upd H p (.lst (List.replicate k.toNat xs).flatten))
theorem len_rep {α:Type} (xs:List α) (k:Nat):(List.replicate k xs).flatten.length = k * xs.length:=by
  induction k with
  | zero => simp
  | succ k ih => rw [List.replicate_succ,List.flatten_cons,List.length_append,ih,Nat.succ_mul,Nat.add_comm]
theorem op_rep:OpR X (binaryOp .Mult) rRep:=by
  intro pins s σ H x y v u Q I rx ry h
  obtain ⟨l,k,xs,rfl,rfl,hH,h1,h2,hz,q⟩:=h
  cases rx
  obtain ⟨t,rfl⟩:=ry
  obtain ⟨z,its,n,r,hl,e⟩:=I.lstM hH
  have hlen:its.toArray.size * k.toNat ≤ sizeLine:=by rw [List.size_toArray,← hl]; exact hz
  have hcap:¬ its.toArray.size * k.toNat > (2 ^ 63 - 1) / 8:=by
    have:(sizeLine:Nat) ≤ (2 ^ 63 - 1) / 8:=by decide
    lia
  have hfit:¬ (!Builtin.List.listFitsIndex k) = true:=by
    rw [fitsIndex_both h1 h2]
    exact Bool.false_ne_true
  have hlong:¬ Builtin.List.listTooLong (its.toArray.size * k.toNat) = true:=by
    rw [notLongL hlen]
    exact Bool.false_ne_true
  have hnew:List.foldl (fun x1 x2 => x1 ++ x2) #[] (List.replicate (if its.toArray.isEmpty = true then 0 else k.toNat) its.toArray) = (List.replicate k.toNat its).flatten.toArray:=by
    have f0:∀ m:Nat,List.foldl (fun x1 x2 => x1 ++ x2) #[] (List.replicate m its.toArray) = (List.replicate m its).flatten.toArray:=fun m => by
      have:=foldl_rep its m []
      rw [List.nil_append] at this
      exact this
    rw [f0]
    cases its with
    | nil => simp
    | cons a r' => rw [if_neg (by simp)]
  refine wpAny_binaryOp_repeat_ref (T:="list") (U:="int") (by decide) ⟨_,e,rfl⟩ (fun s' => typeIs_int s' k t) noFill_list_mul F.fills_int_mul F.slot_int_rmul repeat_list F.slot_int_index.lookup
    (call_meets F.slot_int_rmul (typeIs_int s k t) F.entry_int_rmul (F.args_int_rmul_2 _ _) (int___rmul___int_list k t l its.toArray n)
      ⟨e,rfl,⟨_,e,rfl⟩,call_meets F.slot_list_mul ⟨_,e,rfl⟩ F.entry_list_mul (F.args_list_mul_2 _ _) (AutoListH.list___mul___list_int_3 l its.toArray n k t hfit hcap hlong) ⟨e,?_⟩⟩)
  rw [hnew]
  exact ⟨.ref _,_,I.lnew (t':=s.toks) (r.rep k.toNat) (by rw [len_rep,Nat.mul_comm]; exact hz),rfl,q _ I.fresh⟩

end

section
variable {prog:Program} {w:World} {A:Around} {E:Value→Shared→Prop} {s:Shared}
end

section
variable {X:Cx}
end
end L2


namespace L2
open PySem PySem.Spec PyProof.Rows

section
variable {κ:Type} [DecidableEq κ]
noncomputable def valV (kvs:List (κ × V)) (k:κ):Option V:=(kvs.find? fun kv => decide (kv.1 = k)).map (·.2)
noncomputable def putK (kvs:List (κ × V)) (k:κ) (v:V):List (κ × V) :=
  if (kvs.any fun kv => decide (kv.1 = k)) = true then kvs.map (fun kv => if kv.1 = k then (kv.1,v) else kv) else kvs ++ [(k,v)]
theorem valV_pos {p:κ × V} {r:List (κ × V)} {k:κ} (e:p.1 = k):valV (p :: r) k = some p.2:=by simp [valV,List.find?_cons,e]
theorem valV_neg {p:κ × V} {r:List (κ × V)} {k:κ} (e:¬ p.1 = k):valV (p :: r) k = valV r k:=by simp [valV,List.find?_cons,e]
theorem valV_any (k:κ):∀ kvs:List (κ × V),(kvs.any fun kv => decide (kv.1 = k)) = (valV kvs k).isSome
  | [] => rfl
  | p :: r => by
    rw [List.any_cons]
    by_cases e:p.1 = k
    · simp only [valV_pos e,decide_eq_true e,Bool.true_or,Option.isSome_some]
    · rw [valV_neg e,decide_eq_false e,Bool.false_or]; exact valV_any k r
theorem length_putK (kvs:List (κ × V)) (k:κ) (v:V):(putK kvs k v).length ≤ kvs.length + 1:=by
  unfold putK
  split
  · rw [List.length_map]; lia
  · rw [List.length_append,List.length_cons,List.length_nil]; lia
theorem RelO.isSome_eq {o:Option V} {u:Option Value} (r:RelO o u):o.isSome = u.isSome:=by
  cases o with
  | none => cases u with
    | none => rfl
    | some _ => exact (show False from r).elim
  | some _ => cases u with
    | none => exact (show False from r).elim
    | some _ => rfl
theorem KV.val {kvs:List (κ × V)} {vs:List (κ × Value)} (r:KV kvs vs) (k:κ):RelO (valV kvs k) (valueAt vs k):=by
  unfold KV at r
  induction r with
  | nil => exact True.intro
  | @cons p q ps qs h t ih =>
    obtain ⟨h1,h2⟩:=h
    by_cases e:p.1 = k
    · have e':q.1 = k:=h1.symm.trans e
      have b:valueAt (q :: qs) k = some q.2:=by simp [valueAt,List.find?_cons,e']
      rw [valV_pos e,b]; exact h2
    · have e':¬ q.1 = k:=fun z => e (h1.trans z)
      have b:valueAt (q :: qs) k = valueAt qs k:=by simp [valueAt,List.find?_cons,e']
      rw [valV_neg e,b]; exact ih
theorem KV.any {kvs:List (κ × V)} {vs:List (κ × Value)} (r:KV kvs vs) (k:κ):(kvs.any fun kv => decide (kv.1 = k)) = vs.any fun kv => decide (kv.1 = k):=by
  unfold KV at r
  induction r with
  | nil => rfl
  | cons h t ih => rw [List.any_cons,List.any_cons,ih,h.1]
theorem KV.repl {kvs:List (κ × V)} {vs:List (κ × Value)} (r:KV kvs vs) (k:κ) {y:V} {u:Value} (ry:RelV y u) :
    KV (kvs.map fun kv => if kv.1 = k then (kv.1,y) else kv) (vs.map fun kv => if kv.1 = k then (kv.1,u) else kv):=by
  unfold KV at r ⊢
  induction r with
  | nil => exact .nil
  | @cons p q ps qs h t ih =>
    rw [List.map_cons,List.map_cons]
    refine .cons ?_ ih
    obtain ⟨h1,h2⟩:=h
    by_cases e:p.1 = k
    · rw [if_pos e,if_pos (h1.symm.trans e)]; exact ⟨h1,ry⟩
    · rw [if_neg e,if_neg (fun z => e (h1.trans z))]; exact ⟨h1,h2⟩
theorem KV.put {kvs:List (κ × V)} {vs:List (κ × Value)} (r:KV kvs vs) (k:κ) {y:V} {u:Value} (ry:RelV y u):KV (putK kvs k y) (stored vs k u):=by
  unfold putK stored
  rw [r.any k]
  by_cases e:(vs.any fun kv => decide (kv.1 = k)) = true
  · rw [if_pos e,if_pos e]; exact r.repl k ry
  · rw [if_neg e,if_neg e]; exact Paired.snoc r ⟨rfl,ry⟩
theorem KV.length {kvs:List (κ × V)} {vs:List (κ × Value)} (r:KV kvs vs):kvs.length = vs.length:=Paired.length r
end


theorem kV_is {P:Program} {w:World} {k:Key} {u:Value} (r:RelV (kV k) u):(mixKind P w).is k u = true:=by
  cases k with
  | inl i => obtain ⟨t,e⟩:=(show ∃ t,u = Value.int i t from r); subst e; exact mixKind_int P w i t
  | inr x => obtain ⟨t,e⟩:=(show ∃ t,u = Value.str x t from r); subst e; exact mixKind_str P w x t
theorem items_are {P:Program} {w:World}:∀ {ks:List Key} {us:List Value},Vals (ks.map kV) us→ItemsAre (mixKind P w) ks us
  | [],_,r => by rw [List.map_nil] at r; cases r; exact .nil
  | k :: ks,_,r => by
    rw [List.map_cons] at r
    cases r with
    | cons h t => exact .cons (kV_is h) (items_are t)

noncomputable abbrev KT (H:Hp):List (List Key × V)→List (List Key × Addr × Value)→Prop:=Paired fun p q => p.1 = q.1∧H q.2.1 = some (.tup (p.1.map kV))∧RelV p.2 q.2.2
theorem KT.val {H:Hp} {kvs:List (List Key × V)} {xs:List (List Key × Addr × Value)} (r:KT H kvs xs) (k:List Key):RelO (valV kvs k) ((atKey xs k).map (·.2)):=by
  induction r with
  | nil => exact True.intro
  | @cons p q ps qs h t ih =>
    obtain ⟨h1,_,h2⟩:=h
    by_cases e:p.1 = k
    · have e':q.1 = k:=h1.symm.trans e
      have b:atKey (q :: qs) k = some q.2:=by simp [atKey,List.find?_cons,e']
      rw [valV_pos e,b]; exact h2
    · have e':¬ q.1 = k:=fun z => e (h1.trans z)
      have b:atKey (q :: qs) k = atKey qs k:=by simp [atKey,List.find?_cons,e']
      rw [valV_neg e,b]; exact ih
theorem KT.repl {H:Hp} {kvs:List (List Key × V)} {xs:List (List Key × Addr × Value)} (r:KT H kvs xs) (k:List Key) {y:V} {u:Value} (ry:RelV y u) :
    KT H (kvs.map fun kv => if kv.1 = k then (kv.1,y) else kv) (xs.map (putAt k u)):=by
  induction r with
  | nil => exact .nil
  | @cons p q ps qs h t ih =>
    rw [List.map_cons,List.map_cons]
    refine .cons ?_ ih
    obtain ⟨h1,h2,h3⟩:=h
    unfold putAt
    by_cases e:p.1 = k
    · rw [if_pos e,if_pos (h1.symm.trans e)]; exact ⟨h1,h2,ry⟩
    · rw [if_neg e,if_neg (fun z => e (h1.trans z))]; exact ⟨h1,h2,h3⟩
theorem KT.put {H:Hp} {kvs:List (List Key × V)} {xs:List (List Key × Addr × Value)} (r:KT H kvs xs) (k:List Key) {b:Addr} {y:V} {u:Value} (hb:H b = some (.tup (k.map kV))) (ry:RelV y u) :
    KT H (putK kvs k y) (storedH xs k b u):=by
  have e:(kvs.any fun kv => decide (kv.1 = k)) = (atKey xs k).isSome:=by
    rw [valV_any,(r.val k).isSome_eq,Option.isSome_map]
  unfold putK storedH
  rw [e]
  by_cases q:(atKey xs k).isSome = true
  · rw [if_pos q,if_pos q]; exact r.repl k ry
  · rw [if_neg q,if_neg q]; exact Paired.snoc r ⟨rfl,hb,ry⟩
theorem KT.keeps {H H':Hp} {kvs:List (List Key × V)} {xs:List (List Key × Addr × Value)} (r:KT H kvs xs) (ht:∀ b ys,H b = some (.tup ys)→H' b = some (.tup ys)):KT H' kvs xs :=
  Paired.mapP r fun _ _ z => ⟨z.1,ht _ _ z.2.1,z.2.2⟩

section
variable {P:Program} {w:World} {H:Hp} {h:Heap} {a:Addr}
theorem rd_of {u:HO} (ok:HOk P w H h) (e:Rd H a u):ObjOk P w H h a u:=e.ok ok
theorem dk_rd {kvs:List (Key × V)} (ok:HOk P w H h) (e:Rd H a (.dK kvs)):kvs.length ≤ sizeLine∧(a == sysModules) = false∧∃ vs,KV kvs vs∧h.DictOf (mixKind P w) a vs :=
  show ObjOk P w H h a (.dK kvs) from rd_of ok e
theorem dk_of {kvs:List (Key × V)} (ok:HOk P w H h) (e:H a = some (.dK kvs)):kvs.length ≤ sizeLine∧(a == sysModules) = false∧∃ vs,KV kvs vs∧h.DictOf (mixKind P w) a vs:=dk_rd ok (.inl e)
theorem key_of {ks:List Key} (ok:HOk P w H h) (e:H a = some (.tup (ks.map kV))):(tupleKind (mixKind P w)).is h ks a:=by
  obtain ⟨_,its,r,o,h1,h2,n,h3⟩:=(show ObjOk P w H h a (.tup (ks.map kV)) from ok a _ e)
  exact ⟨o,its.toArray,n,h1,h2,h3,by simpa using items_are r⟩
theorem dt_rd {kvs:List (List Key × V)} (ok:HOk P w H h) (e:Rd H a (.dT kvs)):kvs.length ≤ sizeLine∧(a == sysModules) = false ∧
    ∃ xs,KT H kvs xs∧h.DictOfH (tupleKind (mixKind P w)) a xs:=by
  obtain ⟨z,y,xs,r,o,es,ep,h1,h2,h3,h4,h5⟩:=(show ObjOk P w H h a (.dT kvs) from rd_of ok e)
  refine ⟨z,y,xs,r,o,es,ep,h1,h2,h3,h4,fun x hx => ?_,h5⟩
  have all:∀ {l:List (List Key × V)} {m:List (List Key × Addr × Value)},KT H l m→∀ x ∈ m,(tupleKind (mixKind P w)).is h x.1 x.2.1:=by
    intro l m q
    induction q with
    | nil => intro x hx; exact nomatch hx
    | @cons p q ps qs hq t ih =>
      intro x hx
      rcases List.mem_cons.mp hx with e | hx
      · subst e
        exact key_of ok (by rw [← hq.1]; exact hq.2.1)
      · exact ih x hx
  exact all r x hx
theorem dt_of {kvs:List (List Key × V)} (ok:HOk P w H h) (e:H a = some (.dT kvs)):kvs.length ≤ sizeLine∧(a == sysModules) = false ∧
    ∃ xs,KT H kvs xs∧h.DictOfH (tupleKind (mixKind P w)) a xs:=dt_rd ok (.inl e)
end

noncomputable def DGet (H:Hp) (a:Addr) (y:V) (r:Option V):Prop :=
  (∃ kvs k,Rd H a (.dK kvs)∧y = kV k∧r = valV kvs k) ∨ ∃ kvs k b,Rd H a (.dT kvs)∧y = .ref b∧H b = some (.tup (k.map kV))∧r = valV kvs k
noncomputable def DPut (H:Hp) (a:Addr) (y v:V) (H':Hp):Prop :=
  (∃ kvs k,H a = some (.dK kvs)∧y = kV k∧kvs.length < sizeLine∧H' = upd H a (.dK (putK kvs k v))) ∨
  ∃ kvs k b,H a = some (.dT kvs)∧y = .ref b∧H b = some (.tup (k.map kV))∧kvs.length < sizeLine∧H' = upd H a (.dT (putK kvs k v))
theorem DGet.k {H:Hp} {a:Addr} {kvs:List (Key × V)} {k:Key} (e:H a = some (.dK kvs)):DGet H a (kV k) (valV kvs k):=.inl ⟨kvs,k,.inl e,rfl,rfl⟩
theorem DPut.k {H:Hp} {a:Addr} {kvs:List (Key × V)} {k:Key} {v:V} (e:H a = some (.dK kvs)) (hl:kvs.length < sizeLine):DPut H a (kV k) v (upd H a (.dK (putK kvs k v))):=.inl ⟨kvs,k,e,rfl,hl,rfl⟩
section
variable {X:Cx} {pins:List (Addr × Obj)} {σ:St} {H:Hp} {s:Shared} {a:Addr} {y v:V} {u r:Value} {o:Option V} {A:Around} {E:Value→Shared→Prop}

theorem Inv.big (I:Inv X pins σ H s):sysModules < s.heap.objs.size:=by
  have h:mainGlobals < s.heap.objs.size:=(I.mod.glob.keeps I.bk).lt
  exact Nat.lt_trans (by decide) h

theorem d_getItem {Q:Value→Shared→Prop} (hu:A.units + 1 < cLine) (I:Inv X pins σ H s) (g:DGet H a y (some v)) (ry:RelV y u) (h:∀ w' s',Inv X pins σ H s'→RelV v w'→Q w' s') :
    wpAny (model X.prog X.w) A (getItem (.ref a) u) Q E s:=by
  rcases g with ⟨kvs,k,e,ey,l⟩ | ⟨kvs,k,b,e,ey,eb,l⟩
  · subst ey
    obtain ⟨z,hd,vs,rel,dd⟩:=dk_rd I.hok e
    obtain ⟨w',hw,rw'⟩:=RelO.some_of (v:=v) (o:=valueAt vs k) (by rw [l]; exact rel.val k)
    exact wpAny_getItem_of (kV_is ry) dd.mapOf hw (h w' _ (I.tok _) rw')
  · subst ey
    cases (show u = Value.ref b from ry)
    obtain ⟨z,hd,xs,rel,dd⟩:=dt_rd I.hok e
    obtain ⟨w',hw,rw'⟩:=RelO.some_of (v:=v) (o:=(atKey xs k).map (·.2)) (by rw [l]; exact rel.val k)
    obtain ⟨p,hp,hp2⟩:=Option.map_eq_some_iff.mp hw
    refine wpAny_getItem_heap (tupleKind_room_in1 hu) (key_of I.hok eb) dd hp ?_
    rw [hp2]
    exact h w' _ (I.tok _) rw'
theorem d_write {h':Heap} {t':Nat} {ob:HO} (I:Inv X pins σ H s) (mu:Mut (H a)) (hs:Heap.SameBut a s.heap h') (he:∃ q,h'.get? a = some q) (new:ObjOk X.prog X.w (upd H a ob) h' a ob) :
    Inv X pins σ (upd H a ob) { s with heap:=h',toks:=t' } :=
  I.write (x:=a) (e:=a) mu (.inl rfl) (fun b q hb z => (hs.2 b hb).trans z) he new
theorem dk_new {P:Program} {w:World} {H':Hp} {h':Heap} {kvs:List (Key × V)} {vs:List (Key × Value)} (z:kvs.length ≤ sizeLine) (hd:(a == sysModules) = false) (rel:KV kvs vs) (dd:h'.DictOf (mixKind P w) a vs) :
    ObjOk P w H' h' a (.dK kvs):=⟨z,hd,vs,rel,dd⟩
theorem d_setItem {H':Hp} {Q:Unit→Shared→Prop} (hu:A.units + 1 < cLine) (I:Inv X pins σ H s) (g:DPut H a y v H') (ry:RelV y u) (rv:RelV v r) (h:∀ s',Inv X pins σ H' s'→Q () s') :
    wpAny (model X.prog X.w) A (setItem (.ref a) u r) Q E s:=by
  rcases g with ⟨kvs,k,e,ey,l,eH⟩ | ⟨kvs,k,b,e,ey,eb,l,eH⟩
  · subst ey eH
    obtain ⟨z,hd,vs,rel,dd⟩:=dk_of I.hok e
    have hz:vs.length ≤ sizeLine:=by rw [← rel.length]; exact z
    have hl:(putK kvs k v).length ≤ sizeLine:=by have:=length_putK kvs k v; lia
    refine wpAny_setItem_pairs (hsz:=hz) (kV_is ry) dd fun h' dd' hs => h _ ?_
    have he:∃ q,h'.get? a = some q:=let ⟨q,_,_,hq,_⟩:=dd'; ⟨q,hq⟩
    exact d_write I (by rw [e]; exact True.intro) hs he (dk_new hl hd (rel.put k rv) dd')
  · subst ey eH
    cases (show u = Value.ref b from ry)
    obtain ⟨z,hd,xs,rel,dd⟩:=dt_of I.hok e
    have hz:xs.length ≤ sizeLine:=by rw [← Paired.length rel]; exact z
    have hl:(putK kvs k v).length ≤ sizeLine:=by have:=length_putK kvs k v; lia
    refine wpAny_setItem_heap (hsz:=hz) (tupleKind_room_in1 hu) (key_of I.hok eb) dd fun h' dd' hs => h _ ?_
    obtain ⟨q,es,ep,hq,h2,h3,h4,_,h5⟩:=dd'
    refine d_write I (by rw [e]; exact True.intro) hs ⟨q,hq⟩ ⟨hl,hd,_,(rel.put k eb rv).keeps fun c ys ec => ?_,q,es,ep,hq,h2,h3,h4,h5⟩
    rw [upd_ne (ne_of ec e (fun z => nomatch z))]
    exact ec
end

section
variable {X:Cx} {pins:List (Addr × Obj)} {σ:St} {H:Hp} {s:Shared} {a:Addr} {kvs:List (Key × V)} {k:Key} {u:Value} {A:Around} {E:Value→Shared→Prop}
end


noncomputable def NoSl (i:Expr):Prop:=∀ ov iv,subscripted i false ov iv = operate [ov,iv] (getItem ov iv)
theorem subD_of {prog:Program} {w:World} {A:Around} {E:Value→Shared→Prop} {s:Shared} {env:Env} {value slice:Expr} {pos:Pos} {T id:String} {Q:Value→Shared→Prop}
    (hl:typeLookup (.type T) "__getitem__" = pure (some (.builtin id))) (hs:NoSl slice)
    (h:wpAny (model prog w) A (eval value env) (fun o s₁ => wpAny (model prog w) A (eval slice env) (fun i s₂ => s₂.TypeIs o T∧wpAny (model prog w) A (getItem o i) Q E s₂) E s₁) E s) :
    wpAny (model prog w) A (eval (.Subscript value slice pos) env) Q E s:=by
  refine Subscript_ (wpAny_mono h (fun o s₁ h₁ => wpAny_mono h₁ (fun i s₂ h₂ => ?_) fun _ _ x => x) fun _ _ x => x)
  obtain ⟨hT,h₂⟩:=h₂
  unfold subscriptTail
  refine wpAny_bind ?_
  rw [getitemInPython_of_ne hT.not_modules]
  refine wpAny_bind (wpAny_specialOf hT hl ?_)
  have fin:wpAny (model prog w) A (subscripted slice false o i) (fun r s₃ => wpAny (model prog w) A (letTemporaryGo value o r >>= fun _ => pure r) Q E s₃) E s₂:=by
    rw [hs o i]
    exact wpAny_operating (wpAny_mono h₂ (fun r s₃ h₃ => wpAny_bind (wpAny_letTemporaryGo (wpAny_pure h₃))) fun _ _ x => x)
  first
    | exact wpAny_pure (wpAny_bind fin)
    | exact wpAny_bind (wpAny_pure (wpAny_bind fin))
    | exact wpAny_bind fin

theorem dict_typeIs {X:Cx} {pins:List (Addr × Obj)} {σ:St} {H:Hp} {s:Shared} {a:Addr} {y:V} {o:Option V} (I:Inv X pins σ H s) (g:DGet H a y o):s.TypeIs (.ref a) "dict":=by
  rcases g with ⟨kvs,k,e,_,_⟩ | ⟨kvs,k,b,e,_,_,_⟩
  · obtain ⟨_,_,vs,_,dd⟩:=dk_rd I.hok e
    exact dd.typeIs
  · obtain ⟨_,_,xs,_,dd⟩:=dt_rd I.hok e
    exact dd.typeIs
noncomputable def tDGet (td ty:TE):TE:=fun σ H Q => td σ H fun x H1 => ty σ H1 fun y H2 => ∃ a v,x = .ref a∧DGet H2 a y (some v)∧Q v H2
noncomputable def sDPut (td ty tv:TE):TS:=fun D σ H => tv σ H fun v H1 => td σ H1 fun x H2 => ty σ H2 fun y H3 => ∃ a H4,x = .ref a∧DPut H3 a y v H4∧D.nx σ H4
section
variable {X:Cx} {o i e value:Expr} {pos pos' tpos:Pos} {td ty tv:TE}
theorem pe_dget (hu:X.A.units + 1 < cLine) (ho:PE X o td) (hi:PE X i ty) (hs:NoSl i):PE X (.Subscript o i pos) (tDGet td ty):=by
  intro pins s σ H Q I h
  refine subD_of PySem.F.slot_dict_getitem.lookup hs (thn (ho pins s σ H _ I h) fun u s1 ⟨x,H1,I1,rx,q1⟩ => thn (hi pins s1 σ H1 _ I1 q1) fun iv s2 x__54 => ?_)
  obtain ⟨y,H2,I2,ry,a,v,ex,g,q2⟩:=x__54
  subst ex
  obtain rfl:u = Value.ref a:=rx
  exact ⟨dict_typeIs I2 g,d_getItem hu I2 g ry fun w' s3 I3 rw' => ⟨v,H2,I3,rw',q2⟩⟩
theorem ps_dput (hu:X.A.units + 1 < cLine) (ho:PE X o td) (hi:PE X i ty) (hv:PE X value tv) (hs:swapsWith value (some (.Subscript o i pos')) pos.line X.env = pure false) :
    PS X (.Assign [.Subscript o i pos'] value pos) (sDPut td ty tv):=by
  intro pins s σ H D I h
  refine wpAny_Assign_Subscript (thn (hv pins s σ H _ I h) fun r s1 ⟨v,H1,I1,rv,q1⟩ => thn (ho pins s1 σ H1 _ I1 q1) fun u s2 ⟨x,H2,I2,rx,q2⟩ => thn (hi pins s2 σ H2 _ I2 q2) fun iv s3 x__57 => ?_) hs
  obtain ⟨y,H3,I3,ry,a,H4,ex,g,q3⟩:=x__57
  subst ex
  obtain rfl:u = Value.ref a:=rx
  exact d_setItem hu I3 g ry rv fun s4 I4 => ⟨σ,H4,I4,q3⟩
end


theorem dk_empty {P:Program} {w:World} {H:Hp} (h:Heap) (hb:sysModules < h.objs.size):ObjOk P w H (h.push { cls:=.type "dict",data:=.dict #[] }) h.objs.size (.dK []) :=
  ⟨Nat.zero_le _,beq_eq_false_iff_ne.mpr (Ne.symm (Nat.ne_of_lt hb)),[],.nil,Heap.DictOf.new h⟩
section
variable {X:Cx} {pos:Pos}
end

noncomputable def tPairs:List (TE × TE)→St→Hp→(List (V × V)→Hp→Prop)→Prop
  | [],_,H,Q => Q [] H
  | (tk,tv) :: r,σ,H,Q => tk σ H fun x H1 => tv σ H1 fun y H2 => tPairs r σ H2 fun ps H3 => Q ((x,y) :: ps) H3
noncomputable abbrev VV:List (V × V)→List (Value × Value)→Prop:=Paired fun p q => RelV p.1 q.1∧RelV p.2 q.2
noncomputable def PPs (X:Cx) (pos:Pos) (keys:List (Option Expr)) (values:List Expr) (trs:List (TE × TE)):Prop :=
  ∀ (pins:List (Addr × Obj)) (s:Shared) (σ:St) (H:Hp) (Q:List (V × V)→Hp→Prop),Inv X pins σ H s→tPairs trs σ H Q →
    wpAny (model X.prog X.w) X.A (evalPairs (pairTrees keys values X.env pos)) (fun vs s' => ∃ ps H',Inv X pins σ H' s'∧VV ps vs∧Q ps H') X.xe s
theorem pps_nil {X:Cx} {pos:Pos}:PPs X pos [] [] []:=fun pins s σ H Q I h => pairTrees_nil_walk ⟨[],H,I,.nil,h⟩
theorem pps_cons {X:Cx} {pos:Pos} {k v:Expr} {ks:List (Option Expr)} {vs:List Expr} {tk tv:TE} {trs:List (TE × TE)} (hk:PE X k tk) (hv:PE X v tv) (hr:PPs X pos ks vs trs) :
    PPs X pos (some k :: ks) (v :: vs) ((tk,tv) :: trs):=fun pins s σ H Q I h =>
  pairTrees_cons_walk (thn (hk pins s σ H _ I h) fun u s1 ⟨x,H1,I1,rx,q1⟩ => thn (hv pins s1 σ H1 _ I1 q1) fun w2 s2 ⟨y,H2,I2,ry,q2⟩ =>
    thn (hr pins s2 σ H2 _ I2 q2) fun ws s3 x__60 => (by obtain ⟨ps,H3,I3,rel,q3⟩:=x__60; exact ⟨(x,y) :: ps,H3,I3,.cons ⟨rx,ry⟩ rel,q3⟩))

noncomputable def mergeK (kvs more:List (Key × V)):List (Key × V):=more.foldl (fun acc kv => putK acc kv.1 kv.2) kvs
theorem KV.merge:∀ {more:List (Key × V)} {rs:List (Key × Value)} {kvs:List (Key × V)} {vs:List (Key × Value)},KV more rs→KV kvs vs→KV (mergeK kvs more) (merged vs rs):=by
  intro more rs kvs vs r
  unfold KV at r
  induction r generalizing kvs vs with
  | nil => intro q; exact q
  | @cons p q ps qs h t ih =>
    intro r0
    have e:KV (putK kvs p.1 p.2) (stored vs q.1 q.2):=by
      have:=r0.put p.1 h.2
      rw [← h.1]; exact this
    exact ih e
theorem length_mergeK:∀ (more kvs:List (Key × V)),(mergeK kvs more).length ≤ kvs.length + more.length
  | [],kvs => by show kvs.length ≤ kvs.length + 0; lia
  | p :: r,kvs => by
    have h1:=length_mergeK r (putK kvs p.1 p.2)
    have h2:=length_putK kvs p.1 p.2
    show (mergeK (putK kvs p.1 p.2) r).length ≤ _
    rw [List.length_cons]; lia
theorem carries_of {P:Program} {w:World}:∀ {kvs:List (Key × V)} {ws:List (Value × Value)},VV (kvs.map fun kv => (kV kv.1,kv.2)) ws→∃ rs,Carries (mixKind P w) ws rs∧KV kvs rs
  | [],_,r => by rw [List.map_nil] at r; cases r; exact ⟨[],True.intro,.nil⟩
  | p :: kvs,_,r => by
    rw [List.map_cons] at r
    cases r with
    | @cons a b as bs h t =>
      obtain ⟨rs,c,q⟩:=carries_of (P:=P) (w:=w) t
      obtain ⟨b1,b2⟩:=b
      exact ⟨(p.1,b2) :: rs,⟨kV_is h.1,rfl,c⟩,.cons ⟨rfl,h.2⟩ q⟩
noncomputable def tDisp (trs:List (TE × TE)):TE:=fun σ H Q => ∀ p,H p = none→tPairs trs σ (upd H p (.dK [])) fun ps H2 => H2 p = some (.dK [])∧∃ kvs:List (Key × V),ps = kvs.map (fun kv => (kV kv.1,kv.2))∧kvs.length ≤ 15∧Q (.ref p) (upd H2 p (.dK (mergeK [] kvs)))
theorem pe_disp {X:Cx} {pos:Pos} {keys:List (Option Expr)} {values:List Expr} {trs:List (TE × TE)} (h:PPs X pos keys values trs) (hall:keys.all (·.isSome) = true) (hl:keys.length = values.length) (h0:keys ≠ [])
    (h15:keys.length ≤ 15):PE X (.Dict keys values pos) (tDisp trs):=by
  intro pins s σ H Q I q
  have hn:=I.hok.fresh (Nat.le_refl s.heap.objs.size)
  have I1:=I.laid (a:=s.heap.objs.size) (o:=.dK []) (h':=s.heap.push { cls:=.type "dict",data:=.dict #[] }) (t':=s.toks) (fun _ _ q => Heap.get?_push_of_some _ q) (Nat.le_refl _) (dk_empty s.heap I.big)
  refine wpAny_Dict_walk (knd:=mixKind X.prog X.w) hall hl h0 h15 (thn (h pins _ σ _ _ I1 (q _ hn)) fun ws s2 x__61 => ?_)
  obtain ⟨ps,H2,I2,rel,e,kvs,ep,lk,q2⟩:=x__61
  subst ep
  obtain ⟨rs,c,rk⟩:=carries_of (P:=X.prog) (w:=X.w) rel
  obtain ⟨z,hd,vs0,r0,dd⟩:=dk_of I2.hok e
  cases r0
  refine ⟨rs,c,dd,fun h' dd' hs => ⟨.ref s.heap.objs.size,_,?_,rfl,q2⟩⟩
  have hz:(mergeK [] kvs).length ≤ sizeLine:=by
    have h1:=length_mergeK kvs []
    rw [List.length_nil] at h1
    rw [sizeLine_eq]; lia
  have he:∃ q,h'.get? s.heap.objs.size = some q:=let ⟨q,_,_,hq,_⟩:=dd'; ⟨q,hq⟩
  exact d_write I2 (by rw [e]; exact True.intro) hs he (dk_new hz hd (rk.merge .nil) dd')


structure M1 (X:Cx) (o:Expr) (m:Str) (apos:Pos) (e:Expr) (cpos:Pos):Prop where
  base:attributeBase o m X.env (eval o X.env) = eval o X.env
  few:((backTo cpos (starEach [e] X.env)).all (fun x => !x.1) && (backToKw cpos (keywordEach [] X.env)).all (fun x => x.1.isSome)
    && decide (([e]:List Expr).length + ([]:List Keyword).length + (if ([]:List Keyword).isEmpty then 0 else 1) < 30)) = true
  line:(apos.endLine == cpos.line) = true
  trees:backTo cpos (starEach [e] X.env) = [(false,eval e X.env)]
structure M2 (X:Cx) (o:Expr) (m:Str) (apos:Pos) (e f:Expr) (cpos:Pos):Prop where
  base:attributeBase o m X.env (eval o X.env) = eval o X.env
  few:((backTo cpos (starEach [e,f] X.env)).all (fun x => !x.1) && (backToKw cpos (keywordEach [] X.env)).all (fun x => x.1.isSome)
    && decide (([e,f]:List Expr).length + ([]:List Keyword).length + (if ([]:List Keyword).isEmpty then 0 else 1) < 30)) = true
  line:(apos.endLine == cpos.line) = true
  trees:backTo cpos (starEach [e,f] X.env) = [(false,eval e X.env),(false,eval f X.env)]

section
variable {X:Cx} {pins:List (Addr × Obj)} {σ:St} {H:Hp} {s:Shared} {a:Addr} {y d:V} {u r:Value} {o:Option V} {A:Around} {E:Value→Shared→Prop}
end

section
variable {X:Cx} {o e f:Expr} {apos cpos:Pos} {td ty tx:TE}
end

section
variable {X:Cx} {pins:List (Addr × Obj)} {σ:St} {H:Hp} {s:Shared} {a:Addr} {kvs:List (Key × V)} {A:Around} {E:Value→Shared→Prop}
end


section
variable {X:Cx} {pins:List (Addr × Obj)} {σ:St} {H:Hp} {s:Shared} {a:Addr} {y:V} {u:Value} {A:Around} {E:Value→Shared→Prop}
end
end L2

namespace Att
open PySem PySem.W PySem.Calls PyProof.Rows

theorem ints_of_wellAll {P:Params} {h:Heap}:∀ (ns:List Int) (vs:List Value),WellAll P h vs (ns.map WData.int)→IntsAre vs ns:=by
  intro ns
  induction ns with
  | nil =>
    intro vs w
    rw [List.map_nil] at w
    cases w
    exact .nil
  | cons n ns ih =>
    intro vs w
    rw [List.map_cons] at w
    cases w with
    | cons a b =>
      cases a
      exact .cons _ _ (ih _ b)

theorem script_of {l:OpenLaw} {n:Nat} (hn:l.most = some n) {P:Params} {h:Heap} {args:List WData} {vals:List Value}
    (hpre:l.row.toRowW.claim.pre args = true) (hwl:WellAll P h vals args) :
    ∃ a vs ns,vals = [Value.ref a]∧args = [WData.list (ns.map WData.int)]∧h.get? a = some { cls:=.type "list",data:=.seq vs.toArray }∧IntsAre vs ns∧ns.length ≤ n:=by
  have hsh:WShape.hasAll [] args [.list .int] = true:=(pre_splitW hpre).1
  have hc:l.pre.holds [] { args:=args } = true:=(pre_splitW hpre).2
  obtain ⟨d,r,rfl,h1,h2⟩:=hasAllW_cons hsh
  obtain rfl:=hasAllW_nil h2
  obtain ⟨xs,rfl,h3⟩:=hasW_list h1
  obtain ⟨ns,rfl⟩:=items_int h3
  have hlen:ns.length ≤ n:=by
    unfold OpenLaw.pre at hc
    have h4:(WTm.not (.lt (.lit (.int (n:Int))) (.len (.arg 0)))).holds [] { args:=[.list (ns.map .int)] } = true:=by
      have h4:=(holds_andW hc).1
      rw [hn] at h4
      exact h4
    have h5:=condW_of h4 (w_not (w_lt w_lit (w_len_list (w_arg rfl))))
    rw [List.length_map] at h5
    refine Nat.le_of_not_lt fun q => ?_
    have q':(n:Int) < ((ns.length:Nat):Int):=by omega
    first
      | (rw [decide_eq_true q'] at h5; exact absurd h5 (by decide))
      | (simp at h5; lia)
  cases hwl with
  | cons w1 w2 =>
    cases w2
    cases w1 with
    | list ho hall => exact ⟨_,_,ns,rfl,rfl,ho,ints_of_wellAll ns _ hall,hlen⟩

theorem post_true (l:OpenLaw) (args:List WData):l.row.toRowW.claim.post args (.bool true) args = true :=
  postW_of (r:=l.row.toRowW) (X:=(true == true))
    (show WShape.has [] (.bool true) .bool = true by first | rfl | decide | simp [WShape.has,WShape.arms,WShape.armsAll])
    (show (WTm.eq .res (.lit (.bool true))).value [] { args:=args,res:=some (.bool true),after:=args } = some (.bool (true == true)) from w_eq_bool (w_res rfl) w_lit) rfl

theorem attach_call {l:OpenLaw} {n:Nat} {q:Program} {loose:List Str} {XP:(Str→Option Value)→Heap→Prop} {YP:World→Heap→Prop} {d:DefRec}
    (hn:l.most = some n) (hdf:d.params.defaults = [])
    (call:∀ (w:World) (s₀ s₁:Shared) (mg mb:Str→Option Value) (fa:Addr) (o:Obj) (pm cd doc:Value) (a:Addr) (vs:List Value) (ns:List Int),
      Ground q loose [] XP w s₀ mg mb s₁.heap→YP w s₁.heap →
      s₁.heap.get? fa = some o→o.data = .func (docDef d.name d.params d.body d.scope pm cd doc)→s₁.heap.CodeRec cd d.name→mg d.name = some (.ref fa) →
      s₁.heap.get? a = some { cls:=.type "list",data:=.seq vs.toArray }→IntsAre vs ns→ns.length ≤ n→s₁.gens = #[] →
      codeAny (model l.prog w) callerA (.call (.ref fa) ⟨[.ref a],[]⟩) (fun r s' => r = .ok (.ret (.bool true))∧OldK s₁.heap s'.heap∧s'.os = s₁.os∧AllBare s'.gens) s₁) :
    WalkO q loose XP YP l.row.toRowW d [] (fun f vs => PySem.call f vs):=by
  intro w s₀ s₁ mg mb G Y fa o pm cd doc dV kV ho hd hcd hD hmg hg args vals as hpre hlay hrd hwl hlo
  obtain rfl:dV = .none:=Dflts.none hD hdf
  obtain rfl:kV = .none:=Dflts.noKw hD
  obtain ⟨a,vs,ns,rfl,rfl,hobj,hints,hlen⟩:=script_of hn hpre hwl
  refine enter_call (codeAny_mono (call w s₀ s₁ mg mb fa o pm cd doc a vs ns G Y ho (fd_plain hd) hcd hmg hobj hints hlen hg) fun r s' hq => ?_)
  obtain ⟨rfl,h2,h3,h4⟩:=hq
  exact ⟨.inl ⟨.bool true,.bool true,[],rfl,fun _ => rfl,.bool true,post_true l _,fun _ => ⟨List.Pairwise.nil,fun _ hm => (nomatch hm)⟩⟩,h2,h3,h4⟩

section
variable {prog:Program} {w:World} {A:Around} {E:Value→Shared→Prop} {s:Shared} {K:Frag}

noncomputable def ledger (h:Heap) (L d:Addr):List (Addr × Obj):=(List.range h.objs.size).filterMap fun a => if a = L ∨ a = d then none else (h.get? a).map fun o => (a,o)
end
end Att

namespace L2
open PySem PySem.Spec PyProof.Rows

theorem vals_ints {vs:List Value} {ns:List Int} (h:IntsAre vs ns):Vals (ns.map V.int) vs:=by
  induction h with
  | nil => exact .nil
  | cons n t h ih => exact .cons ⟨t,rfl⟩ ih

noncomputable def Only (H:Hp):Prop:=∀ b,H b = none ∨ ∃ o xs,H b = some (.frz o (.lst xs))

theorem law_call {P:Program} {w:World} {K:PySem.W.Frag} {mg mb:Str→Option Value} {CX:CXT} {k:Nat} {fa a:Addr} {fd:FuncData} {x:Str} {sp:Sp} {s₁:Shared} {vs:List Value} {ns:List Int}
    (KX:K.In s₁.heap) (hns:s₁.heap.Ns mainGlobals mg) (hb:s₁.heap.Ns builtinsNs mb) (hbb:∀ x:Str,x ≠ "__name__"→mb x = bootBuiltins x) (hlim:s₁.heap.NoLimit) (hg:s₁.gens = #[])
    (ha:s₁.heap.get? a = some { cls:=.type "list",data:=.seq vs.toArray }) (hi:IntsAre vs ns) (hl:ns.length ≤ sizeLine) (hr:Room k callerA)
    (F:∀ base:Heap,K.In base→base.Ns mainGlobals mg→FnOk P w K mg base CX k fa fd [x] sp) (hbind:∀ (s:Shared) (u:Value),BindsTo s fd ⟨[u],[]⟩ [(x,u)])
    (hsp:∀ H:Hp,Only H→SqL K H a (ns.map V.int)→sp [.ref a] H (fun v _ => v = .bl true) fun _ _ _ => False)
    (hCX:∀ H e s',CX [] H s₁ (fun _ _ _ => False) e s'→False) :
    codeAny (model P w) callerA (.call (.ref fa) ⟨[.ref a],[]⟩) (fun r s' => r = .ok (.ret (.bool true))∧OldK s₁.heap s'.heap∧s'.os = s₁.os∧AllBare s'.gens) s₁:=by
  have rv:=vals_ints hi
  have lenV:=hi.length
  -- from an abstract heap in which nothing but the script may be tracked
  have core:∀ H:Hp,Only H→SqL K H a (ns.map V.int)→HOk P w H s₁.heap→(∀ b,H b ≠ none→b = a)→(H a ≠ none→K.lookup a = none) →
      codeAny (model P w) callerA (.call (.ref fa) ⟨[.ref a],[]⟩) (fun r s' => r = .ok (.ret (.bool true))∧OldK s₁.heap s'.heap∧s'.os = s₁.os∧AllBare s'.gens) s₁:=by
    intro H hO hS hok hA hK
    have base_of:∀ {b:Addr} {o:Obj},s₁.heap.get? b = some o→H b = none→(hidT s₁.heap H).get? b = some o:=fun e n => hidT_get e n
    have noA:∀ {b:Addr} {o:Obj} {es:Array DictEntry} {ep:Nat},s₁.heap.get? b = some o→o.data = .dict es ep→H b = none:=fun {b o es ep} e d => by
      cases q:H b with
      | none => rfl
      | some u =>
        have e':b = a:=hA b (by rw [q]; simp)
        subst e'
        rw [ha] at e; cases e
        have d':Data.seq vs.toArray _ = Data.dict es ep:=d
        cases d'
    have nsK:∀ {b:Addr} {m:Str→Option Value},s₁.heap.Ns b m→(hidT s₁.heap H).Ns b m:=fun {b m} x__62 => (by obtain ⟨o,es,ep,e,d,r⟩:=x__62; exact ⟨o,es,ep,base_of e (noA e d),d,r⟩)
    have hKb:K.In (hidT s₁.heap H):=fun b o e => base_of (KX b o e) (by
      cases q:H b with
      | none => rfl
      | some u =>
        have e':b = a:=hA b (by rw [q]; simp)
        subst e'
        rw [hK (by rw [q]; simp)] at e; cases e)
    have hM:Mod K mg (hidT s₁.heap H):=⟨hKb,nsK hns,⟨mb,nsK hb,hbb⟩,let ⟨mc,h1,h2⟩:=hlim; ⟨mc,nsK h1,h2⟩⟩
    have e0:Env0 P w K mg (hidT s₁.heap H) callerA [] s₁ H:=⟨rfl,hM,fun b o e => of_hidT e,Nat.le_of_eq (hidT_size _ _),trivial,fun b hb => absurd (show b ∈ ([]:List Addr) from hb) (by simp),hok,.of_eq hg⟩
    refine codeAny_mono ((F _ hKb (nsK hns)).run callerA [] s₁ H ⟨[.ref a],[]⟩ [.ref a] [.ref a] _ _ hr e0 (hbind s₁ (.ref a)) (.cons rfl .nil) (hsp H hO hS)) fun r s' h => ?_
    cases r with
    | error e => exact (hCX H e s' h).elim
    | ok fl =>
      cases fl with
      | next => exact False.elim h
      | brk => exact False.elim h
      | cont => exact False.elim h
      | ret u =>
        obtain ⟨v,H',os,bare,un,hok',r',q⟩:=h
        have q':v = .bl true:=q
        subst q'
        obtain rfl:u = Value.bool true:=r'
        refine ⟨rfl,OldK.of_keep fun b o e => ?_,os,bare⟩
        cases q:H b with
        | none => exact un.keep b o e q (by intro z; exact absurd (show b ∈ ([]:List Addr) from z) (by simp)) (by simp)
        | some u =>
          rcases hO b with z | ⟨ob,xs,z⟩
          · rw [q] at z; cases z
          · have z2:=un.frzs b ob _ z
            obtain ⟨e1,_⟩:=hok b _ z
            obtain ⟨e2,_⟩:=hok' b _ z2
            rw [e] at e1; cases e1
            exact e2
  cases hk:K.lookup a with
  | some o =>
    -- the script is one of the module's own objects
    have e:=KX a o hk
    rw [ha] at e
    cases e
    refine core (fun _ => none) (fun _ => .inl rfl) (.inr ⟨_,vs.toArray,_,hk,rfl,rfl,rfl,by rw [List.size_toArray,lenV]; exact hl,by simpa using rv⟩) (fun b u z => by have z':(none:Option HO) = some u:=z; cases z') (fun b z => absurd rfl z) fun z => absurd rfl z
  | none =>
    refine core (fun b => if b = a then some (.frz { cls:=.type "list",data:=.seq vs.toArray } (.lst (ns.map V.int))) else none) (fun b => ?_) (.inl (.inr ⟨{ cls:=.type "list",data:=.seq vs.toArray },if_pos rfl⟩)) (fun b u z => ?_) (fun b z => ?_) fun _ => hk
    · by_cases hb:b = a
      · exact .inr ⟨_,_,if_pos hb⟩
      · exact .inl (if_neg hb)
    · by_cases hb:b = a
      · have z':=(if_pos hb).symm.trans z
        cases z'
        subst hb
        exact ⟨ha,by rw [List.length_map]; exact hl,vs,_,rv,ha⟩
      · have z':=(if_neg hb).symm.trans z
        cases z'
    · by_cases hb:b = a
      · exact hb
      · exact absurd (if_neg hb) z
end L2

namespace L2
open PySem PySem.Spec PyProof.Rows

noncomputable abbrev KOf {K:PySem.W.Frag} {h:Heap} (_:K.In h):PySem.W.Frag:=K

theorem walk_of {l:PySem.W.OpenLaw} {n k:Nat} {q:Program} {loose:List Str} {XP:(Str→Option Value)→Heap→Prop} {YP:World→Heap→Prop} {d:DefRec} {K:Params→PySem.W.Frag} {CX:World→CXT} {sp:World→Sp} {x:Str}
    (hn:l.most = some n) (hn2:n ≤ sizeLine) (hdf:d.params.defaults = []) (hr:Room k callerA)
    (hY:∀ (w:World) (h:Heap),YP w h→(K w.params).In h)
    (F:∀ (w:World) (mg:Str→Option Value) (fa:Addr) (h:Heap),(K w.params).In h→h.Ns mainGlobals mg→mg d.name = some (.ref fa) →
      ∃ fd:FuncData,(∀ (s:Shared) (u:Value),BindsTo s fd ⟨[u],[]⟩ [(x,u)]) ∧
        ∀ base:Heap,(K w.params).In base→base.Ns mainGlobals mg→FnOk l.prog w (K w.params) mg base (CX w) k fa fd [x] (sp w))
    (hsp:∀ (w:World) (H:Hp) (a:Addr) (ns:List Int),ns.length ≤ n→Only H→SqL (K w.params) H a (ns.map V.int)→sp w [.ref a] H (fun v _ => v = .bl true) fun _ _ _ => False)
    (hCX:∀ (w:World) (H:Hp) (s:Shared) (e:Value) (s':Shared),CX w [] H s (fun _ _ _ => False) e s'→False) :
    PySem.W.WalkO q loose XP YP l.row.toRowW d [] (fun f vs => PySem.call f vs):=by
  refine Att.attach_call hn hdf fun w s₀ s₁ mg mb fa o pm cd doc a vs ns G Y ho hd hcd hmg hobj hints hlen hg => ?_
  have KX:=hY w _ Y
  obtain ⟨fd,hb,hF⟩:=F w mg fa _ KX G.T.g hmg
  exact law_call KX G.T.g G.T.b G.T.builtins G.T.nolimit hg hobj hints (Nat.le_trans hlen hn2) hr hF hb (fun H hO hS => hsp w H a ns hlen hO hS) fun H e s' => hCX w H s₁ e s'
theorem walk_ofK {l:PySem.W.OpenLaw} {n k:Nat} {q:Program} {loose:List Str} {XP:(Str→Option Value)→Heap→Prop} {YP:World→Heap→Prop} {d:DefRec} {K:Params→PySem.W.Frag} {CX:CXT} {sp:PySem.W.Frag→Sp} {x:Str}
    (hn:l.most = some n) (hn2:n ≤ sizeLine) (hdf:d.params.defaults = []) (hr:Room k callerA)
    (hY:∀ (w:World) (h:Heap),YP w h→(K w.params).In h)
    (F:∀ (w:World) (mg:Str→Option Value) (fa:Addr) (h:Heap),(K w.params).In h→h.Ns mainGlobals mg→mg d.name = some (.ref fa) →
      ∃ fd:FuncData,(∀ (s:Shared) (u:Value),BindsTo s fd ⟨[u],[]⟩ [(x,u)]) ∧
        ∀ base:Heap,(K w.params).In base→base.Ns mainGlobals mg→FnOk l.prog w (K w.params) mg base CX k fa fd [x] (sp (K w.params)))
    (hsp:∀ (K:PySem.W.Frag) (H:Hp) (a:Addr) (ns:List Int),ns.length ≤ n→Only H→SqL K H a (ns.map V.int)→sp K [.ref a] H (fun v _ => v = .bl true) fun _ _ _ => False)
    (hCX:∀ (H:Hp) (s:Shared) (e:Value) (s':Shared),CX [] H s (fun _ _ _ => False) e s'→False) :
    PySem.W.WalkO q loose XP YP l.row.toRowW d [] (fun f vs => PySem.call f vs) :=
  walk_of (K:=K) (CX:=fun _ => CX) (sp:=fun w => sp (K w.params)) hn hn2 hdf hr hY F (fun w H a ns h1 h2 h3 => hsp (K w.params) H a ns h1 h2 h3) fun _ H s e s' => hCX H s e s'
end L2

/- THE LAST THEOREM (shape; LID,My.* are yours):
   My.Adr: a structure of the addresses that your layer names (classes,functions); My.Txt K t: a structure (Prop) of the equations over K;
   My.txt_mk:{K} {implicit addresses ..} (e1:nsIn K mainGlobals "law" = some (some (.ref f))) (e2:K.lookup f = some ⟨oc,od,.func (fnOf "law" "law" params body scope dV kV doc pm an cdv ct),sl⟩) (e3:codeIn K cdv "law" = true) ..:∃ t,My.Txt K t

set_option maxRecDepth 100000 in
set_option maxHeartbeats 0 in
theorem PySem.Challenge.cw_LID_holds : PySem.Challenge.rw_LID.Holds := by
  w_on; o_law; k_head; (case hw => w_witness2)
  k_fill
  refine L2.walk_of (l:=PySem.Challenge.rw_LID) (n:=63) (k:=40) (x:="script") (CX:=fun w => ..) (sp:=fun _ => My.sp_law) rfl (by decide) rfl ⟨rfl,by decide,by decide⟩ (fun w h Y => PySem.W.kIn_of Y) ?F ?S ?C
  case F =>
    intro w mg fa h KX G hmg
    have T:∃ t,My.Txt (L2.KOf KX) t:=by
      dsimp only [L2.KOf]                          -- K must stand as «<heap const> w.params» for k_is
      refine' My.txt_mk ?e1 ?e2 ?e3 ..
      (case e1 => PySem.W.k_is)                    -- in the order: a name -> its address -> its object -> its parts
      (case e2 => PySem.W.k_is)
      ..
    obtain ⟨t,T⟩:=T
    have e0:=hmg.symm.trans (PySem.W.mg_of KX G T.law)
    cases e0                                       -- fa is the law's own address
    exact ⟨_,fun s u => .of_eq rfl,fun base kb nb => My.law_fn T kb nb⟩     -- if «.of_eq rfl» comes too early: refine' ⟨_,?b,fun base kb nb => My.law_fn T kb nb⟩; exact fun s u => .of_eq rfl
  case S => exact fun w H a ns hl hO hS => ..
  case C => exact ..
(the tactic k_is has no namespace: write k_is) -/

namespace L2
open PySem PySem.Spec PyProof.Rows

noncomputable def inClass (s:Stmt) (j:Nat):Stmt:=match s with
  | .ClassDef _ _ _ body _ _ _ _ _ _ _ => body.getD j (.Pass ⟨0,0,0,0⟩)
  | _ => .Pass ⟨0,0,0,0⟩
noncomputable def defArgs (s:Stmt):Arguments:=match s with
  | .FunctionDef _ a _ _ _ _ _ _ _ _ => a
  | _ => { posonlyargs:=[],args:=[],vararg:=none,kwonlyargs:=[],kw_defaults:=[],kwarg:=none,defaults:=[] }
noncomputable def defBody (s:Stmt):List Stmt:=match s with
  | .FunctionDef _ _ b _ _ _ _ _ _ _ => b
  | _ => []
noncomputable def defScope (s:Stmt):Scope:=match s with
  | .FunctionDef _ _ _ _ _ _ sc _ _ _ => sc
  | _ => { kind:=.function,names:=[],isGenerator:=false,isCoroutine:=false }

noncomputable abbrev CX0:CXT:=fun _ _ _ _ _ _ => False
noncomputable abbrev E0:XK:=fun _ _ _ => False
theorem pass0 {X:Cx}:Passes CX0 X E0:=fun _ _ _ _ _ _ _ h => h.elim

structure Fun (K:PySem.W.Frag) (x qual:Str) (st:Stmt) (f:Addr) (fd:FuncData):Prop where
  ex:∃ (oc:Value) (od:Option Addr) (kV doc pm:Value) (an:Option Addr) (cdv ct:Value) (osl:Array (Option Value)),
    fd = PySem.W.fnOf x qual (defArgs st) (defBody st) (defScope st) .none kV doc pm an cdv ct∧K.lookup f = some ⟨oc,od,.func fd,osl⟩∧PySem.W.codeIn K cdv qual = true
  kp:PySem.W.keepIn K (.ref f) = true
section
variable {P:Program} {w:World} {K:PySem.W.Frag} {mg:Str→Option Value} {base:Heap}
theorem Fun.ok {x qual:Str} {st:Stmt} {f:Addr} {fd:FuncData} {N ps:List Str} {k:Nat} {sp:Sp} (F:Fun K x qual st f fd) (S:FnScope N ps (defScope st)) (len:∀ vs H Q E,sp vs H Q E→vs.length = ps.length)
    (hbody:∀ (cdv:Value) (A:Around) (outer:List Env) (s:Shared) (H:Hp) (vs:List V) (Q:VK) (E:XK),Room k (A.deeper (envOfC qual (defScope st) s.heap.objs.size f cdv))→sp vs H Q E →
      ∃ t,PSs (cxOf CX0 P w K mg base N qual (defScope st) f cdv A outer s H E).nox (defBody st) t∧t { nx:=fun _ H' => Q .non H',rt:=Q } (start N vs) H):FnOk P w K mg base CX0 (k + 1) f fd ps sp:=by
  obtain ⟨oc,od,kV,doc,pm,an,cdv,ct,osl,rfl,lk,hcd⟩:=F.ex
  refine fn_of lk hcd S len fun A outer s H vs Q E hr hsp => ?_
  obtain ⟨t,h,q⟩:=hbody cdv A outer s H vs Q E hr hsp
  exact ⟨t,h.nox,q⟩
theorem Fun.binds {x qual:Str} {st:Stmt} {f:Addr} {fd:FuncData} {ps:List Str} (F:Fun K x qual st f fd)
    (h:∀ (kV doc pm:Value) (an:Option Addr) (cdv ct:Value) (us:List Value),us.length = ps.length→bindArgs (PySem.W.fnOf x qual (defArgs st) (defBody st) (defScope st) .none kV doc pm an cdv ct) ⟨us,[]⟩ = pure (ps.zip us)):Binds K fd ps []:=by
  obtain ⟨oc,od,kV,doc,pm,an,cdv,ct,osl,rfl,lk,hcd⟩:=F.ex
  exact .all (h kV doc pm an cdv ct)
theorem fun_mk {x qual:Str} {st:Stmt} {f:Addr} {oc:Value} {od an:Option Addr} {osl:Array (Option Value)} {kV doc pm cdv ct:Value} (l:K.lookup f = some ⟨oc,od,.func (PySem.W.fnOf x qual (defArgs st) (defBody st) (defScope st) .none kV doc pm an cdv ct),osl⟩)
    (c:PySem.W.codeIn K cdv qual = true) (k:PySem.W.keepIn K (.ref f) = true):Fun K x qual st f (PySem.W.fnOf x qual (defArgs st) (defBody st) (defScope st) .none kV doc pm an cdv ct):=⟨⟨oc,od,kV,doc,pm,an,cdv,ct,osl,rfl,l,c⟩,k⟩
end
theorem hu_of {A:Around} {k:Nat} (hr:Room k A):A.units + 1 < cLine:=Nat.lt_of_le_of_lt (Nat.add_le_add_left (by decide:1 ≤ 64) _) hr.units
theorem small1000 {n:Nat} (h:n ≤ 1000):n < sizeLine:=Nat.lt_of_le_of_lt h (by decide)

section
variable {X:Cx}
theorem pv (i:Nat) {x:Str} {pos:Pos} (hN:X.N[i]? = some x:=by rfl) (hv:Vis X.env.scope x:=by first | exact Or.inl rfl | exact Or.inr (Or.inl rfl) | exact Or.inr (Or.inr rfl)) (hd:(x == ("__debug__":Str)) = false:=by decide)
    (hcd:(x == ("__classdict__":Str)) = false:=by decide):PE X (.Name x pos) (tVar i):=pe_var hN hv hd hcd
end

theorem iteF {A B:Prop} (h:B):if false = true then A else B:=by
  rw [if_neg Bool.false_ne_true]
  exact h
theorem iteT {A B:Prop} (h:A):if true = true then A else B:=by
  rw [if_pos rfl]
  exact h
theorem ite2 {c A B:Prop} [Decidable c] (h1:c→A) (h2:¬ c→B):if c then A else B:=by
  by_cases h:c
  · rw [if_pos h]
    exact h1 h
  · rw [if_neg h]
    exact h2 h
end L2
namespace L2
open PySem PySem.Spec PyProof.Rows
section
variable {X:Cx}
end
section
variable {κ:Type} [DecidableEq κ]
end
end L2

namespace L2
open PySem PySem.Spec PyProof.Rows

noncomputable def compCx (X:Cx) (scope:Scope) (cl:List (Str × Addr)) (N:List Str) (C:Addr) (s:Shared) (H:Hp) (ex:List Addr):Cx where
  prog:=X.prog
  w:=X.w
  K:=X.K
  mg:=X.mg
  base:=X.base
  A:=X.A
  N:=N
  s₀:=s
  H₀:=H
  env:=compEnvC scope cl C X.env
  outer:=X.stack
  stack:=X.stack
  ex:=ex
  fn:=fun _ => false
  calm:=X.calm
  pn:=[]
  xe:=fun _ _ => False

noncomputable def compSt (k:Nat) (fr:List Nat) (σ:St):St:=List.replicate k none ++ fr.map fun j => (σ[j]?).getD none

structure CompOk (X:Cx) (scope:Scope) (cl:List (Str × Addr)) (N:List Str) (k:Nat) (fr:List Nat):Prop where
  kind:scope.kind = .function
  nocell:∀ y ∈ scope.names,y.2 ≠ .cell
  names:∀ y ∈ scope.names,y.2 = .local→scope.names.lookup y.1 = some .local
  clos:closureFor scope X.env = pure cl
  sub:∀ x c,cl.lookup x = some c→X.env.cells.lookup x = some c
  has:∀ x,((relabel scope X.env).names.lookup x = some .cell ∨ (relabel scope X.env).names.lookup x = some .free)→∃ c,cl.lookup x = some c
  len:N.length = k + fr.length
  free:∀ (t j:Nat) (x:Str),fr[t]? = some j→N[k + t]? = some x→X.N[j]? = some x∧Vis X.env.scope x∧(∃ c,cl.lookup x = some c)∧((relabel scope X.env).names.lookup x = some .cell ∨ (relabel scope X.env).names.lookup x = some .free)∧¬ X.env.scope.names.lookup x = some .local

noncomputable def PIfs (Y:Cx) (ifs:List Expr) (t:TT):Prop :=
  ∀ (pins:List (Addr × Obj)) (s:Shared) (σ:St) (H:Hp) (Q:Bool→Hp→Prop),Inv Y pins σ H s→t σ H Q →
    wpAny (model Y.prog Y.w) Y.A (forIn ifs true fun c r => if r = true then do let ok ← isTrue c Y.env (eval c Y.env); pure (ForInStep.yield ok) else pure (ForInStep.yield r)) (TP Y pins σ Q) Y.xe s
noncomputable def tTrue:TT:=fun _ H Q => Q true H
theorem pifs_nil {Y:Cx}:PIfs Y [] tTrue:=fun _ _ _ H _ I h => wpAny_tests_nil ⟨H,I,h⟩
noncomputable def Fwd (σ σ':St):Prop:=σ'.length = σ.length∧∀ (i:Nat) (v:V),σ[i]? = some (some v)→σ'[i]? = some (some v)
noncomputable def CompW (J:It) (g:TG) (tt:TT) (te:TE) (σc:St) (H1:Hp) (F:List V→Hp→Prop):Prop :=
  ∃ W:Nat→Nat→List V→Hp→Prop,(∃ m,W 0 m [] H1)∧∀ i m ys H,W i m ys H →
    (J.stop i H∧F ys H) ∨
    (J.go i H∧ys.length < sizeLine∧∀ x H',J.yld i H x H'→g x σc H' fun σ2 H2 => Fwd σc σ2∧tt σ2 H2 fun b H3 =>
      if b = true then te σ2 H3 fun y H4 => ∃ m',m' < m∧W (i + 1) m' (ys ++ [y]) H4 else ∃ m',m' < m∧W (i + 1) m' ys H3)
noncomputable def tComp (k:Nat) (fr:List Nat) (wi:TI) (g:TG) (tt:TT) (te:TE):TE:=fun σ H Q => wi σ H fun J H1 => CompW J g tt te (compSt k fr σ) H1 fun ys H2 => ys.length ≤ sizeLine∧∀ p,H2 p = none→Q (.ref p) (upd H2 p (.lst ys))
noncomputable def sComp (i:Nat) (k:Nat) (fr:List Nat) (wi:TI) (g:TG) (tt:TT) (te:TE):TS:=fun D σ H => wi σ H fun J H1 => CompW J g tt te (compSt k fr σ) H1 fun ys H2 => ys.length ≤ sizeLine∧∀ p,H2 p = none→D.nx (σ.set i (some (.ref p))) (upd H2 p (.lst ys))

section
variable {X:Cx} {pins:List (Addr × Obj)} {σ:St} {H:Hp} {s:Shared}

theorem Inv.track {D:Addr} {o:HO} {t':Nat} (I:Inv X pins σ H s) (hn:H D = none) (hL:D ≠ X.env.locals) (h1:X.s₀.heap.objs.size ≤ D) (h2:∀ x c,X.env.cells.lookup x = some c→c ≠ D) (h3:∀ p ∈ X.pn ++ pins,p.1 ≠ D)
    (new:ObjOk X.prog X.w (upd H D o) s.heap D o):Inv X pins σ (upd H D o) { s with toks:=t' }:=by
  have ne:∀ b u,H b = some u→b ≠ D:=fun b u e => ne_of_none e hn
  refine I.step (h':=s.heap) (g':=s.gens) (d':=s.drawn) (ch:=[D]) (fun b hb => ?_) (fun b o _ _ _ e _ => e) (fun b o _ _ _ e _ => ⟨o.slots,e⟩) (fun b o hc _ n => ?_) (fun b o _ e => ⟨o,e⟩)
    (fun b xs e => by rw [upd_ne (ne b _ e)]; exact e) (fun b o u e => by rw [upd_ne (ne b _ e)]; exact e) (fun b ps e => ⟨#[],by rw [upd_ne (ne b _ e),e]; simp⟩) (fun m hm => hm) (fun b u e => ?_) I.bare
  · have e:b = D:=by simpa using hb
    subst e
    exact ⟨.inr h1,hL,h2,h3⟩
  · rw [upd_ne (by simpa using hc)]; exact n
  · by_cases hb:b = D
    · subst hb; rw [upd_same] at e; cases e; exact new
    · rw [upd_ne hb] at e
      exact (I.hok b u e).stay (fun c v _ q => q) (fun c q => by rw [upd_ne (ne c _ q)]; exact q) fun c xs q => by rw [upd_ne (ne c _ q)]; exact q

theorem compSt_len (k:Nat) (fr:List Nat) (σ:St):(compSt k fr σ).length = k + fr.length:=by simp [compSt]
theorem compSt_own {k i:Nat} {fr:List Nat} {σ:St} (h:i < k):(compSt k fr σ)[i]? = some none:=by
  unfold compSt
  rw [List.getElem?_append_left (by simpa using h),List.getElem?_replicate,if_pos h]
theorem compSt_free {k i:Nat} {fr:List Nat} {σ:St} {v:V} (h:(compSt k fr σ)[i]? = some (some v)):∃ t j,i = k + t∧fr[t]? = some j∧σ[j]? = some (some v):=by
  by_cases hi:i < k
  · rw [compSt_own hi] at h; cases h
  · refine ⟨i - k,?_⟩
    unfold compSt at h
    rw [List.getElem?_append_right (by simpa using Nat.not_lt.mp hi),List.length_replicate,List.getElem?_map] at h
    cases e:fr[i - k]? with
    | none => rw [e] at h; cases h
    | some j =>
      rw [e] at h
      refine ⟨j,by lia,rfl,?_⟩
      cases e2:σ[j]? with
      | none => rw [show (some j).map (fun j => (σ[j]?).getD none) = some ((σ[j]?).getD none) from rfl,e2] at h; cases h
      | some u =>
        rw [show (some j).map (fun j => (σ[j]?).getD none) = some ((σ[j]?).getD none) from rfl,e2] at h
        exact h

noncomputable def CompRR (X:Cx) (pins:List (Addr × Obj)) (σ:St) (F:List V→Hp→Prop) (RR:Value→Addr→Result→Shared→Prop):Prop:=∀ D C ys (its:List Value) n H' m s',Inv X pins σ H' s'→H' D = none→X.s₀.heap.objs.size ≤ D→D ≠ X.env.locals→(∀ x c,X.env.cells.lookup x = some c→c ≠ D)→(∀ p ∈ X.pn ++ pins,p.1 ≠ D) →
      s'.heap.get? D = some { cls:=.type "list",data:=.seq its.toArray n }→Vals ys its→s'.heap.Ns C m→H' C = none→X.s₀.heap.objs.size ≤ C→C ≠ X.env.locals→(∀ x c,X.env.cells.lookup x = some c→c ≠ C)→(∀ p ∈ X.pn ++ pins,p.1 ≠ C)→C ≠ D →
      F ys H'→RR (.ref D) C (.ok .next) s'
inductive CompI (Y:Cx) (τ:St) (tn:Nat→Heap→Prop) (fp:List Addr) (D:Addr) (W:Nat→Nat→List V→Hp→Prop) (n:Nat) (s':Shared):Prop
  | mk (i:Nat) (ys:List V) (its:List Value) (nn:Nat) (H':Hp) (h0:Inv Y [] τ H' s') (h1:tn i s'.heap) (h2:∀ b ∈ fp,H' b = none) (h3:H' D = none) (h4:s'.heap.get? D = some { cls:=.type "list",data:=.seq its.toArray nn }) (h5:Vals ys its) (h6:W i n ys H')
theorem comp_core1 {tg iter elt:Expr} {ifs:List Expr} {scope:Scope} {cl:List (Str × Addr)} {N:List Str} {k:Nat} {fr:List Nat} {pos:Pos} {g:TG} {tt:TT} {te:TE}
    {F:List V→Hp→Prop} {RR:Value→Addr→Result→Shared→Prop} {it D C:Addr} {fp:List Addr} {tn:Nat→Heap→Prop} {J:It} {H1:Hp} {h3 h₁:Heap}
    (ok:CompOk X scope cl N k fr) (hc:X.calm = true)
    (hg:∀ C s H ex,PG (compCx X scope cl N C s H ex) tg g) (ht:∀ C s H ex,PIfs (compCx X scope cl N C s H ex) ifs tt) (he:∀ C s H ex,PE (compCx X scope cl N C s H ex) elt te)
    (hRR:CompRR X pins σ F RR) (I:Inv X pins σ H1 s) (T:Turn X.prog X.w X.K tg J fp it tn) (st0:tn 0 s.heap) (hf:∀ b ∈ fp,FpOk X pins H1 b) (hw:CompW J g tt te (compSt k fr σ) H1 F)
    (hD:s.heap.objs.size = D) (hp3:s.heap.push { cls:=.type "list",dict:=none,data:=.seq ([]:List Value).toArray } = h3) (hC:h3.objs.size = C)
    (hns₁:h₁.Ns C fun x => List.lookup x ([]:List (Str × Value)).reverse) (hsb₁:Heap.SameBut C (h3.push { cls:=.type (if (some X.env).isSome = true then "dict" else "frame"),data:=.dict #[] }) h₁) :
    codeAny (model X.prog X.w) X.A (.compStart (.ListComp elt [⟨tg,iter,ifs,0⟩] scope pos) 0 (.ref it) (.ref D) { newEnv scope C X.env.globals cl X.env.qual none .none (some X.env) builtinsNs with scope:=relabel scope X.env }) (RR (.ref D) C) { s with heap:=h₁,toks:=s.toks + ([]:List (Str × Value)).length }:=by
  obtain ⟨W,⟨m0,w0⟩,turn⟩:=hw
  have DF:H1 D = none:=I.hok.fresh (by rw [hD]; exact Nat.le_refl _)
  have hDfp:=I.fpOk (b:=D) (by rw [hD]; exact Nat.le_refl _) DF
  have up3:∀ b u,s.heap.get? b = some u→h3.get? b = some u:=fun b u e => by rw [← hp3]; exact Heap.get?_push_of_some _ e
  have I3:Inv X pins σ H1 { s with heap:=h3 }:=I.kept (t':=s.toks) up3
  have hD3:h3.get? D = some { cls:=.type "list",dict:=none,data:=.seq ([]:List Value).toArray }:=by rw [← hD,← hp3]; exact Heap.get?_push_size _ rfl
  have sz3:C = D + 1:=by rw [← hC,← hp3,Heap.size_push,hD]
  have CF:H1 C = none:=I3.hok.fresh (by show h3.objs.size ≤ C; rw [hC]; exact Nat.le_refl _)
  have hCfp:FpOk X pins H1 C:=I3.fpOk (b:=C) (by show h3.objs.size ≤ C; rw [hC]; exact Nat.le_refl _) CF
  have CD:C ≠ D:=by rw [sz3]; exact Nat.ne_of_gt (Nat.lt_succ_self _)
  have up1:∀ b u,h3.get? b = some u→h₁.get? b = some u:=fun b u e => hsb₁.extBut b u (Nat.ne_of_lt (by have:=Heap.lt_size e; rw [hC] at this; exact this)) (Heap.get?_push_of_some _ e)
  have hfb:∀ b ∈ fp,b < D:=fun b hb => by
    obtain ⟨o,e,_⟩:=T.obj 0 _ st0 b hb
    have:=Heap.lt_size e
    rw [hD] at this; exact this
  let s3:Shared:={ s with heap:=h3 }
  let Y:Cx:=compCx X scope cl N C s3 H1 (D :: fp)
  have yok:Y.Ok:={
    mod:=I.ok.mod
    kind:=ok.kind
    glob:=I.ok.glob
    blt:=I.ok.blt
    above:=by show h3.objs.size ≤ C; rw [hC]; exact Nat.le_refl _
    inj:=fun x y c e1 e2 => I.ok.inj x y c (ok.sub x c e1) (ok.sub y c e2)
    has:=ok.has
    cab:=fun x c e _ => nomatch e
    hd:=fun _ => I.ok.hd hc
    frames:=I.ok.frames
    stk:=.inl rfl
    exf:=fun b hb => by
      rcases List.mem_cons.mp hb with rfl | hb
      · exact ⟨Ne.symm CD,fun x c e => hDfp.2.2.2.2.1 x c (ok.sub x c e)⟩
      · exact ⟨fun z => by have q:=hfb b hb; have z':b = C:=z; rw [z',sz3] at q; exact absurd q (Nat.not_lt.mpr (Nat.le_succ _)),fun x c e => (hf b hb).2.2.2.2.1 x c (ok.sub x c e)⟩
    bs:=fun b o e => ⟨(I3.bs b o e).1,(I3.bs b o e).2⟩
    bsz:=Nat.le_trans I.ok.bsz I3.sz
    noex:=fun b o e hb => by
      rcases List.mem_cons.mp hb with rfl | hb
      · have e1:=(I.bs b o e).1
        have:=Heap.lt_size e1
        rw [hD] at this
        exact Nat.lt_irrefl _ this
      · rcases (hf b hb).2.2.2.1 with z | z
        · exact I.ok.noex b o e z
        · exact absurd (Nat.lt_of_lt_of_le (Heap.lt_size e) (Nat.le_trans I.ok.bsz z)) (Nat.lt_irrefl _)
    exfs:=fun b hb hb2 => by
      rcases List.mem_cons.mp hb with rfl | hb
      · rcases List.mem_cons.mp (I.stkSub b hb2) with z | z
        · exact hDfp.2.1 z
        · exact hDfp.2.2.1 z
      · rcases List.mem_cons.mp (I.stkSub b hb2) with z | z
        · exact (hf b hb).2.1 z
        · exact (hf b hb).2.2.1 z
    funs:=I3.stack
    frf:=I.stkFree }
  have neC:∀ b u,h3.get? b = some u→b ≠ C:=fun b u e => Nat.ne_of_lt (by have:=Heap.lt_size e; rw [hC] at this; exact this)
  have IY:Inv Y [] (compSt k fr σ) H1 { s3 with heap:=h₁,toks:=s.toks + ([]:List (Str × Value)).length }:={
    ok:=yok
    os:=rfl
    bare:=I.bare
    base:=Un.kept up1
    loc:=by
      obtain ⟨m,hn,hl⟩:=I3.loc
      refine ⟨_,hns₁,fun i x v e1 e2 e3 => ?_⟩
      obtain ⟨t,j,rfl,e4,e5⟩:=compSt_free e2
      obtain ⟨e6,e7,⟨c,e8⟩,e9,e10⟩:=ok.free t j x e4 e1
      obtain ⟨u,ru,lk⟩:=hl j x v e6 e5 e7
      refine ⟨u,ru,?_⟩
      rcases lk with ⟨z,_⟩ | ⟨_,c',e11,o,eo,ed⟩
      · exact absurd z e10
      · rw [ok.sub x c e8] at e11; cases e11
        exact .inr ⟨e9,c,e8,o,up1 _ _ eo,ed⟩
    cell:=fun x c e => by
      obtain ⟨v,o,eo,ed⟩:=I3.cell x c (ok.sub x c e)
      exact ⟨v,o,up1 _ _ eo,ed⟩
    free:=CF
    freeC:=fun x c e => I3.freeC x c (ok.sub x c e)
    pin:=fun p hp => nomatch hp
    hok:=I3.hok.kept up1
    len:=by rw [compSt_len]; exact ok.len.symm }
  -- the loop
  have DY:D ≠ Y.env.locals:=Ne.symm CD
  have DYf:D ∉ Y.fs:=yok.exfs D List.mem_cons_self
  have Dfp:D ∉ fp:=fun z => Nat.lt_irrefl _ (hfb D z)
  have pinD:∀ {σ':St} {H':Hp} {s':Shared} {its:List Value} {n:Nat},Inv Y [] σ' H' s'→H' D = none→s'.heap.get? D = some { cls:=.type "list",data:=.seq its.toArray n } →
      Inv Y [(D,{ cls:=.type "list",data:=.seq its.toArray n })] σ' H' s':=fun {σ' H' s' its n} J0 hn e => J0.pins_of fun p hp => by
    rcases List.mem_cons.mp hp with rfl | hp
    · exact ⟨e,hn,DY,DYf,fun v z => nomatch z⟩
    · exact nomatch hp
  have ffY:∀ {o:Obj} {H':Hp},(∀ b ∈ fp,H' b = none)→∀ b ∈ fp,FpOk Y [(D,o)] H' b:=fun {o H'} hn b hb =>
    ⟨hn b hb,(yok.exf b (List.mem_cons_of_mem _ hb)).1,yok.exfs b (List.mem_cons_of_mem _ hb),.inl (List.mem_cons_of_mem _ hb),(yok.exf b (List.mem_cons_of_mem _ hb)).2,fun p hp => by
      have hp':p ∈ ([]:List (Addr × Obj)) ++ [(D,o)]:=hp
      have e:p = (D,o):=by simpa using hp'
      rw [e]; exact fun z => Dfp (by have z':D = b:=z; rw [z']; exact hb)⟩
  have loop:codeAny (model X.prog X.w) X.A (.compLoop (.ListComp elt [⟨tg,iter,ifs,0⟩] scope pos) 0 (.ref it) (.ref D) (compEnvC scope cl C X.env)) (RR (.ref D) C)
      { s3 with heap:=h₁,toks:=s.toks + ([]:List (Str × Value)).length }:=by
    refine codeAny_loop rfl (CompI Y (compSt k fr σ) tn fp D W) ?_ m0
      ⟨0,[],[],0,H1,IY,?_,fun b hb => (hf b hb).1,DF,?_,.nil,w0⟩
    · rintro n s4 ⟨i,ys,its,nn,H4,I4,st4,fr4,D4,e4,v4,w4⟩
      have P4:=pinD I4 D4 e4
      show wpAny _ X.A ((compTurn (.ListComp elt [⟨tg,iter,ifs,0⟩] scope pos) 0 (.ref it) (.ref D) (compEnvC scope cl C X.env)).onRaise (fun x => do noteFrame x (compEnvC scope cl C X.env); theTreesLotGoes x)) _ _ s4
      refine wpAny_noted ?_
      rw [compTurn_list]
      refine wpAny_bind (wpAny_standAt (wpAny_bind ?_))
      rcases turn i n ys H4 w4 with ⟨stop,fin⟩ | ⟨go,small,step⟩
      · refine wpAny_mono (T.done Y rfl rfl rfl hc i _ s4 _ H4 (fun _ _ => False) P4 (ffY fr4) st4 stop) (fun r s5 ⟨hr,I5⟩ => ?_) fun _ _ z => z.elim
        subst hr
        refine wpAny_pure ?_
        have e5:=(I5.pin _ (List.mem_cons_self)).1
        have fin5:Inv X pins σ H4 s5:=I3.call' (ch:=D :: fp) I5.os I5.base I5.hok I5.bare fun b hb => by
          rcases List.mem_cons.mp hb with rfl | hb
          · exact ⟨hDfp.2.2.2.1,hDfp.2.1,hDfp.2.2.2.2.1,hDfp.2.2.2.2.2⟩
          · exact ⟨(hf b hb).2.2.2.1,(hf b hb).2.1,(hf b hb).2.2.2.2.1,(hf b hb).2.2.2.2.2⟩
        obtain ⟨m5,n5,_⟩:=I5.loc
        have szD:X.s₀.heap.objs.size ≤ D:=by have:=I.sz; rw [hD] at this; exact this
        have szC:X.s₀.heap.objs.size ≤ C:=by rw [sz3]; exact Nat.le_succ_of_le szD
        exact hRR D C ys its nn H4 m5 s5 fin5 D4 szD hDfp.2.1 hDfp.2.2.2.2.1 hDfp.2.2.2.2.2 e5 v4 n5 I5.free szC hCfp.2.1 hCfp.2.2.2.2.1 hCfp.2.2.2.2.2 CD fin
      · refine wpAny_mono (T.item Y rfl rfl rfl hc i _ s4 _ H4 (fun _ _ => False) P4 (ffY fr4) st4 go) (fun r s5 ⟨u,hr,h5⟩ => ?_) fun _ _ z => z.elim
        subst hr
        refine wpAny_bind (wpAny_mono h5 (fun _ s6 x__65 => ?_) fun _ _ z => z.elim)
        obtain ⟨x,H6,I6,r6,y6,st6,fr6⟩:=x__65
        have I6':=I6.pinned (ffY fr6) (T.obj _ _ st6)
        refine wpAny_bind (wpAny_mono (hg C s3 H1 (D :: fp) _ s6 _ H6 x u _ I6' r6 (step x H6 y6)) (fun _ s7 x__66 => ?_) fun _ _ z => z.elim)
        obtain ⟨σ7,H7,I7,f7,q7⟩:=x__66
        refine wpAny_bind (wpAny_mono (ht C s3 H1 (D :: fp) _ s7 σ7 H7 _ I7 q7) (fun b s8 x__67 => ?_) fun _ _ z => z.elim)
        obtain ⟨H8,I8,q8⟩:=x__67
        have keep:∀ {s9:Shared} {H9:Hp},Inv Y ([(D,{ cls:=.type "list",data:=.seq its.toArray nn })] ++ pinsAt fp s6.heap) σ7 H9 s9→tn (i + 1) s9.heap∧(∀ b ∈ fp,H9 b = none)∧H9 D = none∧s9.heap.get? D = some { cls:=.type "list",data:=.seq its.toArray nn }∧Inv Y [] (compSt k fr σ) H9 s9:=fun {s9 H9} I9 => by
          refine ⟨T.keep _ _ _ st6 fun b hb o e => (I9.pin (b,o) (List.mem_append_right _ (List.mem_append_right _ (mem_pinsAt hb e)))).1,fun b hb => ?_,?_,?_,?_⟩
          · obtain ⟨o,e,d⟩:=T.obj _ _ st6 b hb
            exact (I9.pin (b,o) (List.mem_append_right _ (List.mem_append_right _ (mem_pinsAt hb e)))).2.1
          · exact (I9.pin _ (List.mem_append_right _ (List.mem_append_left _ List.mem_cons_self))).2.1
          · exact (I9.pin _ (List.mem_append_right _ (List.mem_append_left _ List.mem_cons_self))).1
          · exact (I9.pins_of (pins':=[]) fun p hp => nomatch hp).weak f7.1.symm f7.2
        cases b with
        | false =>
          have q8:∃ m',m' < n∧W (i + 1) m' ys H8:=by simpa using q8
          obtain ⟨m',hm,w8⟩:=q8
          obtain ⟨a1,a2,a3,a4,a5⟩:=keep I8
          exact wpAny_pure ⟨rfl,m',hm,i + 1,ys,its,nn,H8,a5,a1,a2,a3,a4,v4,w8⟩
        | true =>
          have q8:te σ7 H8 fun y H4 => ∃ m',m' < n∧W (i + 1) m' (ys ++ [y]) H4:=by simpa using q8
          refine wpAny_bind (wpAny_bind (wpAny_mono (he C s3 H1 (D :: fp) _ s8 σ7 H8 _ I8 q8) (fun yv s9 x__68 => ?_) fun _ _ z => z.elim))
          obtain ⟨y,H9,I9,r9,m',hm,w9⟩:=x__68
          obtain ⟨a1,a2,a3,a4,a5⟩:=keep I9
          refine wpAny_bind (append_at (hsz:=by rw [List.size_toArray,← v4.length]; exact Nat.le_of_lt small) a4 fun h' hs' e' => ?_)
          refine wpAny_pure (wpAny_pure ⟨rfl,m',hm,i + 1,ys ++ [y],its ++ [yv],nn + 1,H9,?_,?_,a2,a3,?_,v4.append (.cons r9 .nil),w9⟩)
          · exact a5.turned (t':=s9.toks) (fun b o hb e => hs'.extBut b o hb e) a3 DY (.inl List.mem_cons_self) (yok.exf D List.mem_cons_self).2 fun p hp => nomatch hp
          · exact T.keep _ _ _ a1 fun b hb o e => hs'.extBut b o (fun z => Dfp (by rw [← z]; exact hb)) e
          · show h'.get? D = _
            rw [e']
            simp
    · exact T.keep 0 _ _ st0 fun b hb o e => up1 _ _ (up3 _ _ e)
    · exact up1 _ _ hD3
  exact codeAny_compStart_list loop (T.self _ 0 _ _ _ (T.keep 0 _ _ st0 fun b hb o e => up1 _ _ (up3 _ _ e)) loop)

theorem comp_core {tg iter elt:Expr} {ifs:List Expr} {scope:Scope} {cl:List (Str × Addr)} {N:List Str} {k:Nat} {fr:List Nat} {pos:Pos} {g:TG} {tt:TT} {te:TE} {itv:Value} {E:Value→Shared→Prop}
    {F:List V→Hp→Prop} {RR:Value→Addr→Result→Shared→Prop}
    (ok:CompOk X scope cl N k fr) (hc:X.calm = true)
    (hg:∀ C s H ex,PG (compCx X scope cl N C s H ex) tg g) (ht:∀ C s H ex,PIfs (compCx X scope cl N C s H ex) ifs tt) (he:∀ C s H ex,PE (compCx X scope cl N C s H ex) elt te)
    (h:PIE X pins σ tg (fun J H1 => CompW J g tt te (compSt k fr σ) H1 F) itv s)
    (hRR:CompRR X pins σ F RR) :
    wpAny (model X.prog X.w) X.A (newList []) (fun acc s₃ => wpAny (model X.prog X.w) X.A (newFunctionEnv scope X.env.globals cl [] X.env.qual none .none (some X.env)) (fun cenv s₄ =>
      codeAny (model X.prog X.w) X.A (.compStart (.ListComp elt [⟨tg,iter,ifs,0⟩] scope pos) 0 itv acc { cenv with scope:=relabel scope X.env }) (RR acc cenv.locals) s₄) E s₃) E s:=by
  obtain ⟨it,fp,tn,J,H1,rfl,I,T,st0,hf,hw⟩:=h
  exact wpAny_newObj_type (wpAny_newFunctionEnv ok.nocell (by intro y hy; simp at hy) (fun h₁ hns₁ hsb₁ => comp_core1 (s:=s) (h3:=s.heap.push { cls:=.type "list",dict:=none,data:=.seq ([]:List Value).toArray }) (h₁:=h₁) ok hc hg ht he hRR I T st0 hf hw rfl rfl rfl hns₁ hsb₁) ok.kind)
theorem pe_comp {tg iter elt:Expr} {ifs:List Expr} {scope:Scope} {cl:List (Str × Addr)} {N:List Str} {k:Nat} {fr:List Nat} {pos:Pos} {wi:TI} {g:TG} {tt:TT} {te:TE}
    (ok:CompOk X scope cl N k fr) (hc:X.calm = true) (hi:PI X tg iter wi)
    (hg:∀ C s H ex,PG (compCx X scope cl N C s H ex) tg g) (ht:∀ C s H ex,PIfs (compCx X scope cl N C s H ex) ifs tt) (he:∀ C s H ex,PE (compCx X scope cl N C s H ex) elt te)
    (hs:∀ x,foldedSetIterable iter X.env x = pure x:=by intro _; rfl):PE X (.ListComp elt [⟨tg,iter,ifs,0⟩] scope pos) (tComp k fr wi g tt te):=by
  intro pins s σ H Q I h
  rw [eval_ListComp]
  refine wpAny_comprehension_free (use:=none) rfl hs ok.clos ok.kind ok.names (thn (hi pins s σ H _ I h) fun v s1 h1 => thn h1 fun itv s2 h2 => ?_)
  refine comp_core ok hc hg ht he h2 fun D C ys its n H' m s' I' d1 d2 d3 d4 d5 e vv nC c1 c2 c3 c4 c5 cd fin => ?_
  refine ⟨m,nC,fun h'' sb => ?_⟩
  have I2:Inv X pins σ H' { s' with heap:=h'' }:=I'.turned (t':=s'.toks) (fun b o hb e => sb.extBut b o hb e) c1 c3 (.inr c2) c4 c5
  have e2:h''.get? D = some { cls:=.type "list",data:=.seq its.toArray n }:=sb.extBut _ _ (Ne.symm cd) e
  exact ⟨.ref D,upd H' D (.lst ys),I2.track (t':=s'.toks) d1 d3 d2 d4 d5 ⟨fin.1,its,n,vv,e2⟩,rfl,fin.2 D d1⟩
theorem ps_comp {i:Nat} {x:Str} {py spos:Pos} {tg iter elt:Expr} {ifs:List Expr} {scope:Scope} {cl:List (Str × Addr)} {N:List Str} {k:Nat} {fr:List Nat} {pos:Pos} {wi:TI} {g:TG} {tt:TT} {te:TE}
    (hN:X.N.Nodup) (hi':X.N[i]? = some x) (hx:Loc X.env.scope x) (ok:CompOk X scope cl N k fr) (hc:X.calm = true) (hi:PI X tg iter wi)
    (hg:∀ C s H ex,PG (compCx X scope cl N C s H ex) tg g) (ht:∀ C s H ex,PIfs (compCx X scope cl N C s H ex) ifs tt) (he:∀ C s H ex,PE (compCx X scope cl N C s H ex) elt te)
    (hsw:swapsWith (.ListComp elt [⟨tg,iter,ifs,0⟩] scope pos) (some (.Name x py)) spos.line X.env = pure true)
    (hs:∀ x,foldedSetIterable iter X.env x = pure x:=by intro _; rfl) (hf:X.fn x = true ∨ X.env.scope.names.lookup x = some .local:=by first | exact .inl rfl | exact .inr rfl | assumption) :
    PS X (.Assign [.Name x py] (.ListComp elt [⟨tg,iter,ifs,0⟩] scope pos) spos) (sComp i k fr wi g tt te):=by
  intro pins s σ H Dd I h
  rw [exec_Assign_Name_used _ _ _ _ hsw]
  refine wpAny_bind (wpAny_standAt (wpAny_bind ?_))
  show wpAny _ X.A (do let _ ← comprehension (.ListComp elt [⟨tg,iter,ifs,0⟩] scope pos) scope X.env _ (newList []) false (eval iter X.env) (some (assign (.Name x py) X.env))) _ _ s
  refine wpAny_bind (wpAny_mono (wpAny_comprehension_free (use:=some (assign (.Name x py) X.env)) (Q:=fun _ s' => SP X pins Dd .next s') rfl hs ok.clos ok.kind ok.names (thn (hi pins s σ H _ I h) fun v s1 h1 => thn h1 fun itv s2 h2 => ?_)) (fun _ s' hq => wpAny_pure (wpAny_pure hq)) fun _ _ e => e)
  refine comp_core ok hc hg ht he h2 fun D C ys its n H' m s' I' d1 d2 d3 d4 d5 e vv nC c1 c2 c3 c4 c5 cd fin => ?_
  show wpAny _ X.A (assign (.Name x py) X.env (.ref D)) _ _ s'
  have I0:Inv X pins σ (upd H' D (.lst ys)) s':=I'.track (t':=s'.toks) d1 d3 d2 d4 d5 ⟨fin.1,its,n,vv,e⟩
  refine wpAny_assign_Name (store_ok2 I0 hN hi' hx (show RelV (.ref D) (.ref D) from rfl) (fun s2 I2 x__69 => ?_) hf)
  obtain ⟨a,sb,ha⟩:=x__69
  have aC:C ≠ a:=by
    rcases ha with z | z
    · rw [z]; exact c3
    · exact Ne.symm (c4 x a z)
  refine ⟨m,nC.sameBut sb aC,fun h'' sb2 => ?_⟩
  have HC:(upd H' D (.lst ys)) C = none:=by rw [upd_ne cd]; exact c1
  exact ⟨_,_,I2.turned (t':=s2.toks) (fun b o hb e => sb2.extBut b o hb e) HC c3 (.inr c2) c4 c5,fin.2 D d1⟩
end
end L2

namespace L2
open PySem PySem.Spec PyProof.Rows

noncomputable def SqK (k:Bool) (K:PySem.W.Frag) (H:Hp) (a:Addr) (xs:List V):Prop:=if k = true then SqL K H a xs else SqT K H a xs
noncomputable def HasK (k:Bool) (h:Heap) (a:Addr) (its:Array Value):Prop:=if k = true then h.IsList a its else h.IsTuple a its
noncomputable def IterK (k:Bool) (h:Heap) (it a:Addr) (i:Nat):Prop:=if k = true then h.IsListIter it a i else h.IsTupleIter it a i
noncomputable def iterObj (k:Bool) (a:Addr):Obj:={ cls:=.type (if k = true then "list_iterator" else "tuple_iterator"),data:=.fields #[.ref a,.int 0 0] }

theorem IterK.at {k:Bool} {h h':Heap} {it a:Addr} {i:Nat} (x:IterK k h it a i) (e:∀ o,h.get? it = some o→h'.get? it = some o):IterK k h' it a i:=by
  cases k with
  | true => exact Heap.IsListIter.at (show h.IsListIter it a i from x) e
  | false => exact Heap.IsTupleIter.at (show h.IsTupleIter it a i from x) e
theorem IterK.get {k:Bool} {h:Heap} {it a:Addr} {i:Nat} (x:IterK k h it a i):∃ o,h.get? it = some o∧∀ v,o.data ≠ .cell v:=by
  cases k with
  | true => obtain ⟨o,e,_,d⟩:=(show h.IsListIter it a i from x); exact ⟨o,e,fun v z => by rw [d] at z; cases z⟩
  | false => obtain ⟨o,e,_,d⟩:=(show h.IsTupleIter it a i from x); exact ⟨o,e,fun v z => by rw [d] at z; cases z⟩
theorem HasK.at {k:Bool} {h h':Heap} {a:Addr} {its:Array Value} (x:HasK k h a its) (e:∀ o,h.get? a = some o→h'.get? a = some o):HasK k h' a its:=by
  cases k with
  | true => exact Heap.IsList.at (show h.IsList a its from x) e
  | false => obtain ⟨o,q,r⟩:=(show h.IsTuple a its from x); exact ⟨o,e o q,r⟩
theorem HasK.lt {k:Bool} {h:Heap} {a:Addr} {its:Array Value} (x:HasK k h a its):a < h.objs.size:=by
  cases k with
  | true => obtain ⟨_,e,_⟩:=(show h.IsList a its from x); exact Heap.lt_size e
  | false => obtain ⟨_,e,_⟩:=(show h.IsTuple a its from x); exact Heap.lt_size e
theorem Inv.hasK {X:Cx} {pins:List (Addr × Obj)} {σ:St} {H:Hp} {s:Shared} {k:Bool} {a:Addr} {xs:List V} (I:Inv X pins σ H s) (h:SqK k X.K H a xs) :
    ∃ its:List Value,Vals xs its∧HasK k s.heap a its.toArray∧xs.length ≤ sizeLine:=by
  cases k with
  | true =>
    obtain ⟨its,r,p,z⟩:=I.list (show SqL X.K H a xs from h)
    exact ⟨its,r,p.isList,z⟩
  | false =>
    obtain ⟨its,r,⟨o,e,c,n,d⟩,z⟩:=I.tuple (show SqT X.K H a xs from h)
    exact ⟨its,r,⟨o,e,c,n,d⟩,z⟩
theorem Inv.sqK_inj {X:Cx} {pins:List (Addr × Obj)} {σ:St} {H:Hp} {s:Shared} {k:Bool} {a:Addr} {xs ys:List V} (I:Inv X pins σ H s) (h:SqK k X.K H a xs) (h':SqK k X.K H a ys):xs = ys:=by
  cases k with
  | true => exact I.list_inj h h'
  | false => exact I.tuple_inj h h'

section
variable {prog:Program} {w:World} {A:Around} {E:Value→Shared→Prop} {s:Shared}
theorem nextK_item {k:Bool} {it a:Addr} {i:Nat} {its:Array Value} {x:Value} {Q:Value→Shared→Prop} (hi:IterK k s.heap it a i) (ha:HasK k s.heap a its) (hx:its[i]? = some x)
    (hQ:∀ h',IterK k h' it a (i + 1)→Heap.SameBut it s.heap h'→Q x { s with heap:=h' }):wpAny (model prog w) A (Builtin.SmallTypes.nextOf (.ref it)) Q E s:=by
  cases k with
  | true => exact wpAny_nextOf_list_item hi ha hx fun h' q1 q2 => hQ h' q1 q2
  | false =>
    have hit:s.heap.IsTupleIter it a i:=hi
    obtain ⟨o,eo,ec,ed⟩:=id hit
    obtain ⟨oa,ea,_,na,da⟩:=(show s.heap.IsTuple a its from ha)
    unfold Builtin.SmallTypes.nextOf
    refine wpAny_bind (wpAny_callSpecial?_slot (name:=Str.ofString "__next__") hit.typeIs F.slot_tuple_iterator_next (wpAny_call_entry F.slot_tuple_iterator_next hit.typeIs F.entry_tuple_iterator_next ?_ (F.args_tuple_iterator_next_1 _)))
    show wpAny (model prog w) _ (field (.ref it) 0 >>= _) _ E s
    refine wpAny_bind (wpAny_field eo ed (x:=.ref a) rfl ?_)
    show wpAny (model prog w) _ (if (Value.ref a == Value.none) = true then _ else _) _ E s
    rw [if_neg (by show ¬ false = true; exact Bool.false_ne_true)]
    show wpAny (model prog w) _ (field (.ref it) 1 >>= _) _ E s
    refine wpAny_bind (wpAny_field eo ed (x:=.int i 0) rfl ?_)
    show wpAny (model prog w) _ (seqItems? (.ref a) >>= _) _ E s
    refine wpAny_bind (wpAny_seqItems ea da ?_)
    simp only [Int.toNat_natCast,hx]
    refine wpAny_bind (wpAny_setField eo ed (by simp) (wpAny_pure ⟨x,rfl,wpAny_pure (hQ _ ?_ (Heap.SameBut.update ..))⟩))
    show Heap.IsTupleIter _ it a (i + 1)
    refine ⟨_,Heap.get?_update_self _ eo (Obj.isFreed_of_fields (Obj.data_mapFields ed _)),(Obj.cls_mapFields ..).trans ec,?_⟩
    rw [Obj.data_mapFields ed]
    simp [rawInt]
theorem nextK_end {k:Bool} {it a:Addr} {i:Nat} {its:Array Value} {Q:Value→Shared→Prop} (hh:A.handled = none) (hi:IterK k s.heap it a i) (ha:HasK k s.heap a its) (hx:its[i]? = none)
    (hE:∀ h' e,Heap.ExtBut it s.heap h'→(∃ o,h'.get? e = some o∧o.cls = .type "StopIteration")→E (.ref e) { s with heap:=h' }):wpAny (model prog w) A (Builtin.SmallTypes.nextOf (.ref it)) Q E s:=by
  cases k with
  | true => exact wpAny_nextOf_list_end hh hi ha hx hE
  | false =>
    have hit:s.heap.IsTupleIter it a i:=hi
    obtain ⟨o,eo,ec,ed⟩:=id hit
    obtain ⟨oa,ea,_,na,da⟩:=(show s.heap.IsTuple a its from ha)
    unfold Builtin.SmallTypes.nextOf
    refine wpAny_bind (wpAny_callSpecial?_slot (name:=Str.ofString "__next__") hit.typeIs F.slot_tuple_iterator_next (wpAny_call_entry F.slot_tuple_iterator_next hit.typeIs F.entry_tuple_iterator_next ?_ (F.args_tuple_iterator_next_1 _)))
    show wpAny (model prog w) _ (field (.ref it) 0 >>= _) _ E s
    refine wpAny_bind (wpAny_field eo ed (x:=.ref a) rfl ?_)
    show wpAny (model prog w) _ (if (Value.ref a == Value.none) = true then _ else _) _ E s
    rw [if_neg (by show ¬ false = true; exact Bool.false_ne_true)]
    show wpAny (model prog w) _ (field (.ref it) 1 >>= _) _ E s
    refine wpAny_bind (wpAny_field eo ed (x:=.int i 0) rfl ?_)
    show wpAny (model prog w) _ (seqItems? (.ref a) >>= _) _ E s
    refine wpAny_bind (wpAny_seqItems ea da ?_)
    simp only [Int.toNat_natCast,hx]
    refine wpAny_bind (wpAny_rule (wpAny_bind (wpAny_setField eo ed (by simp) ?_)))
    show wpAny (model prog w) _ (newExc (.type "StopIteration") [] >>= _) _ E _
    refine wpAny_bind ?_
    simp only [newExc,newTuple]
    refine wpAny_bind (wpAny_newObj_type ?_ (by size_fits))
    refine wpAny_bind (m:=firstArgMember _ _) (wpAny_of_eq (a:=Value.none) (by first | rfl | (simp only [firstArgMember]; rfl)) (wpAny_newObj_type ?_ (by size_fits)))
    simp only [raiseNew]
    refine wpAny_bind (wpAny_handled ?_)
    first | rw [show A.in1.handled = none from hh] | rw [hh]
    exact wpAny_bind (wpAny_pure (wpAny_throw (hE _ _ (((Heap.SameBut.update ..).extBut.push _).push _) ⟨_,Heap.get?_push_size _ rfl,rfl⟩)))
theorem iterK_new {k:Bool} {a:Addr} {its:Array Value} {Q:Value→Shared→Prop} (ha:HasK k s.heap a its) (hQ:Q (.ref s.heap.objs.size) { s with heap:=s.heap.push (iterObj k a) }) :
    wpAny (model prog w) A (pyIter (.ref a)) Q E s:=by
  cases k with
  | true => exact wpAny_pyIter_list ha hQ
  | false => exact wpAny_pyIter_tuple ha hQ
theorem iterObj_is {k:Bool} {a it:Addr} {h:Heap} (e:h.get? it = some (iterObj k a)):IterK k h it a 0:=by
  cases k with
  | true => exact ⟨_,e,rfl,rfl⟩
  | false => exact ⟨_,e,rfl,rfl⟩
end

structure ZipRec (h:Heap) (k1 k2:Bool) (z TI TO i1 i2 a b:Addr) (n:Nat) (f0:Value):Prop where
  zr:IsZip h z TI TO f0
  pi:IsPair h TI (.ref i1) (.ref i2)
  po:∃ u v,IsPair h TO u v
  it1:IterK k1 h i1 a n
  it2:IterK k2 h i2 b n
structure ZipFar (z TI TO i1 i2:Addr):Prop where
  d1:TI ≠ z
  d2:TO ≠ z
  d3:i1 ≠ z
  d4:i2 ≠ z
  d5:TI ≠ TO
  d6:TI ≠ i1
  d7:TI ≠ i2
  d8:TO ≠ i1
  d9:TO ≠ i2
  d10:i1 ≠ i2

section
variable {prog:Program} {w:World} {A:Around} {E:Value→Shared→Prop} {s:Shared} {k1 k2:Bool} {z TI TO i1 i2 a b:Addr} {n:Nat} {xs ys:Array Value}
theorem zipK_item {x y:Value} {Q:Value→Shared→Prop} (D:ZipFar z TI TO i1 i2) (Z:ZipRec s.heap k1 k2 z TI TO i1 i2 a b n .none) (ha:HasK k1 s.heap a xs) (hb:HasK k2 s.heap b ys)
    (fa:a ≠ z∧a ≠ TO∧a ≠ i1∧a ≠ i2) (fb:b ≠ z∧b ≠ TO∧b ≠ i1∧b ≠ i2) (hx:xs[n]? = some x) (hy:ys[n]? = some y)
    (hQ:∀ h',ZipRec h' k1 k2 z TI TO i1 i2 a b (n + 1) (rawInt s.heap.objs.size)→IsPair h' s.heap.objs.size x y→h'.objs.size = s.heap.objs.size + 1 →
      (∀ c o,c ≠ z→c ≠ TO→c ≠ i1→c ≠ i2→s.heap.get? c = some o→h'.get? c = some o)→Q (.ref s.heap.objs.size) { s with heap:=h' }) :
    wpAny (model prog w) A (Builtin.«zip.__next__» ⟨[.ref z],[]⟩) (fun fin s' => ∃ v,fin = .done (.ret v)∧Q v s') E s:=by
  obtain ⟨zr,zi,⟨u,v,zo⟩,z1,z2⟩:=Z
  show wpAny (model prog w) A (field (.ref z) 2 >>= _) _ E s
  refine wpAny_bind (wpAny_field zr rfl (x:=.bool false) rfl ?_)
  show wpAny (model prog w) A (field (.ref z) 3 >>= _) _ E s
  refine wpAny_bind (wpAny_field zr rfl (x:=.ref TI) rfl (wpAny_bind (wpAny_seqItems zi rfl ?_)))
  show wpAny (model prog w) A (Builtin.SmallTypes.ownedTupleIsFree (.ref z) >>= _) _ E s
  refine wpAny_bind ?_
  unfold Builtin.SmallTypes.ownedTupleIsFree
  refine wpAny_bind (wpAny_field zr rfl (x:=.none) rfl (wpAny_pure ?_))
  simp only [if_true]
  refine wpAny_bind (wpAny_rule (wpAny_bind (wpAny_field zr rfl (x:=.ref TO) rfl (wpAny_bind (wpAny_setField_rec zr (by simp) fun g1 r1 e1 => ?_)))))
  have r1':IsZip g1 z TI TO .ellipsis:=r1
  clear r1
  simp only [List.zipIdx_cons,List.zipIdx_nil,List.forIn_cons,List.forIn_nil]
  have kp1:∀ c o,c ≠ z→s.heap.get? c = some o→g1.get? c = some o:=fun c o q e => e1.extBut c o q e
  -- the first
  refine wpAny_bind (wpAny_bind (wpAny_bind (wpAny_onRaise ?_)))
  show wpAny (model prog w) A (Builtin.SmallTypes.nextOf (.ref i1) >>= _) _ _ { s with heap:=g1 }
  refine wpAny_bind (nextK_item (s:={ s with heap:=g1 }) (z1.at fun o e => kp1 _ o D.d3 e) (ha.at fun o e => kp1 _ o fa.1 e) hx fun g2 j1 e2 => wpAny_pure ?_)
  have kp2:∀ c o,c ≠ i1→g1.get? c = some o→g2.get? c = some o:=fun c o q e => e2.extBut c o q e
  have o2:IsPair g2 TO u v:=kp2 _ _ D.d8 (kp1 _ _ D.d2 zo)
  refine wpAny_bind (wpAny_seqItems o2 rfl (wpAny_bind (wpAny_updateSeq_pair o2 fun g3 o3 e3 => wpAny_bind (wpAny_letGo (wpAny_pure ?_)))))
  have o3':IsPair g3 TO x v:=o3
  clear o3
  have kp3:∀ c o,c ≠ TO→g2.get? c = some o→g3.get? c = some o:=fun c o q e => e3.extBut c o q e
  -- the second
  refine wpAny_bind (wpAny_bind (wpAny_onRaise ?_))
  show wpAny (model prog w) A (Builtin.SmallTypes.nextOf (.ref i2) >>= _) _ _ { s with heap:=g3 }
  refine wpAny_bind (nextK_item (s:={ s with heap:=g3 }) (z2.at fun o e => kp3 _ o D.d9.symm (kp2 _ o D.d10.symm (kp1 _ o D.d4 e))) (hb.at fun o e => kp3 _ o fb.2.1 (kp2 _ o fb.2.2.1 (kp1 _ o fb.1 e))) hy fun g4 j2 e4 => wpAny_pure ?_)
  have kp4:∀ c o,c ≠ i2→g3.get? c = some o→g4.get? c = some o:=fun c o q e => e4.extBut c o q e
  have o4:IsPair g4 TO x v:=kp4 _ _ D.d9 o3'
  refine wpAny_bind (wpAny_seqItems o4 rfl (wpAny_bind (wpAny_updateSeq_pair o4 fun g5 o5 e5 => wpAny_bind (wpAny_letGo (wpAny_pure (wpAny_pure ?_))))))
  have o5':IsPair g5 TO x y:=o5
  clear o5
  have kp5:∀ c o,c ≠ TO→g4.get? c = some o→g5.get? c = some o:=fun c o q e => e5.extBut c o q e
  refine wpAny_bind (wpAny_seqItems o5' rfl (wpAny_bind (wpAny_newTuple ?_)))
  have sz5:g5.objs.size = s.heap.objs.size:=by rw [e5.1,e4.1,e3.1,e2.1,e1.1]
  have z5:IsZip g5 z TI TO .ellipsis:=kp5 _ _ D.d2.symm (kp4 _ _ D.d4.symm (kp3 _ _ D.d2.symm (kp2 _ _ D.d3.symm r1')))
  have all5:∀ c o,c ≠ z→c ≠ TO→c ≠ i1→c ≠ i2→s.heap.get? c = some o→g5.get? c = some o:=fun c o q1 q2 q3 q4 e => kp5 _ _ q2 (kp4 _ _ q4 (kp3 _ _ q2 (kp2 _ _ q3 (kp1 _ _ q1 e))))
  have j1':IterK k1 g5 i1 a (n + 1):=j1.at fun o e => kp5 _ _ D.d8.symm (kp4 _ _ D.d10 (kp3 _ _ D.d8.symm e))
  have j2':IterK k2 g5 i2 b (n + 1):=j2.at fun o e => kp5 _ _ D.d9.symm e
  have zl:z < g5.objs.size:=Heap.lt_size z5
  refine wpAny_bind ?_
  unfold Builtin.SmallTypes.ownedTupleHandOut
  have z6:IsZip (g5.push { cls:=.type "tuple",data:=.seq #[x,y] }) z TI TO .ellipsis:=Heap.get?_push_of_some _ z5
  refine wpAny_bind (wpAny_setField_rec z6 (by simp) fun g7 r7 e7 => ?_)
  have r7':IsZip g7 z TI TO (rawInt g5.objs.size):=r7
  refine wpAny_setField_rec r7' (by simp) fun g8 r8 e8 => ?_
  have r8':IsZip g8 z TI TO (rawInt g5.objs.size):=r8
  have kp8:∀ c o,c ≠ z→g5.get? c = some o→g8.get? c = some o:=fun c o q e => e8.extBut _ _ q (e7.extBut _ _ q (Heap.get?_push_of_some _ e))
  have t8:IsPair g8 g5.objs.size x y:=e8.extBut _ _ (Nat.ne_of_gt zl) (e7.extBut _ _ (Nat.ne_of_gt zl) (Heap.get?_push_size _ rfl))
  have sz8:g8.objs.size = g5.objs.size + 1:=by rw [e8.1,e7.1,Heap.size_push]
  rw [sz5] at r8' t8 sz8
  refine wpAny_pure ⟨_,rfl,?_⟩
  show Q (.ref g5.objs.size) _
  rw [sz5]
  exact hQ g8 ⟨r8',kp8 _ _ D.d1 (all5 _ _ D.d1 D.d5 D.d6 D.d7 zi),⟨_,_,kp8 _ _ D.d2 o5'⟩,j1'.at fun o e => kp8 _ o D.d3 e,j2'.at fun o e => kp8 _ o D.d4 e⟩ t8 sz8 fun c o q1 q2 q3 q4 e => kp8 c o q1 (all5 c o q1 q2 q3 q4 e)

theorem zipK_end {Q:Fin→Shared→Prop} (hh:A.handled = none) (D:ZipFar z TI TO i1 i2) (Z:ZipRec s.heap k1 k2 z TI TO i1 i2 a b n .none) (ha:HasK k1 s.heap a xs) (hb:HasK k2 s.heap b ys)
    (fa:a ≠ z∧a ≠ TO∧a ≠ i1∧a ≠ i2) (fb:b ≠ z∧b ≠ TO∧b ≠ i1∧b ≠ i2) (hend:xs[n]? = none ∨ ys[n]? = none)
    (hE:∀ h' e,(∀ c o,c ≠ z→c ≠ TO→c ≠ i1→c ≠ i2→s.heap.get? c = some o→h'.get? c = some o)→(∃ o,h'.get? e = some o∧o.cls = .type "StopIteration")→E (.ref e) { s with heap:=h' }) :
    wpAny (model prog w) A (Builtin.«zip.__next__» ⟨[.ref z],[]⟩) Q E s:=by
  obtain ⟨zr,zi,⟨u,v,zo⟩,z1,z2⟩:=Z
  show wpAny (model prog w) A (field (.ref z) 2 >>= _) _ E s
  refine wpAny_bind (wpAny_field zr rfl (x:=.bool false) rfl ?_)
  show wpAny (model prog w) A (field (.ref z) 3 >>= _) _ E s
  refine wpAny_bind (wpAny_field zr rfl (x:=.ref TI) rfl (wpAny_bind (wpAny_seqItems zi rfl ?_)))
  show wpAny (model prog w) A (Builtin.SmallTypes.ownedTupleIsFree (.ref z) >>= _) _ E s
  refine wpAny_bind ?_
  unfold Builtin.SmallTypes.ownedTupleIsFree
  refine wpAny_bind (wpAny_field zr rfl (x:=.none) rfl (wpAny_pure ?_))
  simp only [if_true]
  refine wpAny_bind (wpAny_rule (wpAny_bind (wpAny_field zr rfl (x:=.ref TO) rfl (wpAny_bind (wpAny_setField_rec zr (by simp) fun g1 r1 e1 => ?_)))))
  have r1':IsZip g1 z TI TO .ellipsis:=r1
  clear r1
  simp only [List.zipIdx_cons,List.zipIdx_nil,List.forIn_cons,List.forIn_nil]
  have kp1:∀ c o,c ≠ z→s.heap.get? c = some o→g1.get? c = some o:=fun c o q e => e1.extBut c o q e
  refine wpAny_bind (wpAny_bind (wpAny_bind (wpAny_onRaise ?_)))
  show wpAny (model prog w) A (Builtin.SmallTypes.nextOf (.ref i1) >>= _) _ _ { s with heap:=g1 }
  cases hx:xs[n]? with
  | none =>
    refine wpAny_bind (nextK_end (s:={ s with heap:=g1 }) hh (z1.at fun o e => kp1 _ o D.d3 e) (ha.at fun o e => kp1 _ o fa.1 e) hx fun g2 e e2 he => ?_)
    obtain ⟨oe,eo,ec⟩:=he
    have z2':IsZip g2 z TI TO .ellipsis:=e2 _ _ D.d3.symm r1'
    have ez:e ≠ z:=fun q => by subst q; rw [z2'] at eo; cases eo; simp at ec
    exact wpAny_setField_rec z2' (by simp) fun g3 _ e3 => hE g3 e (fun c o q1 _ q3 _ q => e3.extBut _ _ q1 (e2 _ _ q3 (kp1 _ _ q1 q))) ⟨oe,e3.extBut _ _ ez eo,ec⟩
  | some x =>
    have hy:ys[n]? = none:=hend.resolve_left fun q => by rw [hx] at q; cases q
    refine wpAny_bind (nextK_item (s:={ s with heap:=g1 }) (z1.at fun o e => kp1 _ o D.d3 e) (ha.at fun o e => kp1 _ o fa.1 e) hx fun g2 j1 e2 => wpAny_pure ?_)
    have kp2:∀ c o,c ≠ i1→g1.get? c = some o→g2.get? c = some o:=fun c o q e => e2.extBut c o q e
    have o2:IsPair g2 TO u v:=kp2 _ _ D.d8 (kp1 _ _ D.d2 zo)
    refine wpAny_bind (wpAny_seqItems o2 rfl (wpAny_bind (wpAny_updateSeq_pair o2 fun g3 o3 e3 => wpAny_bind (wpAny_letGo (wpAny_pure ?_)))))
    have kp3:∀ c o,c ≠ TO→g2.get? c = some o→g3.get? c = some o:=fun c o q e => e3.extBut c o q e
    refine wpAny_bind (wpAny_bind (wpAny_onRaise ?_))
    show wpAny (model prog w) A (Builtin.SmallTypes.nextOf (.ref i2) >>= _) _ _ { s with heap:=g3 }
    refine wpAny_bind (nextK_end (s:={ s with heap:=g3 }) hh (z2.at fun o e => kp3 _ o D.d9.symm (kp2 _ o D.d10.symm (kp1 _ o D.d4 e))) (hb.at fun o e => kp3 _ o fb.2.1 (kp2 _ o fb.2.2.1 (kp1 _ o fb.1 e))) hy fun g4 e e4 he => ?_)
    obtain ⟨oe,eo,ec⟩:=he
    have z4:IsZip g4 z TI TO .ellipsis:=e4 _ _ D.d4.symm (kp3 _ _ D.d2.symm (kp2 _ _ D.d3.symm r1'))
    have ez:e ≠ z:=fun q => by subst q; rw [z4] at eo; cases eo; simp at ec
    exact wpAny_setField_rec z4 (by simp) fun g5 _ e5 => hE g5 e (fun c o q1 q2 q3 q4 q => e5.extBut _ _ q1 (e4 _ _ q4 (kp3 _ _ q2 (kp2 _ _ q3 (kp1 _ _ q1 q))))) ⟨oe,e5.extBut _ _ ez eo,ec⟩
end

section
variable {prog:Program} {w:World} {A:Around} {E:Value→Shared→Prop} {s:Shared} {k1 k2:Bool} {z TI TO i1 i2 a b:Addr} {n:Nat} {xs ys:Array Value}
theorem nextZip_item {x y:Value} {Q:Option Value→Shared→Prop} (D:ZipFar z TI TO i1 i2) (Z:ZipRec s.heap k1 k2 z TI TO i1 i2 a b n .none) (ha:HasK k1 s.heap a xs) (hb:HasK k2 s.heap b ys)
    (fa:a ≠ z∧a ≠ TO∧a ≠ i1∧a ≠ i2) (fb:b ≠ z∧b ≠ TO∧b ≠ i1∧b ≠ i2) (hx:xs[n]? = some x) (hy:ys[n]? = some y)
    (hQ:∀ h',ZipRec h' k1 k2 z TI TO i1 i2 a b (n + 1) (rawInt s.heap.objs.size)→IsPair h' s.heap.objs.size x y→h'.objs.size = s.heap.objs.size + 1 →
      (∀ c o,c ≠ z→c ≠ TO→c ≠ i1→c ≠ i2→s.heap.get? c = some o→h'.get? c = some o)→Q (some (.ref s.heap.objs.size)) { s with heap:=h' }) :
    wpAny (model prog w) A (pyNext (.ref z)) Q E s:=by
  have ty:s.TypeIs (.ref z) "zip":=⟨_,Z.zr,rfl⟩
  unfold pyNext
  refine wpAny_bind (wpAny_attempt (wpAny_callSpecial?_slot (name:=Str.ofString "__next__") ty F.slot_zip_next (wpAny_call_entry F.slot_zip_next ty F.entry_zip_next ?_ (F.args_zip_next_1 _))))
  exact zipK_item D Z ha hb fa fb hx hy fun h' q1 q2 q3 q4 => wpAny_pure (hQ h' q1 q2 q3 q4)
theorem nextZip_end {Q:Option Value→Shared→Prop} (hh:A.handled = none) (D:ZipFar z TI TO i1 i2) (Z:ZipRec s.heap k1 k2 z TI TO i1 i2 a b n .none) (ha:HasK k1 s.heap a xs) (hb:HasK k2 s.heap b ys)
    (fa:a ≠ z∧a ≠ TO∧a ≠ i1∧a ≠ i2) (fb:b ≠ z∧b ≠ TO∧b ≠ i1∧b ≠ i2) (hend:xs[n]? = none ∨ ys[n]? = none)
    (hQ:∀ h',(∀ c o,c ≠ z→c ≠ TO→c ≠ i1→c ≠ i2→s.heap.get? c = some o→h'.get? c = some o)→Q none { s with heap:=h' }):wpAny (model prog w) A (pyNext (.ref z)) Q E s:=by
  have ty:s.TypeIs (.ref z) "zip":=⟨_,Z.zr,rfl⟩
  unfold pyNext
  refine wpAny_bind (wpAny_attempt (wpAny_callSpecial?_slot (name:=Str.ofString "__next__") ty F.slot_zip_next (wpAny_call_entry F.slot_zip_next ty F.entry_zip_next ?_ (F.args_zip_next_1 _))))
  refine zipK_end hh D Z ha hb fa fb hend fun h' e kp he => ?_
  obtain ⟨o,ho,hc⟩:=he
  exact wpAny_bind (wpAny_isInstance (T:="StopIteration") (b:=true) ⟨o,ho,hc⟩ isSubtype_stop (wpAny_pure (hQ _ kp)))

noncomputable abbrev zG1 (h:Heap) (k1:Bool) (a:Addr):Heap:=h.push (iterObj k1 a)
noncomputable abbrev zG2 (h:Heap) (k1 k2:Bool) (a b:Addr):Heap:=(zG1 h k1 a).push (iterObj k2 b)
noncomputable abbrev zG3 (h:Heap) (k1 k2:Bool) (a b:Addr):Heap:=(zG2 h k1 k2 a b).push { cls:=.type "tuple",data:=.seq #[.ref h.objs.size,.ref (zG1 h k1 a).objs.size] }
noncomputable abbrev zG4 (h:Heap) (k1 k2:Bool) (a b:Addr):Heap:=(zG3 h k1 k2 a b).push { cls:=.type "tuple",data:=.seq #[.none,.none] }
noncomputable abbrev zG5 (h:Heap) (k1 k2:Bool) (a b:Addr):Heap:=(zG4 h k1 k2 a b).push { cls:=.type "zip",data:=.fields #[.none,.bool false,.bool false,.ref (zG2 h k1 k2 a b).objs.size,.ref (zG3 h k1 k2 a b).objs.size] }
theorem meets_zipK (k1 k2:Bool) (a b:Addr) (xs ys:Array Value):Meets (Builtin.«zip.__new__» ⟨[.type "zip",.ref a,.ref b],[]⟩) (fun _ R s => HasK k1 s.heap a xs∧HasK k2 s.heap b ys ∧
      R (.ok (.ret (.ref (zG4 s.heap k1 k2 a b).objs.size))) { s with heap:=zG5 s.heap k1 k2 a b }) :=
  .of_wp fun prog w A R s h => by
    obtain ⟨hp,g,d,tk,os⟩:=s
    obtain ⟨p1,p2,h⟩:=h
    have hsub:=sub_zip
    have q1:HasK k1 (Shared.heap ⟨hp,g,d,tk,os⟩) a xs:=p1
    have q2:HasK k2 (Shared.heap ⟨hp.push (iterObj k1 a),g,d,tk,os⟩) b ys:=p2.at fun o e => Heap.get?_push_of_some _ e
    wp_walk using iterK_new q1,iterK_new q2
    exact ⟨_,rfl,h⟩
theorem call_zipK {Q:Value→Shared→Prop} (ha:HasK k1 s.heap a xs) (hb:HasK k2 s.heap b ys)
    (h:∀ h',ZipRec h' k1 k2 (s.heap.objs.size + 4) (s.heap.objs.size + 2) (s.heap.objs.size + 3) s.heap.objs.size (s.heap.objs.size + 1) a b 0 .none→(∀ c o,s.heap.get? c = some o→h'.get? c = some o)→Q (.ref (s.heap.objs.size + 4)) { s with heap:=h' }) :
    wpAny (model prog w) A (call (.type "zip") [.ref a,.ref b]) Q E s:=by
  refine callType_new F.called_zip (by decide) (F.typeCall_zip_2 _ _) (F.newCall_zip_2 _ _) (fun obj => F.args_object_init_3 obj _ _) F.entry_zip_new (meets_zipK k1 k2 a b xs ys) ⟨ha,hb,?_⟩
  have n1:(zG1 s.heap k1 a).objs.size = s.heap.objs.size + 1:=Heap.size_push ..
  have n2:(zG2 s.heap k1 k2 a b).objs.size = s.heap.objs.size + 2:=by rw [Heap.size_push,n1]
  have n3:(zG3 s.heap k1 k2 a b).objs.size = s.heap.objs.size + 3:=by rw [Heap.size_push,n2]
  have n4:(zG4 s.heap k1 k2 a b).objs.size = s.heap.objs.size + 4:=by rw [Heap.size_push,n3]
  have up:∀ {g:Heap} {o:Obj} {c:Addr} {u:Obj},g.get? c = some u→(g.push o).get? c = some u:=fun e => Heap.get?_push_of_some _ e
  have g5:(zG5 s.heap k1 k2 a b).get? (zG4 s.heap k1 k2 a b).objs.size = some _:=Heap.get?_push_size _ rfl
  have g4:(zG5 s.heap k1 k2 a b).get? (zG3 s.heap k1 k2 a b).objs.size = some _:=up (Heap.get?_push_size _ rfl)
  have g3:(zG5 s.heap k1 k2 a b).get? (zG2 s.heap k1 k2 a b).objs.size = some _:=up (up (Heap.get?_push_size _ rfl))
  have g2:(zG5 s.heap k1 k2 a b).get? (zG1 s.heap k1 a).objs.size = some (iterObj k2 b):=up (up (up (Heap.get?_push_size _ (by cases k2 <;> rfl))))
  have g1:(zG5 s.heap k1 k2 a b).get? s.heap.objs.size = some (iterObj k1 a):=up (up (up (up (Heap.get?_push_size _ (by cases k1 <;> rfl)))))
  show _∧_
  rw [n2,n3,n4] at g5
  rw [n1,n2] at g3
  rw [n3] at g4
  rw [n1] at g2
  rw [n4]
  exact ⟨⟨_,g5,rfl⟩,h _ ⟨g5,g3,⟨_,_,g4⟩,iterObj_is g1,iterObj_is g2⟩ fun c o e => up (up (up (up (up e))))⟩
end

noncomputable def Itz (K:PySem.W.Frag) (k1 k2:Bool) (a b:Addr):It :=
  ⟨fun i H => ∃ xs ys x y,SqK k1 K H a xs∧SqK k2 K H b ys∧xs[i]? = some x∧ys[i]? = some y,
   fun i H v H' => ∃ p x y,v = .ref p∧H p = none∧H' = upd H p (.tup [x,y])∧(∀ xs,SqK k1 K H a xs→xs[i]? = some x)∧∀ ys,SqK k2 K H b ys→ys[i]? = some y,
   fun i H => ∃ xs ys,SqK k1 K H a xs∧SqK k2 K H b ys∧(xs.length ≤ i ∨ ys.length ≤ i)⟩
theorem turn_zip {P:Program} {w:World} {K:PySem.W.Frag} {elts:List Expr} {c:Nat} {pos:Pos} {k1 k2:Bool} {z TI TO i1 i2 a b:Addr} (D:ZipFar z TI TO i1 i2) (fa:a ≠ z∧a ≠ TO∧a ≠ i1∧a ≠ i2) (fb:b ≠ z∧b ≠ TO∧b ≠ i1∧b ≠ i2) :
    Turn P w K (.Tuple elts c pos) (Itz K k1 k2 a b) [z,TI,TO,i1,i2] z (fun i h => ZipRec h k1 k2 z TI TO i1 i2 a b i .none) where
  mem:=by simp
  obj:=fun i h st q hq => by
    obtain ⟨zr,zi,⟨u,v,zo⟩,z1,z2⟩:=st
    simp only [List.mem_cons,List.not_mem_nil,or_false] at hq
    rcases hq with rfl | rfl | rfl | rfl | rfl
    · exact ⟨_,zr,fun v e => nomatch e⟩
    · exact ⟨_,zi,fun v e => nomatch e⟩
    · exact ⟨_,zo,fun v e => nomatch e⟩
    · exact z1.get
    · exact z2.get
  keep:=fun i h h' st k => by
    obtain ⟨zr,zi,⟨u,v,zo⟩,z1,z2⟩:=st
    exact ⟨k _ (by simp) _ zr,k _ (by simp) _ zi,⟨u,v,k _ (by simp) _ zo⟩,z1.at fun o e => k _ (by simp) o e,z2.at fun o e => k _ (by simp) o e⟩
  item:=by
    intro X hP hw hK hc i pins s σ H E I hf st hg
    subst hP hw hK
    obtain ⟨xs,ys,x,y,sa,sb,hx,hy⟩:=hg
    obtain ⟨ia,ra,ha,za⟩:=I.hasK sa
    obtain ⟨ib,rb,hb,zb⟩:=I.hasK sb
    obtain ⟨u,hu,ru⟩:=ra.get hx
    obtain ⟨v,hv,rv⟩:=rb.get hy
    refine nextZip_item D st ha hb fa fb (x:=u) (y:=v) (by simpa using hu) (by simpa using hv) fun h' Z' t' sz' kp => ?_
    refine ⟨_,rfl,wpAny_letOwnedTupleGo_zip Z'.zr fun h'' z'' sb'' => ?_⟩
    have lt:∀ {c o},s.heap.get? c = some o→s.heap.objs.size ≠ c:=fun e => Nat.ne_of_gt (Heap.lt_size e)
    have hz:s.heap.objs.size ≠ z:=lt st.zr
    have kp2:∀ c o,c ∉ [z,TI,TO,i1,i2]→s.heap.get? c = some o→h''.get? c = some o:=fun c o hc e => by
      simp only [List.mem_cons,List.not_mem_nil,or_false,not_or] at hc
      exact sb''.extBut _ _ hc.1 (kp c o hc.1 hc.2.2.1 hc.2.2.2.1 hc.2.2.2.2 e)
    have nH:H s.heap.objs.size = none:=I.hok.fresh (Nat.le_refl _)
    have frL:∀ q ∈ [z,TI,TO,i1,i2],H q = none:=fun q hq => (hf q hq).1
    have neT:∀ q u,H q = some u→q ≠ s.heap.objs.size:=fun q u e => ne_of_none e nH
    refine ⟨.ref s.heap.objs.size,upd H s.heap.objs.size (.tup [x,y]),?_,rfl,⟨_,x,y,rfl,nH,rfl,fun xs' q => by rw [I.sqK_inj q sa]; exact hx,fun ys' q => by rw [I.sqK_inj q sb]; exact hy⟩,?_,fun q hq => ?_⟩
    · refine Inv.step (s:=s) (h':=h'') (g':=s.gens) (d':=s.drawn) (t':=s.toks) (ch:=[z,TI,TO,i1,i2]) I (fun q hq => ?_) (fun q o _ _ hc e _ => kp2 q o hc e) (fun q o _ _ hc e _ => ⟨o.slots,kp2 q o hc e⟩) (fun q o hc e n => ?_) (fun q o hc e => ⟨o,kp2 q o hc e⟩)
        (fun q xs e => by rw [upd_ne (neT q _ e)]; exact e) (fun q o u e => by rw [upd_ne (neT q _ e)]; exact e) (fun q ps e => ⟨#[],by rw [upd_ne (neT q _ e),e]; simp⟩) (fun m hm => ?_) (fun q o e => ?_) I.bare
      · exact ⟨(hf q hq).2.2.2.1,(hf q hq).2.1,(hf q hq).2.2.2.2.1,(hf q hq).2.2.2.2.2⟩
      · rw [upd_ne (fun zz => lt e zz.symm)]; exact n
      · obtain ⟨o,es,ep,ho,r⟩:=hm
        exact ⟨o,es,ep,kp2 _ o (fun hq => (hf _ hq).2.1 rfl) ho,r⟩
      · have notin:∀ q u,H q = some u→q ∉ [z,TI,TO,i1,i2]:=fun q u e hq => by rw [frL q hq] at e; cases e
        by_cases hq:q = s.heap.objs.size
        · subst hq
          rw [upd_same] at e
          cases e
          exact ⟨by show 2 ≤ sizeLine; decide,[u,v],.cons ru (.cons rv .nil),⟨_,sb''.extBut _ _ hz t',rfl,_,rfl⟩⟩
        · rw [upd_ne hq] at e
          refine (I.hok q o e).stay (fun c w' hc r => kp2 c w' ?_ r) (fun c r => by rw [upd_ne (neT c _ r)]; exact r) fun c xs r => by rw [upd_ne (neT c _ r)]; exact r
          rcases hc with rfl | hc
          · exact notin _ _ e
          · exact notin _ _ hc
    · obtain ⟨zr,zi,⟨u',v',zo⟩,z1,z2⟩:=Z'
      exact ⟨z'',sb''.extBut _ _ D.d1 zi,⟨u',v',sb''.extBut _ _ D.d2 zo⟩,z1.at fun o e => sb''.extBut _ o D.d3 e,z2.at fun o e => sb''.extBut _ o D.d4 e⟩
    · rw [upd_ne]
      · exact frL q hq
      · obtain ⟨zr,zi,⟨u',v',zo⟩,z1,z2⟩:=st
        simp only [List.mem_cons,List.not_mem_nil,or_false] at hq
        rcases hq with rfl | rfl | rfl | rfl | rfl
        · exact fun zz => lt zr zz.symm
        · exact fun zz => lt zi zz.symm
        · exact fun zz => lt zo zz.symm
        · obtain ⟨o,e,_⟩:=z1.get; exact fun zz => lt e zz.symm
        · obtain ⟨o,e,_⟩:=z2.get; exact fun zz => lt e zz.symm
  done:=by
    intro X hP hw hK hc i pins s σ H E I hf st hg
    subst hP hw hK
    obtain ⟨xs,ys,sa,sb,hx⟩:=hg
    obtain ⟨ia,ra,ha,za⟩:=I.hasK sa
    obtain ⟨ib,rb,hb,zb⟩:=I.hasK sb
    have la:=ra.length
    have lb:=rb.length
    refine nextZip_end (I.ok.hd hc) D st ha hb fa fb (hx.imp (fun q => by simp; lia) fun q => by simp; lia) fun h' kp => ⟨rfl,?_⟩
    have kp2:∀ c o,c ∉ [z,TI,TO,i1,i2]→s.heap.get? c = some o→h'.get? c = some o:=fun c o hc e => by
      simp only [List.mem_cons,List.not_mem_nil,or_false,not_or] at hc
      exact kp c o hc.1 hc.2.2.1 hc.2.2.2.1 hc.2.2.2.2 e
    have notin:∀ q u,H q = some u→q ∉ [z,TI,TO,i1,i2]:=fun q u e hq => by rw [(hf q hq).1] at e; cases e
    refine Inv.step (s:=s) (h':=h') (g':=s.gens) (d':=s.drawn) (t':=s.toks) (ch:=[z,TI,TO,i1,i2]) I (fun q hq => ?_) (fun q o _ _ hc e _ => kp2 q o hc e) (fun q o _ _ hc e _ => ⟨o.slots,kp2 q o hc e⟩) (fun _ _ _ _ n => n)
      (fun q o hq e => ?_) (fun _ _ e => e) (fun _ _ _ e => e) (fun q ps e => ⟨#[],by rw [e]; simp⟩) (fun m hm => ?_) (fun q o e => ?_) I.bare
    · exact ⟨(hf q hq).2.2.2.1,(hf q hq).2.1,(hf q hq).2.2.2.2.1,(hf q hq).2.2.2.2.2⟩
    · exact ⟨o,kp2 q o hq e⟩
    · obtain ⟨o,es,ep,ho,r⟩:=hm
      exact ⟨o,es,ep,kp2 _ o (fun hq => (hf _ hq).2.1 rfl) ho,r⟩
    · refine (I.hok q o e).stay (fun c w' hc r => kp2 c w' ?_ r) (fun _ r => r) fun _ _ r => r
      rcases hc with rfl | hc
      · exact notin _ _ e
      · exact notin _ _ hc
  self:=fun _ _ _ _ _ st h => wpAny_pyIter_zip st.zr h

noncomputable def iZip (K:PySem.W.Frag) (ta:TA):TI:=fun σ H R => ta σ H fun vs H1 => ∃ k1 k2 a b xs ys,vs = [.ref a,.ref b]∧SqK k1 K H1 a xs∧SqK k2 K H1 b ys∧R (Itz K k1 k2 a b) H1
theorem pi_zip {X:Cx} {elts:List Expr} {c:Nat} {tp:Pos} {a b:Expr} {ta:TA} {p pos:Pos} (hg:Gl X "zip") (hm:X.mg "zip" = none) (ha:PA X [a,b] ta) (hs:starEach [a,b] X.env = [(false,eval a X.env),(false,eval b X.env)]:=by rfl)
    (hs2:starEach [b] X.env = [(false,eval b X.env)]:=by rfl):PI X (.Tuple elts c tp) (.Call (.Name "zip" p) [a,b] [] pos) (iZip X.K ta):=by
  intro pins s σ H R I h
  refine Call_ (ld_blt I hg hm (u:=.type "zip") (by first | rfl | decide +kernel) (PyProof.Rows.callWith_type1 (thn (ha pos pins s σ H _ I h) fun us s1 x__70 => ?_) (by rw [hs,hs2]) (by rw [hs2]; rfl)))
  obtain ⟨vs,H1,I1,r1,q1⟩:=x__70
  obtain ⟨k1,k2,a,b,xs,ys,e,sa,sb,q⟩:=q1
  subst e
  obtain ⟨u,v,rfl,ru,rv⟩:=vals2 r1
  cases (show u = Value.ref a from ru)
  cases (show v = Value.ref b from rv)
  obtain ⟨ia,ra,ha',za⟩:=I1.hasK sa
  obtain ⟨ib,rb,hb',zb⟩:=I1.hasK sb
  refine call_zipK ha' hb' fun h' Z kp => ?_
  refine wpAny_pyIter_zip Z.zr ?_
  have la:LT.lt (α:=Nat) a s1.heap.objs.size:=ha'.lt
  have lb:LT.lt (α:=Nat) b s1.heap.objs.size:=hb'.lt
  generalize hn:s1.heap.objs.size = n at *
  refine ⟨n + 4,[n + 4,n + 2,n + 3,n,n + 1],fun i h => ZipRec h k1 k2 (n + 4) (n + 2) (n + 3) n (n + 1) a b i .none,Itz X.K k1 k2 a b,H1,rfl,I1.kept (t':=s1.toks) kp,turn_zip ?_ ?_ ?_,Z,fun q hq => ?_,q⟩
  · constructor <;> (intro e; have e':(_:Nat) = _:=e; lia)
  · refine ⟨?_,?_,?_,?_⟩ <;> (intro e; have e':(_:Nat) = _:=e; lia)
  · refine ⟨?_,?_,?_,?_⟩ <;> (intro e; have e':(_:Nat) = _:=e; lia)
  · have hq':s1.heap.objs.size ≤ q:=by
      rw [hn]
      simp only [List.mem_cons,List.not_mem_nil,or_false] at hq
      rcases hq with rfl | rfl | rfl | rfl | rfl <;> first | exact Nat.le_refl _ | exact Nat.le_add_right _ _
    exact I1.fpOk hq' (I1.hok.fresh hq')
end L2

namespace L2
open PySem PySem.Spec PyProof.Rows
section
variable {prog:Program} {w:World} {A:Around} {E:Value→Shared→Prop} {s:Shared}
theorem drawsK {k:Bool} (hh:A.handled = none) {it a:Addr} (hne:a ≠ it) (its:Array Value) :
    Draws prog w A it [it,a] its.size (fun i x => its[i]? = some x) (fun i h => IterK k h it a i∧HasK k h a its) where
  live:=fun i h st => by obtain ⟨o,e,_⟩:=st.1.get; exact ⟨o,e⟩
  frame:=fun i h h' st hk => ⟨st.1.at fun o e => hk it (by simp) o e,st.2.at fun o e => hk a (by simp) o e⟩
  item:=fun i s Q E hi st hQ => by
    have hx:its[i]? = some its[i]:=Array.getElem?_eq_getElem hi
    exact nextK_item st.1 st.2 hx fun h' q1 q2 => hQ _ h' s.toks hx ⟨q1,st.2.at fun o e => q2.extBut _ _ hne e⟩ q2
  done:=fun s Q E st hE => nextK_end hh st.1 st.2 (by simp) hE
theorem drawsEnd {k:Bool} (hh:A.handled = none) {it a:Addr} (its:Array Value) {i:Nat} (hi:its[i]? = none) :
    Draws prog w A it [it,a] i (fun _ _ => True) (fun j h => j = i∧IterK k h it a i∧HasK k h a its) where
  live:=fun _ h st => by obtain ⟨o,e,_⟩:=st.2.1.get; exact ⟨o,e⟩
  frame:=fun _ h h' st hk => ⟨st.1,st.2.1.at fun o e => hk it (by simp) o e,st.2.2.at fun o e => hk a (by simp) o e⟩
  item:=fun j s Q E hj st _ => absurd hj (by rw [st.1]; exact Nat.lt_irrefl i)
  done:=fun s Q E st hE => nextK_end hh st.2.1 st.2.2 hi hE
noncomputable abbrev eG1 (h:Heap) (k:Bool) (a:Addr):Heap:=h.push (iterObj k a)
noncomputable abbrev eG2 (h:Heap) (k:Bool) (a:Addr):Heap:=(eG1 h k a).push { cls:=.type "enumerate",data:=.fields #[.none,.bool false,.ref h.objs.size,rawInt 0,.none,.none] }
theorem meets_enumK (k:Bool) (a:Addr) (xs:Array Value):Meets (Builtin.«enumerate.__new__» ⟨[.type "enumerate",.ref a],[]⟩) (fun _ R s => HasK k s.heap a xs∧R (.ok (.ret (.ref (eG1 s.heap k a).objs.size))) { s with heap:=eG2 s.heap k a }) :=
  .of_wp fun prog w A R s h => by
    obtain ⟨hp,g,d,tk,os⟩:=s
    obtain ⟨p1,h⟩:=h
    have hsub:=sub_enumerate
    have q1:HasK k (Shared.heap ⟨hp,g,d,tk,os⟩) a xs:=p1
    wp_walk using iterK_new q1
    all_goals first | exact ⟨_,rfl,h⟩ | skip
    refine wpAny_stack_any fun st => wpAny_pure ?_
    split
    · rename_i c _ _ _ _ _
      cases (c == Value.type "enumerate")
      · wp_walk using iterK_new q1
        exact ⟨_,rfl,h⟩
      · wp_walk using iterK_new q1
        exact ⟨_,rfl,h⟩
    · wp_walk using iterK_new q1
      exact ⟨_,rfl,h⟩
theorem call_enumK {k:Bool} {a:Addr} {xs:Array Value} {Q:Value→Shared→Prop} (ha:HasK k s.heap a xs)
    (h:∀ h',IsEnum h' (s.heap.objs.size + 1) s.heap.objs.size 0 .none→IterK k h' s.heap.objs.size a 0→(∀ c o,s.heap.get? c = some o→h'.get? c = some o)→Q (.ref (s.heap.objs.size + 1)) { s with heap:=h' }) :
    wpAny (model prog w) A (call (.type "enumerate") [.ref a]) Q E s:=by
  refine callType_new F.called_enumerate (by decide) (F.typeCall_enumerate_1 _) (F.newCall_enumerate_1 _) (fun ob => F.args_object_init_2 ob _) F.entry_enumerate_new (meets_enumK k a xs) ⟨ha,?_⟩
  have n1:(eG1 s.heap k a).objs.size = s.heap.objs.size + 1:=Heap.size_push ..
  have up:∀ {g:Heap} {o:Obj} {c:Addr} {u:Obj},g.get? c = some u→(g.push o).get? c = some u:=fun e => Heap.get?_push_of_some _ e
  have g2:(eG2 s.heap k a).get? (eG1 s.heap k a).objs.size = some _:=Heap.get?_push_size _ rfl
  have g1:(eG2 s.heap k a).get? s.heap.objs.size = some (iterObj k a):=up (Heap.get?_push_size _ (by cases k <;> rfl))
  show _∧_
  rw [n1] at g2 ⊢
  exact ⟨⟨_,g2,rfl⟩,h _ g2 (iterObj_is g1) fun c o e => up (up e)⟩
end
noncomputable def Itn (K:PySem.W.Frag) (k:Bool) (a:Addr):It :=
  ⟨fun i H => ∃ xs x,SqK k K H a xs∧xs[i]? = some x,
   fun i H v H' => ∃ p x,v = .ref p∧H p = none∧H' = upd H p (.tup [.int (i:Int),x])∧∀ xs,SqK k K H a xs→xs[i]? = some x,
   fun i H => ∃ xs,SqK k K H a xs∧xs.length ≤ i⟩
structure EnRec (h:Heap) (k:Bool) (e it a:Addr) (i:Nat):Prop where
  er:∃ old,IsEnum h e it i old
  ir:IterK k h it a i
theorem turn_enum {P:Program} {w:World} {K:PySem.W.Frag} {elts:List Expr} {c:Nat} {pos:Pos} {k:Bool} {e it a:Addr} (hei:e ≠ it) (fa:a ≠ e∧a ≠ it) :
    Turn P w K (.Tuple elts c pos) (Itn K k a) [e,it] e (fun i h => EnRec h k e it a i) where
  mem:=by simp
  obj:=fun i h st q hq => by
    obtain ⟨⟨old,er⟩,ir⟩:=st
    simp only [List.mem_cons,List.not_mem_nil,or_false] at hq
    rcases hq with rfl | rfl
    · exact ⟨_,er,fun v z => nomatch z⟩
    · exact ir.get
  keep:=fun i h h' st kp => by
    obtain ⟨⟨old,er⟩,ir⟩:=st
    exact ⟨⟨old,kp _ (by simp) _ er⟩,ir.at fun o z => kp _ (by simp) o z⟩
  item:=by
    intro X hP hw hK hc i pins s σ H E I hf st hg
    subst hP hw hK
    obtain ⟨xs,x,sa,hx⟩:=hg
    obtain ⟨ia,ra,ha,za⟩:=I.hasK sa
    obtain ⟨u,hu,ru⟩:=ra.get hx
    obtain ⟨⟨old,er⟩,ir⟩:=st
    have hil:i < ia.toArray.size:=by rw [List.size_toArray]; exact (List.getElem?_eq_some_iff.mp hu).1
    refine wpAny_pyNext_enum_itemD (drawsK (A:=X.A.in1) (k:=k) (show X.A.in1.handled = none from I.ok.hd hc) fa.2 ia.toArray) er ⟨ir,ha⟩ hil hei (by simp only [List.mem_cons,List.not_mem_nil,or_false,not_or]; exact ⟨hei,Ne.symm fa.1⟩) fun y h' tk hy eo st' ht sz kp => ?_
    have hyu:y = u:=by
      have:ia[i]? = some y:=by simpa using hy
      rw [hu] at this; exact (Option.some.inj this).symm
    subst hyu
    refine ⟨_,rfl,wpAny_letOwnedTupleGo_enum eo fun h'' e'' sb'' => ?_⟩
    have lt:∀ {c o},s.heap.get? c = some o→s.heap.objs.size ≠ c:=fun z => Nat.ne_of_gt (Heap.lt_size z)
    have hz:s.heap.objs.size ≠ e:=lt er
    have kp2:∀ c o,c ∉ [e,it]→s.heap.get? c = some o→h''.get? c = some o:=fun c o hc z => by
      simp only [List.mem_cons,List.not_mem_nil,or_false,not_or] at hc
      exact sb''.extBut _ _ hc.1 (kp c o hc.1 hc.2 z)
    have nH:H s.heap.objs.size = none:=I.hok.fresh (Nat.le_refl _)
    have frL:∀ q ∈ [e,it],H q = none:=fun q hq => (hf q hq).1
    have neT:∀ q u,H q = some u→q ≠ s.heap.objs.size:=fun q u z => ne_of_none z nH
    refine ⟨.ref s.heap.objs.size,upd H s.heap.objs.size (.tup [.int (i:Int),x]),?_,rfl,⟨_,x,rfl,nH,rfl,fun xs' q => by rw [I.sqK_inj q sa]; exact hx⟩,?_,fun q hq => ?_⟩
    · refine Inv.step (s:=s) (h':=h'') (g':=s.gens) (d':=s.drawn) (t':=tk + 1) (ch:=[e,it]) I (fun q hq => ?_) (fun q o _ _ hc z _ => kp2 q o hc z) (fun q o _ _ hc z _ => ⟨o.slots,kp2 q o hc z⟩) (fun q o hc z n => ?_) (fun q o hc z => ⟨o,kp2 q o hc z⟩)
        (fun q xs z => by rw [upd_ne (neT q _ z)]; exact z) (fun q o u z => by rw [upd_ne (neT q _ z)]; exact z) (fun q ps z => ⟨#[],by rw [upd_ne (neT q _ z),z]; simp⟩) (fun m hm => ?_) (fun q o z => ?_) I.bare
      · exact ⟨(hf q hq).2.2.2.1,(hf q hq).2.1,(hf q hq).2.2.2.2.1,(hf q hq).2.2.2.2.2⟩
      · rw [upd_ne (fun zz => lt z zz.symm)]; exact n
      · obtain ⟨o,es,ep,ho,r⟩:=hm
        exact ⟨o,es,ep,kp2 _ o (fun hq => (hf _ hq).2.1 rfl) ho,r⟩
      · have notin:∀ q u,H q = some u→q ∉ [e,it]:=fun q u z hq => by rw [frL q hq] at z; cases z
        by_cases hq:q = s.heap.objs.size
        · subst hq
          rw [upd_same] at z
          cases z
          exact ⟨by show 2 ≤ sizeLine; decide,[.int (i:Int) tk,y],.cons ⟨_,rfl⟩ (.cons ru .nil),⟨_,sb''.extBut _ _ hz ht,rfl,_,rfl⟩⟩
        · rw [upd_ne hq] at z
          refine (I.hok q o z).stay (fun c w' hc r => kp2 c w' ?_ r) (fun c r => by rw [upd_ne (neT c _ r)]; exact r) fun c xs r => by rw [upd_ne (neT c _ r)]; exact r
          rcases hc with rfl | hc
          · exact notin _ _ z
          · exact notin _ _ hc
    · exact ⟨⟨_,by simpa using e''⟩,st'.1.at fun o z => sb''.extBut _ o (Ne.symm hei) z⟩
    · rw [upd_ne]
      · exact frL q hq
      · simp only [List.mem_cons,List.not_mem_nil,or_false] at hq
        rcases hq with rfl | rfl
        · exact fun zz => lt er zz.symm
        · obtain ⟨o,z,_⟩:=ir.get; exact fun zz => lt z zz.symm
  done:=by
    intro X hP hw hK hc i pins s σ H E I hf st hg
    subst hP hw hK
    obtain ⟨xs,sa,hx⟩:=hg
    obtain ⟨ia,ra,ha,za⟩:=I.hasK sa
    obtain ⟨⟨old,er⟩,ir⟩:=st
    have la:=ra.length
    refine wpAny_pyNext_enum_endD (drawsEnd (A:=X.A.in1) (k:=k) (it:=it) (a:=a) (show X.A.in1.handled = none from I.ok.hd hc) ia.toArray (i:=i) (by simp; lia)) er ⟨rfl,ir,ha⟩ fun h' kp => ⟨rfl,?_⟩
    have kp2:∀ c o,c ∉ [e,it]→s.heap.get? c = some o→h'.get? c = some o:=fun c o hc z => by
      simp only [List.mem_cons,List.not_mem_nil,or_false,not_or] at hc
      exact kp c o hc.2 z
    have notin:∀ q u,H q = some u→q ∉ [e,it]:=fun q u z hq => by rw [(hf q hq).1] at z; cases z
    refine Inv.step (s:=s) (h':=h') (g':=s.gens) (d':=s.drawn) (t':=s.toks) (ch:=[e,it]) I (fun q hq => ?_) (fun q o _ _ hc z _ => kp2 q o hc z) (fun q o _ _ hc z _ => ⟨o.slots,kp2 q o hc z⟩) (fun _ _ _ _ n => n)
      (fun q o hq z => ⟨o,kp2 q o hq z⟩) (fun _ _ z => z) (fun _ _ _ z => z) (fun q ps z => ⟨#[],by rw [z]; simp⟩) (fun m hm => ?_) (fun q o z => ?_) I.bare
    · exact ⟨(hf q hq).2.2.2.1,(hf q hq).2.1,(hf q hq).2.2.2.2.1,(hf q hq).2.2.2.2.2⟩
    · obtain ⟨o,es,ep,ho,r⟩:=hm
      exact ⟨o,es,ep,kp2 _ o (fun hq => (hf _ hq).2.1 rfl) ho,r⟩
    · refine (I.hok q o z).stay (fun c w' hc r => kp2 c w' ?_ r) (fun _ r => r) fun _ _ r => r
      rcases hc with rfl | hc
      · exact notin _ _ z
      · exact notin _ _ hc
  self:=fun _ _ _ _ _ st h => by obtain ⟨⟨old,er⟩,_⟩:=st; exact wpAny_pyIter_enum er h
noncomputable def iEnum (K:PySem.W.Frag) (ta:TA):TI:=fun σ H R => ta σ H fun vs H1 => ∃ k a xs,vs = [.ref a]∧SqK k K H1 a xs∧R (Itn K k a) H1
theorem pi_enum {X:Cx} {elts:List Expr} {c:Nat} {tp:Pos} {a:Expr} {ta:TA} {p pos:Pos} (hg:Gl X "enumerate") (hm:X.mg "enumerate" = none) (ha:PA X [a] ta) (hs:starEach [a] X.env = [(false,eval a X.env)]:=by rfl) :
    PI X (.Tuple elts c tp) (.Call (.Name "enumerate" p) [a] [] pos) (iEnum X.K ta):=by
  intro pins s σ H R I h
  refine Call_ (ld_blt I hg hm (u:=.type "enumerate") (by first | rfl | decide +kernel) (PyProof.Rows.callWith_type1 (thn (ha pos pins s σ H _ I h) fun us s1 x__71 => ?_) (by rw [hs]; rfl) rfl))
  obtain ⟨vs,H1,I1,r1,q1⟩:=x__71
  obtain ⟨k,a,xs,e,sa,q⟩:=q1
  subst e
  obtain ⟨u,rfl,ru⟩:=vals1 r1
  cases (show u = Value.ref a from ru)
  obtain ⟨ia,ra,ha',za⟩:=I1.hasK sa
  refine call_enumK ha' fun h' En It kp => ?_
  refine wpAny_pyIter_enum En ?_
  have la:LT.lt (α:=Nat) a s1.heap.objs.size:=ha'.lt
  generalize hn:s1.heap.objs.size = n at *
  refine ⟨n + 1,[n + 1,n],fun i h => EnRec h k (n + 1) n a i,Itn X.K k a,H1,rfl,I1.kept (t':=s1.toks) kp,turn_enum ?_ ?_,⟨⟨_,En⟩,It⟩,fun q hq => ?_,q⟩
  · intro e; have e':n + 1 = n:=e; lia
  · refine ⟨?_,?_⟩ <;> (intro e; have e':(_:Nat) = _:=e; lia)
  · have hq':s1.heap.objs.size ≤ q:=by
      simp only [List.mem_cons,List.not_mem_nil,or_false] at hq
      rw [hn]
      rcases hq with rfl | rfl <;> first | exact Nat.le_refl _ | exact Nat.le_succ _
    exact I1.fpOk hq' (I1.hok.fresh hq')
end L2

namespace L2
open PySem PySem.Spec PyProof.Rows
section
variable {prog:Program} {w:World} {A:Around} {E:Value→Shared→Prop} {s:Shared}
end
end L2

namespace L2
open PySem PySem.Spec PyProof.Rows
section
variable {prog:Program} {w:World} {A:Around} {E:Value→Shared→Prop} {s:Shared}
theorem draw_list {it t:Addr} {items:Array Value} (hne:t ≠ it):∀ (n i:Nat) (s:Shared) (Q:List Value→Shared→Prop),s.heap.IsListIter it t i→s.heap.IsList t items→i + n ≤ items.size →
    (∀ h',h'.IsListIter it t (i + n)→Heap.SameBut it s.heap h'→Q ((items.toList.drop i).take n) { s with heap:=h' })→wpAny (model prog w) A (draw (.ref it) n) Q E s
  | 0,i,s,Q,hit,_,_,hQ => by
    show wpAny _ _ (pure []) Q E s
    exact wpAny_pure (by simpa using hQ s.heap hit (Heap.SameBut.refl ..))
  | n + 1,i,s,Q,hit,ht,hle,hQ => by
    have hlt:i < items.size:=by lia
    show wpAny _ _ (pyNext (.ref it) >>= _) Q E s
    refine wpAny_bind (wpAny_pyNext_list_item hit ht (x:=items[i]) (by simp [hlt]) fun h₁ hit₁ hs₁ => ?_)
    refine wpAny_bind (wpAny_holding (draw_list hne n (i + 1) _ _ hit₁ (ht.extBut hs₁.extBut hne) (by lia) fun h₂ hit₂ hs₂ => wpAny_pure ?_))
    have hd:items.toList.drop i = items[i] :: items.toList.drop (i + 1):=by simp [List.drop_eq_getElem_cons,hlt]
    have:=hQ h₂ (by rw [show i + (n + 1) = i + 1 + n by lia]; exact hit₂) (hs₁.trans hs₂)
    rw [hd,List.take_succ_cons] at this
    exact this
theorem unpackItems_list {t:Addr} {items:Array Value} {Q:List Value→Shared→Prop} (hh:A.handled = none) (ht:s.heap.IsList t items)
    (hQ:∀ h',Heap.ExtBut s.heap.objs.size s.heap h'→Q items.toList { s with heap:=h' }):wpAny (model prog w) A (unpackItems (.ref t) items.size none) Q E s:=by
  have hlt:t ≠ s.heap.objs.size:=by obtain ⟨o,ho,_⟩:=ht; exact Nat.ne_of_lt (Heap.lt_size ho)
  unfold unpackItems
  refine wpAny_bind ?_
  · unfold notIterableAtAll
    refine wpAny_bind (wpAny_specialOf ht.typeIs F.slot_list_iter.lookup ?_)
    refine wpAny_pure ?_
    simp only [Bool.false_eq_true,if_false]
    refine wpAny_bind (wpAny_holding (wpAny_pyIter_list ht ?_))
    refine wpAny_bind (wpAny_holding (draw_list hlt items.size 0 _ _ ⟨_,Heap.get?_push_size _ rfl,rfl,rfl⟩ (ht.push _) (by lia) fun h₁ hit₁ hs₁ => ?_))
    have hall:List.take items.size (List.drop 0 items.toList) = items.toList:=by
      rw [List.drop_zero]; exact List.take_of_length_le (by simp)
    rw [hall]
    rw [if_neg (by simp)]
    have ht₁:h₁.IsList t items:=(ht.push _).extBut hs₁.extBut hlt
    refine wpAny_bind (wpAny_holding (wpAny_pyNext_list_end hh hit₁ ht₁ (by simp) fun h₂ he₂ => ?_))
    simp only [Option.isSome_none,Bool.false_eq_true,if_false]
    refine wpAny_pure (hQ h₂ fun b o hb e => he₂ b o hb (hs₁.extBut b o hb (Heap.get?_push_of_some _ e)))
theorem assign_Tuple_list {env:Env} {elts:List Expr} {x1:Nat} {pos:Pos} {t:Addr} {items:Array Value} {Q:Unit→Shared→Prop} (hh:A.handled = none) (ht:s.heap.IsList t items)
    (hn:(assignEach elts env).length = items.size) (hstar:(assignEach elts env).findIdx? (·.1) = none)
    (h:∀ h',Heap.ExtBut s.heap.objs.size s.heap h'→wpAny (model prog w) A (assignInOrder ((assignEach elts env).map (·.2)) items.toList) Q E { s with heap:=h' }) :
    wpAny (model prog w) A (assign (.Tuple elts x1 pos) env (.ref t)) Q E s:=by
  rw [assign_Tuple]
  refine wpAny_bind (wpAny_standAt ?_)
  unfold unpack
  rw [hn,hstar]
  exact wpAny_bind (wpAny_holding (unpackItems_list hh ht h))
end
section
variable {X:Cx} {pos:Pos}
noncomputable def gSeqT (K:PySem.W.Frag) (n:Nat) (t:TGs):TG:=fun v σ H Q => ∃ a xs,v = .ref a∧(SqT K H a xs ∨ SqL K H a xs)∧xs.length = n∧t xs σ H Q
theorem pg_seqT {es:List Expr} {k:Nat} {t:TGs} {n:Nat} (hc:X.calm = true) (h:PGs X es t)
    (hn:(assignEach es X.env).length = n:=by rfl) (hst:(assignEach es X.env).findIdx? (·.1) = none:=by rfl):PG X (.Tuple es k pos) (gSeqT X.K n t):=by
  intro pins s σ H v u Q I r hw
  obtain ⟨a,xs,e1,hq,hl,hw⟩:=hw
  rcases hq with hq | hq
  · exact pg_tup hc h hn hst pins s σ H v u Q I r ⟨a,xs,e1,hq,hl,hw⟩
  · subst e1
    cases r
    obtain ⟨its,rv,pl,hz⟩:=I.list hq
    refine assign_Tuple_list (I.ok.hd hc) pl.isList (by simp [hn,← hl,rv.length]) hst fun h' hx => ?_
    have I1:Inv X pins σ H { s with heap:=h' }:=I.kept (t':=s.toks) fun b o e => hx b o (Nat.ne_of_lt (Heap.lt_size e)) e
    exact h pins _ σ H xs _ Q I1 (by simpa using rv) hw
end
end L2

namespace L2
open PySem PySem.Spec PyProof.Rows
theorem owner_rev:Manifest.owners.lookup (String.ofList ['d','e','s','r','e','v','e','r'].reverse) = some Manifest.sig_reversed:=by kernel_rfl
theorem slot_rev_next:Slot "reversed" "__next__" "reversed.__next__":=.of (owner:="reversed") (n:="__next__") (by rw [typeLookup_type,builtinLookup_eq_fast]; kernel_rfl) (by decide +kernel) (by decide +kernel) (by decide +kernel) (by first | exact .inl (by decide +kernel) | exact .inr (by decide +kernel)) (by rw [isSubtype_type]; kernel_rfl)
theorem entry_rev_next:entryFor table "reversed.__next__" = some Builtin.«reversed.__next__»:=entryFor_of_tree (by kernel_rfl)
theorem args_rev_next (a:Value):argsOk "reversed.__next__" ⟨[a],[]⟩:=by
  unfold argsOk; rw [signature?_of (id:="reversed.__next__") (n:=['_','_','t','x','e','n','_','_']) (o:=['d','e','s','r','e','v','e','r']) (by kernel_rfl) owner_rev]; kernel_rfl
theorem slot_rev_iter:Slot "reversed" "__iter__" "reversed.__iter__":=.of (owner:="reversed") (n:="__iter__") (by rw [typeLookup_type,builtinLookup_eq_fast]; kernel_rfl) (by decide +kernel) (by decide +kernel) (by decide +kernel) (by first | exact .inl (by decide +kernel) | exact .inr (by decide +kernel)) (by rw [isSubtype_type]; kernel_rfl)
theorem args_rev_iter (a:Value):argsOk "reversed.__iter__" ⟨[a],[]⟩:=by
  unfold argsOk; rw [signature?_of (id:="reversed.__iter__") (n:=['_','_','r','e','t','i','_','_']) (o:=['d','e','s','r','e','v','e','r']) (by kernel_rfl) owner_rev]; kernel_rfl
theorem entry_rev_iter:entryFor table "reversed.__iter__" = some Builtin.«dict_keyiterator.__iter__»:=entryFor_alias (id':="dict_keyiterator.__iter__") (by kernel_rfl) (by first | rfl | decide +kernel | (unfold String.splitOn; simp +decide [String.splitOnAux])) (by decide +kernel) (by kernel_rfl)
theorem slot_rev_init:Slot "reversed" "__init__" "object.__init__":=.of (owner:="object") (n:="__init__") (by rw [typeLookup_type,builtinLookup_eq_fast]; kernel_rfl) (by decide +kernel) (by decide +kernel) (by decide +kernel) (by first | exact .inl (by decide +kernel) | exact .inr (by decide +kernel)) (by rw [isSubtype_type]; kernel_rfl)
theorem called_rev:TypeCalled "reversed" "reversed.__new__" "object.__init__":=⟨by decide +kernel,F.create_reversed,⟨_,_,F.mro_reversed⟩,F.made_reversed,F.plain_reversed_new,F.sub_reversed_self,slot_rev_init⟩
theorem tuple_no_rev:typeLookup (.type "tuple") "__reversed__" = pure none:=by rw [typeLookup_type,builtinLookup_eq_fast]; kernel_rfl
noncomputable def revT (t:Addr) (i:Int):Obj:={ cls:=.type "reversed",data:=.fields #[.ref t,rawInt i] }
noncomputable def IsRevT (h:Heap) (it t:Addr) (i:Int):Prop:=h.get? it = some (revT t i)
section
variable {prog:Program} {w:World} {A:Around} {E:Value→Shared→Prop} {s:Shared}
theorem meets_revt (t:Addr) (items:Array Value) (hz:items.size ≤ sizeLine):Meets (Builtin.«reversed.__new__» ⟨[.type "reversed",.ref t],[]⟩) (fun _ R s => IsTup s.heap t items∧R (.ok (.ret (.ref s.heap.objs.size))) { s with heap:=s.heap.push (revT t ((items.size:Int) - 1)),toks:=s.toks + 1 + 1 }) :=
  .of_wp fun prog w A R s h => by
    obtain ⟨ht,h⟩:=h
    unfold Builtin.«reversed.__new__»
    refine wpAny_bind (wpAny_of_eq (newClass_reversed _) ?_)
    refine wpAny_bind (wpAny_of_eq (a:=()) (by first | rfl | kernel_rfl) ?_)
    refine wpAny_bind (wpAny_of_eq (a:=()) (by first | rfl | kernel_rfl) ?_)
    refine wpAny_bind (wpAny_specialOf ht.typeIs tuple_no_rev ?_)
    refine wpAny_bind ?_
    show wpAny (model prog w) _ (isInstance (.ref t) (.type "dict") >>= _) _ _ _
    refine wpAny_bind (wpAny_isInstance ht.typeIs F.sub_tuple_dict ?_)
    show wpAny (model prog w) _ (specialOf (.ref t) (Str.ofString "__getitem__") >>= _) _ _ _
    refine wpAny_bind (wpAny_specialOf ht.typeIs slot_tuple_getitem.lookup ?_)
    refine wpAny_pure ?_
    show wpAny (model prog w) _ (call (.builtin "len") [.ref t] >>= _) _ _ _
    refine wpAny_bind (len_tuple ht (Int.lt_of_le_of_lt (Int.ofNat_le.mpr hz) (by decide)) ?_)
    show wpAny (model prog w) _ (asInt? (.int (items.size:Int) (s.toks + 1)) >>= _) _ _ _
    refine wpAny_bind (wpAny_of_eq (a:=some (items.size:Int)) rfl ?_)
    show wpAny (model prog w) _ (newObj (.type "reversed") (.fields #[.ref t,rawInt ((items.size:Int) - 1)]) >>= _) _ _ _
    refine wpAny_bind (wpAny_newObj_type (wpAny_pure ⟨_,rfl,h⟩))
theorem call_reversed_tuple {t:Addr} {items:Array Value} {Q:Value→Shared→Prop} (ht:IsTup s.heap t items) (hz:items.size ≤ sizeLine)
    (h:Q (.ref s.heap.objs.size) { s with heap:=s.heap.push (revT t ((items.size:Int) - 1)),toks:=s.toks + 1 + 1 }):wpAny (model prog w) A (call (.type "reversed") [.ref t]) Q E s :=
  callType_new called_rev (by decide) (F.typeCall_reversed_1 _) (F.newCall_reversed_1 _) (fun obj => F.args_object_init_2 obj _) F.entry_reversed_new (meets_revt t items hz) ⟨ht,⟨_,Heap.get?_push_size _ rfl,rfl⟩,h⟩
theorem nextRevT_item {it t:Addr} {i:Nat} {items:Array Value} {x:Value} {Q:Option Value→Shared→Prop} (hit:IsRevT s.heap it t (i:Int)) (ht:IsTup s.heap t items) (hx:items[i]? = some x) (hz:items.size ≤ sizeLine)
    (hQ:∀ h',IsRevT h' it t ((i:Int) - 1)→Heap.SameBut it s.heap h'→Q (some x) { s with heap:=h',toks:=s.toks + 1 }):wpAny (model prog w) A (pyNext (.ref it)) Q E s:=by
  have ty:s.TypeIs (.ref it) "reversed":=⟨_,hit,rfl⟩
  have il:i < items.size:=by
    rcases Nat.lt_or_ge i items.size with h | h
    · exact h
    · rw [Array.getElem?_eq_none h] at hx; cases hx
  unfold pyNext
  refine wpAny_bind (wpAny_attempt (wpAny_callSpecial?_slot (name:=Str.ofString "__next__") ty slot_rev_next (wpAny_call_entry slot_rev_next ty entry_rev_next ?_ (args_rev_next _))))
  unfold Builtin.«reversed.__next__»
  refine wpAny_bind (wpAny_of_eq (a:=(Value.ref it,[])) rfl ?_)
  refine wpAny_bind (wpAny_field hit rfl (x:=.ref t) rfl ?_)
  refine wpAny_bind (wpAny_field hit rfl (x:=rawInt (i:Int)) rfl ?_)
  show wpAny _ _ (if (i:Int) < 0 then _ else _) _ _ s
  rw [if_neg (by lia)]
  show wpAny (model prog w) _ (specialOf (.ref t) (Str.ofString "__getitem__") >>= _) _ _ s
  refine wpAny_bind (wpAny_specialOf ht.typeIs slot_tuple_getitem.lookup ?_)
  show wpAny (model prog w) _ (mkInt (i:Int) >>= _) _ _ s
  refine wpAny_bind (wpAny_mkInt ?_)
  have li:(i:Int) < 2 ^ 63:=Int.lt_of_lt_of_le (Int.ofNat_lt.mpr (Nat.lt_of_lt_of_le il hz)) (by decide)
  have hj:seqIndex? (i:Int) items.size = some i:=by
    unfold seqIndex?
    simp
    lia
  refine wpAny_bind (wpAny_attempt (getItem_tuple (s:={ s with toks:=s.toks + 1 }) (j:=i) ht (by lia) li hj hx ?_))
  show wpAny (model prog w) _ (field (.ref it) 1 >>= _) _ _ _
  refine wpAny_bind (wpAny_field (s:={ s with toks:=s.toks + 1 }) hit rfl (x:=rawInt (i:Int)) rfl ?_)
  show wpAny (model prog w) _ (setField (.ref it) 1 (rawInt ((i:Int) - 1)) >>= _) _ _ _
  refine wpAny_bind (wpAny_setField_rec (s:={ s with toks:=s.toks + 1 }) hit (by simp) fun g1 r1 e1 => ?_)
  exact wpAny_pure ⟨x,rfl,wpAny_pure (hQ g1 r1 e1)⟩
theorem nextRevT_end {it t:Addr} {Q:Option Value→Shared→Prop} (hh:A.handled = none) (hit:IsRevT s.heap it t (-1)) (hQ:∀ h',Heap.ExtBut it s.heap h'→Q none { s with heap:=h' }):wpAny (model prog w) A (pyNext (.ref it)) Q E s:=by
  have ty:s.TypeIs (.ref it) "reversed":=⟨_,hit,rfl⟩
  unfold pyNext
  refine wpAny_bind (wpAny_attempt (wpAny_callSpecial?_slot (name:=Str.ofString "__next__") ty slot_rev_next (wpAny_call_entry slot_rev_next ty entry_rev_next ?_ (args_rev_next _))))
  unfold Builtin.«reversed.__next__»
  refine wpAny_bind (wpAny_of_eq (a:=(Value.ref it,[])) rfl ?_)
  refine wpAny_bind (wpAny_field hit rfl (x:=.ref t) rfl ?_)
  refine wpAny_bind (wpAny_field hit rfl (x:=rawInt (-1)) rfl ?_)
  show wpAny (model prog w) _ (if (-1:Int) < 0 then _ else _) _ _ s
  rw [if_pos (by decide)]
  refine wpAny_bind (wpAny_rule ?_)
  show wpAny (model prog w) _ ((setField (.ref it) 1 (rawInt (-1)) >>= fun _ => setField (.ref it) 0 .none) >>= _) _ _ s
  refine wpAny_bind (wpAny_bind (wpAny_setField_rec hit (by simp) fun g1 r1 e1 => wpAny_setField_rec (s:={ s with heap:=g1 }) r1 (by simp) fun g2 r2 e2 => ?_))
  show wpAny (model prog w) _ ((newExc (.type "StopIteration") [] >>= _) >>= _) _ _ _
  refine wpAny_bind (wpAny_bind ?_)
  simp only [newExc,newTuple]
  refine wpAny_bind (wpAny_newObj_type ?_ (by size_fits))
  refine wpAny_bind (m:=firstArgMember _ _) (wpAny_of_eq (a:=Value.none) (by first | rfl | (simp only [firstArgMember]; rfl)) (wpAny_newObj_type ?_ (by size_fits)))
  simp only [raiseNew]
  refine wpAny_bind (wpAny_handled ?_)
  first | rw [show A.in1.handled = none from hh] | rw [hh]
  refine wpAny_bind (wpAny_pure (wpAny_throw ?_))
  exact wpAny_bind (wpAny_isInstance (T:="StopIteration") (b:=true) ⟨_,Heap.get?_push_size _ rfl,rfl⟩ isSubtype_stop (wpAny_pure (hQ _ (((e1.extBut.trans e2.extBut).push _).push _))))
theorem iterRevT {it t:Addr} {i:Int} {Q:Value→Shared→Prop} (hit:IsRevT s.heap it t i) (h:Q (.ref it) s):wpAny (model prog w) A (pyIter (.ref it)) Q E s:=by
  have ty:s.TypeIs (.ref it) "reversed":=⟨_,hit,rfl⟩
  refine wpAny_pyIter_slot ty slot_rev_iter (wpAny_call_entry slot_rev_iter ty entry_rev_iter ?_ (args_rev_iter _))
  exact wpAny_pure ⟨_,rfl,"reversed",_,ty,slot_rev_next.lookup,h⟩
end
noncomputable def Itb (k:Bool) (K:PySem.W.Frag) (a:Addr) (xs:List V):It :=
  ⟨fun i H => SqK k K H a xs∧i < xs.length,fun i H x H' => H' = H∧xs[xs.length - 1 - i]? = some x,fun i _ => xs.length ≤ i⟩
noncomputable def RevAt (k:Bool) (h:Heap) (it a:Addr) (i:Int):Prop:=if k = true then h.IsRevIter it a i else IsRevT h it a i
theorem RevAt.at {k:Bool} {h h':Heap} {it a:Addr} {i:Int} (x:RevAt k h it a i) (e:∀ o,h.get? it = some o→h'.get? it = some o):RevAt k h' it a i:=by
  cases k with
  | true => exact Heap.IsRevIter.at (show h.IsRevIter it a i from x) e
  | false => exact e _ (show IsRevT h it a i from x)
theorem RevAt.get {k:Bool} {h:Heap} {it a:Addr} {i:Int} (x:RevAt k h it a i):∃ o n vs,h.get? it = some o∧o.cls = .type n∧o.data = .fields vs∧(["enumerate","zip","dict_itemiterator","dict_reverseitemiterator","odict_iterator","itertools.zip_longest","itertools.pairwise"].contains n = false):=by
  cases k with
  | true => obtain ⟨o,e,c,d⟩:=(show h.IsRevIter it a i from x); exact ⟨o,_,_,e,c,d,by decide⟩
  | false => exact ⟨_,"reversed",_,(show IsRevT h it a i from x),rfl,rfl,by decide⟩
theorem turn_back {P:Program} {w:World} {K:PySem.W.Frag} {tg:Expr} (k:Bool) (a it:Addr) (xs:List V):Turn P w K tg (Itb k K a xs) [it] it (fun i h => i ≤ xs.length∧RevAt k h it a ((xs.length:Int) - 1 - (i:Int))) where
  mem:=by simp
  obj:=fun i h st b hb => by
    have e:b = it:=by simpa using hb
    subst e
    obtain ⟨o,n,vs,e,_,d,_⟩:=st.2.get
    exact ⟨o,e,fun v z => by rw [d] at z; cases z⟩
  keep:=fun i h h' st kp => ⟨st.1,st.2.at fun o e => kp it (by simp) o e⟩
  item:=by
    intro X hP hw hK hc i pins s σ H E I hf st hg
    subst hP hw hK
    obtain ⟨f0,f1,f2,f3,f4,f5⟩:=hf it (by simp)
    obtain ⟨sq,hlt⟩:=hg
    obtain ⟨hi,st⟩:=st
    obtain ⟨its,rv,ha,hz⟩:=I.hasK sq
    obtain ⟨x,hx⟩:∃ x,xs[xs.length - 1 - i]? = some x:=⟨_,List.getElem?_eq_getElem (by omega)⟩
    obtain ⟨u,hu,ru⟩:=rv.get hx
    have hu':its.toArray[xs.length - 1 - i]? = some u:=by simpa using hu
    have e1:((xs.length - 1 - i:Nat):Int) = (xs.length:Int) - 1 - (i:Int):=by omega
    have e2:((xs.length - 1 - i:Nat):Int) - 1 = (xs.length:Int) - 1 - ((i + 1:Nat):Int):=by lia
    have fin:∀ h' t',RevAt k h' it a ((xs.length:Int) - 1 - ((i + 1:Nat):Int))→Heap.SameBut it s.heap h'→∃ u',some u = some u'∧wpAny (model X.prog X.w) X.A (letOwnedTupleGo tg (.ref it) u') (fun _ s2 => Yl X pins σ (Itb k X.K a xs) i H [it] (fun i h => i ≤ xs.length∧RevAt k h it a ((xs.length:Int) - 1 - (i:Int))) u' s2) E { s with heap:=h',toks:=t' }:=fun h' t' r' sb => by
      obtain ⟨o,n,vs,eo,ec,ed,hn⟩:=r'.get
      exact ⟨u,rfl,go_of (s:={ s with heap:=h',toks:=t' }) eo ec ed hn ⟨x,H,I.turned (fun b o hb e => (sb.2 b hb).trans e) f0 f1 f3 f4 f5,ru,⟨rfl,hx⟩,⟨by lia,r'⟩,fun b hb => (hf b hb).1⟩⟩
    rw [← e1] at st
    cases k with
    | true => exact wpAny_pyNext_rev_item st ha hu' fun h' r' sb => fin h' s.toks (by rw [← e2]; exact r') sb
    | false => exact nextRevT_item st ha hu' (by rw [List.size_toArray,← rv.length]; exact hz) fun h' r' sb => fin h' (s.toks + 1) (by rw [← e2]; exact r') sb
  done:=by
    intro X hP hw hK hc i pins s σ H E I hf st hg
    subst hP hw hK
    obtain ⟨f0,f1,f2,f3,f4,f5⟩:=hf it (by simp)
    obtain ⟨hi,st⟩:=st
    have hg':xs.length ≤ i:=hg
    rw [show (xs.length:Int) - 1 - (i:Int) = -1 by lia] at st
    cases k with
    | true => exact wpAny_pyNext_rev_end (I.ok.hd hc) st fun h' eb => ⟨rfl,I.turned (t':=s.toks) (fun b o hb e => eb b o hb e) f0 f1 f3 f4 f5⟩
    | false => exact nextRevT_end (I.ok.hd hc) st fun h' eb => ⟨rfl,I.turned (t':=s.toks) (fun b o hb e => eb b o hb e) f0 f1 f3 f4 f5⟩
  self:=fun A i s Q E st h => by
    cases k with
    | true => exact wpAny_pyIter_revIter st.2 h
    | false => exact iterRevT st.2 h
noncomputable def iBack (K:PySem.W.Frag) (ta:TA):TI:=fun σ H R => ta σ H fun vs H1 => ∃ k a xs,vs = [.ref a]∧SqK k K H1 a xs∧R (Itb k K a xs) H1
theorem pi_back {X:Cx} {tg a:Expr} {ta:TA} {p pos:Pos} (hg:Gl X "reversed") (hm:X.mg "reversed" = none) (ha:PA X [a] ta) (hs:starEach [a] X.env = [(false,eval a X.env)]:=by rfl):PI X tg (.Call (.Name "reversed" p) [a] [] pos) (iBack X.K ta):=by
  intro pins s σ H R I h
  refine Call_ (ld_blt I hg hm (u:=.type "reversed") (by first | rfl | decide +kernel) (PyProof.Rows.callWith_type1 (thn (ha pos pins s σ H _ I h) fun us s1 x__72 => ?_) hs rfl))
  obtain ⟨vs,H1,I1,r1,q1⟩:=x__72
  obtain ⟨k,a,xs,e,sa,q⟩:=q1
  subst e
  obtain ⟨u,rfl,ru⟩:=vals1 r1
  cases (show u = Value.ref a from ru)
  obtain ⟨its,rv,ha',hz⟩:=I1.hasK sa
  have hl:its.toArray.size = xs.length:=by rw [List.size_toArray,← rv.length]
  have fin:∀ (o:Obj) t',(s1.heap.push o).get? s1.heap.objs.size = some o→RevAt k (s1.heap.push o) s1.heap.objs.size a ((xs.length:Int) - 1 - ((0:Nat):Int))→wpAny (model X.prog X.w) X.A (pyIter (.ref s1.heap.objs.size)) (PIE X pins σ tg R) X.xe { s1 with heap:=s1.heap.push o,toks:=t' }:=fun o t' e st => by
    refine (turn_back (P:=X.prog) (w:=X.w) (K:=X.K) (tg:=tg) k a s1.heap.objs.size xs).self X.A 0 { s1 with heap:=s1.heap.push o,toks:=t' } _ _ ⟨Nat.zero_le _,st⟩ ?_
    exact ⟨s1.heap.objs.size,[s1.heap.objs.size],_,Itb k X.K a xs,H1,rfl,I1.kept (t':=t') fun b o e => Heap.get?_push_of_some _ e,turn_back k a s1.heap.objs.size xs,⟨Nat.zero_le _,st⟩,fun b hb => by
      have e:b = s1.heap.objs.size:=by simpa using hb
      rw [e]
      exact I1.fpOk (Nat.le_refl _) (I1.hok.fresh (Nat.le_refl _)),q⟩
  have e0:(xs.length:Int) - 1 - ((0:Nat):Int) = (its.toArray.size:Int) - 1:=by rw [hl]; lia
  cases k with
  | true =>
    refine call_reversed_list (show s1.heap.IsList a its.toArray from ha') ?_
    have e9:(s1.heap.push (revObj a ((its.toArray.size:Int) - 1))).get? s1.heap.objs.size = some (revObj a ((its.toArray.size:Int) - 1)):=Heap.get?_push_size _ rfl
    exact fin _ s1.toks e9 (by rw [e0]; exact ⟨_,e9,rfl,rfl⟩)
  | false =>
    refine call_reversed_tuple (show IsTup s1.heap a its.toArray from ha') (by rw [hl]; exact hz) ?_
    have e9:(s1.heap.push (revT a ((its.toArray.size:Int) - 1))).get? s1.heap.objs.size = some (revT a ((its.toArray.size:Int) - 1)):=Heap.get?_push_size _ rfl
    exact fin _ (s1.toks + 1 + 1) e9 (by rw [e0]; exact e9)
end L2

namespace L2
open PySem PySem.Spec PyProof.Rows
structure ZipRec2 (h:Heap) (k1 k2:Bool) (z TI TO i1 i2 a b:Addr) (n:Nat) (B:Addr):Prop where
  zr:∃ f1:Bool,h.get? z = some { cls:=.type "zip",data:=.fields #[rawInt B,.bool f1,.bool false,.ref TI,.ref TO] }
  pi:IsPair h TI (.ref i1) (.ref i2)
  it1:IterK k1 h i1 a n
  it2:IterK k2 h i2 b n
  bl:∃ o,h.get? B = some o
section
variable {prog:Program} {w:World} {A:Around} {E:Value→Shared→Prop} {s:Shared} {k1 k2:Bool} {z TI TO i1 i2 a b B:Addr} {n:Nat} {xs ys:Array Value}
theorem wpAny_alive {M:Model} {a:Addr} {Q:Option Obj→Shared→Prop} (h:Q (s.heap.get? a) s):wpAny M A (loadIfAlive a) Q E s:=fun _ _ _ => h
theorem own_kept (zr:∃ f1:Bool,s.heap.get? z = some { cls:=.type "zip",data:=.fields #[rawInt B,.bool f1,.bool false,.ref TI,.ref TO] }) (bl:∃ o,s.heap.get? B = some o) :
    wpAny (model prog w) A (Builtin.SmallTypes.ownedTupleIsFree (.ref z)) (fun r s' => r = false∧∃ g1,s' = { s with heap:=g1 }∧(∃ f1:Bool,g1.get? z = some { cls:=.type "zip",data:=.fields #[rawInt B,.bool f1,.bool false,.ref TI,.ref TO] })∧Heap.SameBut z s.heap g1) E s:=by
  obtain ⟨f1,zr⟩:=zr
  obtain ⟨oB,hBo⟩:=bl
  unfold Builtin.SmallTypes.ownedTupleIsFree
  refine wpAny_bind (wpAny_field zr rfl (x:=rawInt B) rfl ?_)
  refine wpAny_bind (wpAny_alive ?_)
  show wpAny (model prog w) A (if (s.heap.get? B).isNone = true then _ else _) _ E s
  rw [hBo,if_neg (by simp)]
  refine wpAny_bind (wpAny_field zr rfl (x:=.bool f1) rfl ?_)
  cases f1 with
  | true =>
    show wpAny (model prog w) A (pure false) _ E s
    exact wpAny_pure ⟨rfl,s.heap,rfl,⟨true,zr⟩,Heap.SameBut.refl ..⟩
  | false =>
    show wpAny (model prog w) A (setField (.ref z) 1 (.bool true) >>= fun _ => pure false) _ E s
    refine wpAny_bind (wpAny_setField_rec zr (by simp) fun g1 r1 e1 => ?_)
    have r1':g1.get? z = some { cls:=.type "zip",data:=.fields #[rawInt B,.bool true,.bool false,.ref TI,.ref TO] }:=r1
    exact wpAny_pure ⟨rfl,g1,rfl,⟨true,r1'⟩,e1⟩
theorem zipK2_item {x y:Value} {Q:Value→Shared→Prop} (D:ZipFar z TI TO i1 i2) (Z:ZipRec2 s.heap k1 k2 z TI TO i1 i2 a b n B) (hB:B ≠ z∧B ≠ i1∧B ≠ i2) (ha:HasK k1 s.heap a xs) (hb:HasK k2 s.heap b ys)
    (fa:a ≠ z∧a ≠ TO∧a ≠ i1∧a ≠ i2) (fb:b ≠ z∧b ≠ TO∧b ≠ i1∧b ≠ i2) (hx:xs[n]? = some x) (hy:ys[n]? = some y)
    (hQ:∀ h',ZipRec2 h' k1 k2 z TI TO i1 i2 a b (n + 1) B→IsPair h' s.heap.objs.size x y→h'.objs.size = s.heap.objs.size + 1 →
      (∀ c o,c ≠ z→c ≠ i1→c ≠ i2→s.heap.get? c = some o→h'.get? c = some o)→Q (.ref s.heap.objs.size) { s with heap:=h' }) :
    wpAny (model prog w) A (Builtin.«zip.__next__» ⟨[.ref z],[]⟩) (fun fin s' => ∃ v,fin = .done (.ret v)∧Q v s') E s:=by
  obtain ⟨zr0,zi,z1,z2,bl⟩:=Z
  obtain ⟨f1,zr⟩:=id zr0
  obtain ⟨oB,hBo⟩:=id bl
  show wpAny (model prog w) A (field (.ref z) 2 >>= _) _ E s
  refine wpAny_bind (wpAny_field zr rfl (x:=.bool false) rfl ?_)
  show wpAny (model prog w) A (field (.ref z) 3 >>= _) _ E s
  refine wpAny_bind (wpAny_field zr rfl (x:=.ref TI) rfl (wpAny_bind (wpAny_seqItems zi rfl ?_)))
  show wpAny (model prog w) A (Builtin.SmallTypes.ownedTupleIsFree (.ref z) >>= _) _ E s
  refine wpAny_bind (thn (own_kept zr0 bl) fun r s' x__73 => ?_)
  obtain ⟨hr,g1,hs,zr1,e1⟩:=x__73
  subst hr hs
  simp only [Bool.false_eq_true,if_false]
  have kp1:∀ c o,c ≠ z→s.heap.get? c = some o→g1.get? c = some o:=fun c o q e => e1.extBut c o q e
  rw [← Array.forIn_toList]
  simp only [List.forIn_cons,List.forIn_nil]
  refine wpAny_bind (wpAny_bind (wpAny_bind (wpAny_holding ?_)))
  show wpAny (model prog w) A (Builtin.SmallTypes.nextOf (.ref i1) >>= _) _ _ _
  refine wpAny_bind ?_
  refine nextK_item (s:={ s with heap:=g1 }) (z1.at fun o e => kp1 _ o D.d3 e) (ha.at fun o e => kp1 _ o fa.1 e) hx fun g2 j1 e2 => wpAny_pure ?_
  have kp2:∀ c o,c ≠ i1→g1.get? c = some o→g2.get? c = some o:=fun c o q e => e2.extBut c o q e
  refine wpAny_pure ?_
  refine wpAny_bind (wpAny_bind (wpAny_holding ?_))
  show wpAny (model prog w) A (Builtin.SmallTypes.nextOf (.ref i2) >>= _) _ _ _
  refine wpAny_bind ?_
  refine nextK_item (s:={ s with heap:=g2 }) (z2.at fun o e => kp2 _ o D.d10.symm (kp1 _ o D.d4 e)) (hb.at fun o e => kp2 _ o fb.2.2.1 (kp1 _ o fb.1 e)) hy fun g3 j2 e3 => wpAny_pure ?_
  have kp3:∀ c o,c ≠ i2→g2.get? c = some o→g3.get? c = some o:=fun c o q e => e3.extBut c o q e
  refine wpAny_pure (wpAny_pure ?_)
  refine wpAny_bind (wpAny_newTuple (wpAny_pure ⟨_,rfl,?_⟩) (by show 2 ≤ sizeLine; decide))
  have sz3:g3.objs.size = s.heap.objs.size:=by rw [e3.1,e2.1,e1.1]
  have all3:∀ c o,c ≠ z→c ≠ i1→c ≠ i2→s.heap.get? c = some o→g3.get? c = some o:=fun c o q1 q3 q4 e => kp3 _ _ q4 (kp2 _ _ q3 (kp1 _ _ q1 e))
  obtain ⟨f1',zr1⟩:=zr1
  show Q (.ref g3.objs.size) _
  rw [sz3]
  refine hQ _ ⟨⟨f1',Heap.get?_push_of_some _ (kp3 _ _ D.d4.symm (kp2 _ _ D.d3.symm zr1))⟩,Heap.get?_push_of_some _ (all3 _ _ D.d1 D.d6 D.d7 zi),j1.at fun o e => Heap.get?_push_of_some _ (kp3 _ o D.d10 e),j2.at fun o e => Heap.get?_push_of_some _ e,oB,Heap.get?_push_of_some _ (all3 _ _ hB.1 hB.2.1 hB.2.2 hBo)⟩ ?_ ?_ fun c o q1 q3 q4 e => Heap.get?_push_of_some _ (all3 c o q1 q3 q4 e)
  · rw [← sz3]; exact Heap.get?_push_size _ rfl
  · rw [Heap.size_push,sz3]
theorem zipK2_end {Q:Fin→Shared→Prop} (hh:A.handled = none) (D:ZipFar z TI TO i1 i2) (Z:ZipRec2 s.heap k1 k2 z TI TO i1 i2 a b n B) (ha:HasK k1 s.heap a xs) (hb:HasK k2 s.heap b ys)
    (fa:a ≠ z∧a ≠ TO∧a ≠ i1∧a ≠ i2) (fb:b ≠ z∧b ≠ TO∧b ≠ i1∧b ≠ i2) (hend:xs[n]? = none ∨ ys[n]? = none)
    (hE:∀ h' e,(∀ c o,c ≠ z→c ≠ i1→c ≠ i2→s.heap.get? c = some o→h'.get? c = some o)→(∃ o,h'.get? e = some o∧o.cls = .type "StopIteration")→E (.ref e) { s with heap:=h' }) :
    wpAny (model prog w) A (Builtin.«zip.__next__» ⟨[.ref z],[]⟩) Q E s:=by
  obtain ⟨zr0,zi,z1,z2,bl⟩:=Z
  obtain ⟨f1,zr⟩:=id zr0
  show wpAny (model prog w) A (field (.ref z) 2 >>= _) _ E s
  refine wpAny_bind (wpAny_field zr rfl (x:=.bool false) rfl ?_)
  show wpAny (model prog w) A (field (.ref z) 3 >>= _) _ E s
  refine wpAny_bind (wpAny_field zr rfl (x:=.ref TI) rfl (wpAny_bind (wpAny_seqItems zi rfl ?_)))
  show wpAny (model prog w) A (Builtin.SmallTypes.ownedTupleIsFree (.ref z) >>= _) _ E s
  refine wpAny_bind (thn (own_kept zr0 bl) fun r s' x__74 => ?_)
  obtain ⟨hr,g1,hs,zr1,e1⟩:=x__74
  subst hr hs
  simp only [Bool.false_eq_true,if_false]
  have kp1:∀ c o,c ≠ z→s.heap.get? c = some o→g1.get? c = some o:=fun c o q e => e1.extBut c o q e
  rw [← Array.forIn_toList]
  simp only [List.forIn_cons,List.forIn_nil]
  cases hx:xs[n]? with
  | none =>
    refine wpAny_bind (wpAny_bind (wpAny_bind (wpAny_holding ?_)))
    show wpAny (model prog w) A (Builtin.SmallTypes.nextOf (.ref i1) >>= _) _ _ _
    exact wpAny_bind (nextK_end (s:={ s with heap:=g1 }) hh (z1.at fun o e => kp1 _ o D.d3 e) (ha.at fun o e => kp1 _ o fa.1 e) hx fun g2 e e2 he => hE g2 e (fun c o q1 q3 q4 q => e2 _ _ q3 (kp1 _ _ q1 q)) he)
  | some x =>
    have hy:ys[n]? = none:=hend.elim (fun h => by rw [hx] at h; cases h) id
    refine wpAny_bind (wpAny_bind (wpAny_bind (wpAny_holding ?_)))
    show wpAny (model prog w) A (Builtin.SmallTypes.nextOf (.ref i1) >>= _) _ _ _
    refine wpAny_bind ?_
    refine nextK_item (s:={ s with heap:=g1 }) (z1.at fun o e => kp1 _ o D.d3 e) (ha.at fun o e => kp1 _ o fa.1 e) hx fun g2 j1 e2 => wpAny_pure ?_
    have kp2:∀ c o,c ≠ i1→g1.get? c = some o→g2.get? c = some o:=fun c o q e => e2.extBut c o q e
    refine wpAny_pure ?_
    refine wpAny_bind (wpAny_bind (wpAny_holding ?_))
    show wpAny (model prog w) A (Builtin.SmallTypes.nextOf (.ref i2) >>= _) _ _ _
    exact wpAny_bind (nextK_end (s:={ s with heap:=g2 }) hh (z2.at fun o e => kp2 _ o D.d10.symm (kp1 _ o D.d4 e)) (hb.at fun o e => kp2 _ o fb.2.2.1 (kp1 _ o fb.1 e)) hy fun g3 e e3 he => hE g3 e (fun c o q1 q3 q4 q => e3 _ _ q4 (kp2 _ _ q3 (kp1 _ _ q1 q))) he)
theorem nextZip2_item {x y:Value} {Q:Option Value→Shared→Prop} (D:ZipFar z TI TO i1 i2) (Z:ZipRec2 s.heap k1 k2 z TI TO i1 i2 a b n B) (hB:B ≠ z∧B ≠ i1∧B ≠ i2) (ha:HasK k1 s.heap a xs) (hb:HasK k2 s.heap b ys)
    (fa:a ≠ z∧a ≠ TO∧a ≠ i1∧a ≠ i2) (fb:b ≠ z∧b ≠ TO∧b ≠ i1∧b ≠ i2) (hx:xs[n]? = some x) (hy:ys[n]? = some y)
    (hQ:∀ h',ZipRec2 h' k1 k2 z TI TO i1 i2 a b (n + 1) B→IsPair h' s.heap.objs.size x y→h'.objs.size = s.heap.objs.size + 1 →
      (∀ c o,c ≠ z→c ≠ i1→c ≠ i2→s.heap.get? c = some o→h'.get? c = some o)→Q (some (.ref s.heap.objs.size)) { s with heap:=h' }):wpAny (model prog w) A (pyNext (.ref z)) Q E s:=by
  obtain ⟨f1,zr⟩:=id Z.zr
  have ty:s.TypeIs (.ref z) "zip":=⟨_,zr,rfl⟩
  unfold pyNext
  refine wpAny_bind (wpAny_attempt (wpAny_callSpecial?_slot (name:=Str.ofString "__next__") ty F.slot_zip_next (wpAny_call_entry F.slot_zip_next ty F.entry_zip_next ?_ (F.args_zip_next_1 _))))
  exact zipK2_item D Z hB ha hb fa fb hx hy fun h' q1 q2 q3 q4 => wpAny_pure (hQ h' q1 q2 q3 q4)
theorem nextZip2_end {Q:Option Value→Shared→Prop} (hh:A.handled = none) (D:ZipFar z TI TO i1 i2) (Z:ZipRec2 s.heap k1 k2 z TI TO i1 i2 a b n B) (ha:HasK k1 s.heap a xs) (hb:HasK k2 s.heap b ys)
    (fa:a ≠ z∧a ≠ TO∧a ≠ i1∧a ≠ i2) (fb:b ≠ z∧b ≠ TO∧b ≠ i1∧b ≠ i2) (hend:xs[n]? = none ∨ ys[n]? = none)
    (hQ:∀ h',(∀ c o,c ≠ z→c ≠ i1→c ≠ i2→s.heap.get? c = some o→h'.get? c = some o)→Q none { s with heap:=h' }):wpAny (model prog w) A (pyNext (.ref z)) Q E s:=by
  obtain ⟨f1,zr⟩:=id Z.zr
  have ty:s.TypeIs (.ref z) "zip":=⟨_,zr,rfl⟩
  unfold pyNext
  refine wpAny_bind (wpAny_attempt (wpAny_callSpecial?_slot (name:=Str.ofString "__next__") ty F.slot_zip_next (wpAny_call_entry F.slot_zip_next ty F.entry_zip_next ?_ (F.args_zip_next_1 _))))
  refine zipK2_end hh D Z ha hb fa fb hend fun h' e kp he => ?_
  obtain ⟨o,ho,hc⟩:=he
  exact wpAny_bind (wpAny_isInstance (T:="StopIteration") (b:=true) ⟨o,ho,hc⟩ isSubtype_stop (wpAny_pure (hQ _ kp)))
end
structure ZipAcc (h0 h:Heap) (k1 k2:Bool) (z TI TO i1 i2 a b S N:Addr) (xs ys:Array Value) (i:Nat):Prop where
  sz:h.objs.size = N + i
  zr:(i = 0∧ZipRec h k1 k2 z TI TO i1 i2 a b 0 .none) ∨ (0 < i∧ZipRec2 h k1 k2 z TI TO i1 i2 a b i N)
  ha:HasK k1 h a xs
  hb:HasK k2 h b ys
  ps:∀ j,j < i→∃ x y,xs[j]? = some x∧ys[j]? = some y∧IsPair h (N + j) x y
  ls:∃ c,h.get? S = some { cls:=.type "list",data:=.seq ((List.range i).map fun j => Value.ref (N + j)).toArray c }
  kp:∀ c o,c ≠ z→c ≠ TO→c ≠ i1→c ≠ i2→c ≠ S→h0.get? c = some o→h.get? c = some o
section
variable {prog:Program} {w:World} {A:Around} {R:Result→Shared→Prop} {k1 k2:Bool} {z TI TO i1 i2 a b S N:Addr} {xs ys:Array Value} {h0:Heap}
theorem far_add {c N:Addr} (h:LT.lt (α:=Nat) c N) (j:Nat):N + j ≠ c:=(Nat.ne_of_gt (Nat.lt_of_lt_of_le h (Nat.le_add_right _ _)):(N + j:Nat) ≠ c)
theorem extend_zip (hh:A.in1.handled = none) (D:ZipFar z TI TO i1 i2) (fa:a ≠ z∧a ≠ TO∧a ≠ i1∧a ≠ i2) (fb:b ≠ z∧b ≠ TO∧b ≠ i1∧b ≠ i2) (fS:S ≠ z∧S ≠ TI∧S ≠ TO∧S ≠ i1∧S ≠ i2∧S ≠ a∧S ≠ b) (lS:LT.lt (α:=Nat) S N) (lz:LT.lt (α:=Nat) z N∧LT.lt (α:=Nat) TO N∧LT.lt (α:=Nat) i1 N∧LT.lt (α:=Nat) i2 N) (res:Value) (hz:min xs.size ys.size ≤ sizeLine) :
    ∀ (k i:Nat) (s:Shared),min xs.size ys.size - i = k→i ≤ min xs.size ys.size→ZipAcc h0 s.heap k1 k2 z TI TO i1 i2 a b S N xs ys i →
    (∀ h',(∀ j,j < min xs.size ys.size→∃ x y,xs[j]? = some x∧ys[j]? = some y∧IsPair h' (N + j) x y)→(∃ c,h'.get? S = some { cls:=.type "list",data:=.seq ((List.range (min xs.size ys.size)).map fun j => Value.ref (N + j)).toArray c }) →
      (∀ c o,c ≠ z→c ≠ TO→c ≠ i1→c ≠ i2→c ≠ S→h0.get? c = some o→h'.get? c = some o)→R (.ok (.ret res)) { s with heap:=h' }) →
    codeAny (model prog w) A (.builtin "list.extend.loop" ⟨[.ref S,.ref z,res],[]⟩) R s:=by
  intro k
  induction k with
  | zero =>
    intro i s hk hi Z hR
    have hin:i = min xs.size ys.size:=by lia
    have hend:xs[i]? = none ∨ ys[i]? = none:=by
      rcases Nat.le_total xs.size ys.size with h | h
      · exact .inl (Array.getElem?_eq_none (by lia))
      · exact .inr (Array.getElem?_eq_none (by lia))
    refine codeAny_builtin F.entry_extend_loop ?_
    rw [Around.under_plainId F.plain_extend_loop _]
    show wpAny (model prog w) A.in1 (pyNext (.ref z) >>= _) _ _ s
    refine wpAny_bind ?_
    have fin:∀ h',(∀ c o,c ≠ z→c ≠ TO→c ≠ i1→c ≠ i2→s.heap.get? c = some o→h'.get? c = some o)→R (.ok (.ret res)) { s with heap:=h' }:=fun h' kp => by
      obtain ⟨c,hc⟩:=Z.ls
      rw [hin] at hc
      refine hR h' (fun j hj => ?_) ⟨c,kp _ _ fS.1 fS.2.2.1 fS.2.2.2.1 fS.2.2.2.2.1 hc⟩ fun c o q1 q2 q3 q4 q5 e => kp _ _ q1 q2 q3 q4 (Z.kp c o q1 q2 q3 q4 q5 e)
      obtain ⟨x,y,e1,e2,e3⟩:=Z.ps j (by lia)
      exact ⟨x,y,e1,e2,kp _ _ (far_add lz.1 j) (far_add lz.2.1 j) (far_add lz.2.2.1 j) (far_add lz.2.2.2 j) e3⟩
    rcases Z.zr with ⟨h0',zr⟩ | ⟨h0',zr⟩
    · rw [h0'] at hend
      exact nextZip_end hh D zr Z.ha Z.hb fa fb hend fun h' kp => wpAny_pure (fin h' kp)
    · exact nextZip2_end hh D zr Z.ha Z.hb fa fb hend fun h' kp => wpAny_pure (fin h' fun c o q1 _ q3 q4 e => kp c o q1 q3 q4 e)
  | succ k ih =>
    intro i s hk hi Z hR
    have hlt:i < min xs.size ys.size:=by lia
    obtain ⟨x,hx⟩:∃ x,xs[i]? = some x:=⟨_,Array.getElem?_eq_getElem (by lia)⟩
    obtain ⟨y,hy⟩:∃ y,ys[i]? = some y:=⟨_,Array.getElem?_eq_getElem (by lia)⟩
    refine codeAny_builtin F.entry_extend_loop ?_
    rw [Around.under_plainId F.plain_extend_loop _]
    show wpAny (model prog w) A.in1 (pyNext (.ref z) >>= _) _ _ s
    refine wpAny_bind ?_
    have go:∀ h',ZipRec2 h' k1 k2 z TI TO i1 i2 a b (i + 1) N→IsPair h' (N + i) x y→h'.objs.size = N + i + 1→(∀ c o,c ≠ z→c ≠ TO→c ≠ i1→c ≠ i2→s.heap.get? c = some o→h'.get? c = some o) →
        wpAny (model prog w) A.in1 (updateSeq S (·.push (.ref (N + i))) >>= fun _ => again (.builtin "list.extend.loop" ⟨[.ref S,.ref z,res],[]⟩)) (fun fin s' => match fin with | .done f => R (.ok f) s' | .again c' => c'.quiet = true∧codeAny (model prog w) A c' R s') (fun e s' => R (.error e) s') { s with heap:=h' }:=fun h' zr' pr' sz' kp => by
      obtain ⟨c,hc⟩:=Z.ls
      have hS':=kp _ _ fS.1 fS.2.2.1 fS.2.2.2.1 fS.2.2.2.2.1 hc
      have la:((List.range i).map fun j => Value.ref (N + j)).toArray.size = i:=by simp
      have ea:((List.range i).map fun j => Value.ref (N + j)).toArray.push (.ref (N + i)) = ((List.range (i + 1)).map fun j => Value.ref (N + j)).toArray:=by simp [List.range_succ]
      refine wpAny_bind (wpAny_updateSeq (s:={ s with heap:=h' }) hS' rfl (wpAny_pure ⟨plainId_quiet F.plain_extend_loop _,ih (i + 1) _ (by lia) hlt ?_ hR⟩) (by rw [la]; lia) (by show (((List.range i).map fun j => Value.ref (N + j)).toArray.push (.ref (N + i))).size ≤ sizeLine + 1; rw [Array.size_push,la]; lia))
      have up:∀ d o,d ≠ S→h'.get? d = some o→(h'.update S (Obj.mapSeq (·.push (.ref (N + i))))).get? d = some o:=fun d o q e => (Heap.get?_update_other _ _ (fun h:S = d => q h.symm)).trans e
      refine ⟨?_,.inr ⟨Nat.succ_pos _,?_⟩,?_,?_,fun j hj => ?_,(by rw [← ea]; exact ⟨_,Heap.get?_update_self _ hS' rfl⟩),fun d o q1 q2 q3 q4 q5 e => up d o q5 (kp d o q1 q2 q3 q4 (Z.kp d o q1 q2 q3 q4 q5 e))⟩
      · exact (Heap.SameBut.update ..).1.trans sz'
      · obtain ⟨⟨f1,q1⟩,q2,q3,q4,⟨oB,q5⟩⟩:=zr'
        exact ⟨⟨f1,up _ _ fS.1.symm q1⟩,up _ _ fS.2.1.symm q2,q3.at fun o e => up _ o fS.2.2.2.1.symm e,q4.at fun o e => up _ o fS.2.2.2.2.1.symm e,oB,up _ _ (fun e => far_add lS 0 e) q5⟩
      · exact (Z.ha.at fun o e => kp _ o fa.1 fa.2.1 fa.2.2.1 fa.2.2.2 e).at fun o e => up _ o fS.2.2.2.2.2.1.symm e
      · exact (Z.hb.at fun o e => kp _ o fb.1 fb.2.1 fb.2.2.1 fb.2.2.2 e).at fun o e => up _ o fS.2.2.2.2.2.2.symm e
      · by_cases hji:j = i
        · subst hji
          exact ⟨x,y,hx,hy,up _ _ (far_add lS j) pr'⟩
        · obtain ⟨x',y',e1,e2,e3⟩:=Z.ps j (by lia)
          exact ⟨x',y',e1,e2,up _ _ (far_add lS j) (kp _ _ (far_add lz.1 j) (far_add lz.2.1 j) (far_add lz.2.2.1 j) (far_add lz.2.2.2 j) e3)⟩
    have hsz:=Z.sz
    rcases Z.zr with ⟨h0',zr⟩ | ⟨h0',zr⟩
    · subst h0'
      refine nextZip_item D zr Z.ha Z.hb fa fb hx hy fun h' Z' pr' sz' kp => ?_
      rw [hsz] at Z' pr' sz' ⊢
      exact go h' ⟨⟨false,Z'.zr⟩,Z'.pi,Z'.it1,Z'.it2,_,pr'⟩ pr' sz' kp
    · refine nextZip2_item D zr ⟨fun e => far_add lz.1 0 e,fun e => far_add lz.2.2.1 0 e,fun e => far_add lz.2.2.2 0 e⟩ Z.ha Z.hb fa fb hx hy fun h' Z' pr' sz' kp => ?_
      rw [hsz] at pr' sz' ⊢
      exact go h' Z' pr' sz' fun c o q1 _ q3 q4 e => kp c o q1 q3 q4 e
theorem zip_no_len:typeLookup (.type "zip") "__len__" = pure none:=by rw [typeLookup_type,builtinLookup_eq_fast]; kernel_rfl
theorem zip_no_hint:typeLookup (.type "zip") "__length_hint__" = pure none:=by rw [typeLookup_type,builtinLookup_eq_fast]; kernel_rfl
theorem call_list_zip {E:Value→Shared→Prop} {s:Shared} {Q:Value→Shared→Prop} (hh:A.handled = none) (D:ZipFar z TI TO i1 i2) (Z:ZipRec s.heap k1 k2 z TI TO i1 i2 a b 0 .none) (ha:HasK k1 s.heap a xs) (hb:HasK k2 s.heap b ys)
    (fa:a ≠ z∧a ≠ TO∧a ≠ i1∧a ≠ i2) (fb:b ≠ z∧b ≠ TO∧b ≠ i1∧b ≠ i2) (hz:min xs.size ys.size ≤ sizeLine)
    (hQ:∀ h',(∀ j,j < min xs.size ys.size→∃ x y,xs[j]? = some x∧ys[j]? = some y∧IsPair h' (s.heap.objs.size + 1 + j) x y)→(∃ c,h'.get? s.heap.objs.size = some { cls:=.type "list",data:=.seq ((List.range (min xs.size ys.size)).map fun j => Value.ref (s.heap.objs.size + 1 + j)).toArray c }) →
      (∀ c o,c ≠ z→c ≠ TO→c ≠ i1→c ≠ i2→s.heap.get? c = some o→h'.get? c = some o)→Q (.ref s.heap.objs.size) { s with heap:=h' }):wpAny (model prog w) A (call (.type "list") [.ref z]) Q E s:=by
  have lt:∀ {c:Addr} {o:Obj},s.heap.get? c = some o→LT.lt (α:=Nat) c s.heap.objs.size:=fun e => Heap.lt_size e
  have ne:∀ {c:Addr} {o:Obj},s.heap.get? c = some o→s.heap.objs.size ≠ c:=fun e => Nat.ne_of_gt (Heap.lt_size e)
  obtain ⟨o1,e1,_⟩:=Z.it1.get
  obtain ⟨o2,e2,_⟩:=Z.it2.get
  obtain ⟨u,v,eo⟩:=Z.po
  refine callType_codes (Q₁:=fun obj s₁ => obj = .ref s.heap.objs.size∧s₁ = { s with heap:=s.heap.push { cls:=.type "list",data:=.seq #[] } }) F.called_list (F.typeCall_list_1 _) F.entry_list_init (code_list_new _ ⟨rfl,rfl⟩) fun obj s₁ h₁ => ?_
  obtain ⟨rfl,rfl⟩:=h₁
  have up0:∀ c o,s.heap.get? c = some o→(s.heap.push { cls:=.type "list",data:=.seq #[] }).get? c = some o:=fun c o e => Heap.get?_push_of_some _ e
  have hS:(s.heap.push { cls:=.type "list",data:=.seq #[] }).get? s.heap.objs.size = some { cls:=.type "list",data:=.seq #[] }:=Heap.get?_push_size _ rfl
  refine ⟨⟨_,hS,rfl⟩,F.args_list_init_2 _ _,?_⟩
  show wpAny (model prog w) A.in1.in1 (do let old ← Builtin.List.listItems (.ref s.heap.objs.size); Builtin.List.listUpdate (.ref s.heap.objs.size) (fun _ => #[]); letGo old.toList.reverse; Builtin.List.listExtendWith (.ref s.heap.objs.size) (.ref z) .none) _ _ _
  generalize hg0:s.heap.push { cls:=.type "list",data:=.seq #[] } = g0 at hS up0 ⊢
  have n0:g0.objs.size = s.heap.objs.size + 1:=by rw [← hg0]; exact Heap.size_push ..
  refine wpAny_bind ?_
  unfold Builtin.List.listItems
  refine wpAny_bind (wpAny_seqItems hS rfl (wpAny_pure ?_))
  show wpAny (model prog w) A.in1.in1 (updateSeq s.heap.objs.size (fun _ => #[]) >>= fun _ => letGo (#[]:Array Value).toList.reverse >>= fun _ => Builtin.List.listExtendWith (.ref s.heap.objs.size) (.ref z) .none) _ _ _
  refine wpAny_bind (wpAny_updateSeq hS rfl (wpAny_bind (wpAny_letGo ?_)))
  have up1:∀ c o,c ≠ s.heap.objs.size→g0.get? c = some o→(g0.update s.heap.objs.size (Obj.mapSeq fun _ => (#[]:Array Value))).get? c = some o:=fun c o q e => (Heap.get?_update_other _ _ (fun h => q h.symm)).trans e
  have hS1:=Heap.get?_update_self (Obj.mapSeq fun _ => (#[]:Array Value)) hS rfl
  have n1:(g0.update s.heap.objs.size (Obj.mapSeq fun _ => (#[]:Array Value))).objs.size = s.heap.objs.size + 1:=(Heap.SameBut.update ..).1.trans n0
  generalize hg1:g0.update s.heap.objs.size (Obj.mapSeq fun _ => (#[]:Array Value)) = g1 at up1 hS1 n1 ⊢
  have zr1:g1.get? z = some _:=up1 _ _ (Ne.symm (ne Z.zr)) (up0 _ _ Z.zr)
  have ty:Shared.TypeIs { s with heap:=g1 } (.ref z) "zip":=⟨_,zr1,rfl⟩
  unfold Builtin.List.listExtendWith
  refine wpAny_bind (wpAny_typeOf ty ?_)
  have h1:Builtin.List.listSameRef (.ref s.heap.objs.size) (.ref z) = false:=by simp [Builtin.List.listSameRef,ne Z.zr]
  have h2:(Value.type "zip" == Value.type "list") = false:=by decide
  have h3:(Value.type "zip" == Value.type "tuple") = false:=by decide
  simp only [h1,h2,h3,Bool.or_false,Bool.false_eq_true,if_false]
  refine wpAny_bind (wpAny_pyIter_zip zr1 (wpAny_bind (wpAny_holding ?_)))
  unfold Builtin.List.listLengthHint
  refine wpAny_bind (wpAny_specialOf ty zip_no_len ?_)
  show wpAny (model prog w) A.in1.in1 (specialOf (Value.ref z) (Str.ofString "__length_hint__") >>= _) _ _ _
  refine wpAny_bind (wpAny_specialOf ty zip_no_hint (wpAny_pure ?_))
  show wpAny (model prog w) A.in1.in1 (rule "list.extend.makes-room" >>= fun _ => (updateSeq s.heap.objs.size (·.push .none) >>= fun _ => updateSeq s.heap.objs.size (·.pop)) >>= fun _ => again (.builtin "list.extend.loop" ⟨[.ref s.heap.objs.size,.ref z,.none],[]⟩)) _ _ _
  refine wpAny_bind (wpAny_rule (wpAny_bind (wpAny_bind (wpAny_updateSeq hS1 rfl ?_))))
  have hS2:=Heap.get?_update_self (Obj.mapSeq (·.push Value.none)) hS1 rfl
  refine wpAny_updateSeq (s:={ s with heap:=g1.update s.heap.objs.size (Obj.mapSeq (·.push Value.none)) }) (hz:=by seq_fits) hS2 rfl ?_
  have hS3:=Heap.get?_update_self (Obj.mapSeq (·.pop)) hS2 rfl
  have n3:((g1.update s.heap.objs.size (Obj.mapSeq (·.push Value.none))).update s.heap.objs.size (Obj.mapSeq (·.pop))).objs.size = s.heap.objs.size + 1:=((Heap.SameBut.update ..).1.trans (Heap.SameBut.update ..).1).trans n1
  have up3:∀ c o,c ≠ s.heap.objs.size→g1.get? c = some o→((g1.update s.heap.objs.size (Obj.mapSeq (·.push Value.none))).update s.heap.objs.size (Obj.mapSeq (·.pop))).get? c = some o:=fun c o q e => (Heap.get?_update_other _ _ (fun h => q h.symm)).trans ((Heap.get?_update_other _ _ (fun h => q h.symm)).trans e)
  generalize (g1.update s.heap.objs.size (Obj.mapSeq (·.push Value.none))).update s.heap.objs.size (Obj.mapSeq (·.pop)) = g3 at hS3 n3 up3 ⊢
  have up:∀ c o,s.heap.get? c = some o→g3.get? c = some o:=fun c o e => up3 c o (Ne.symm (ne e)) (up1 c o (Ne.symm (ne e)) (up0 c o e))
  have bump:∀ {c:Addr} {o:Obj},s.heap.get? c = some o→LT.lt (α:=Nat) c (s.heap.objs.size + 1):=fun e => Nat.lt_succ_of_lt (lt e)
  refine wpAny_pure ⟨plainId_quiet F.plain_extend_loop _,extend_zip (k1:=k1) (k2:=k2) (h0:=s.heap) (N:=s.heap.objs.size + 1) (show A.in1.in1.handled = none from hh) D fa fb ⟨ne Z.zr,ne Z.pi,ne eo,ne e1,ne e2,Nat.ne_of_gt ha.lt,Nat.ne_of_gt hb.lt⟩ (Nat.lt_succ_self _) ⟨bump Z.zr,bump eo,bump e1,bump e2⟩ .none hz _ 0 { s with heap:=g3 } rfl (Nat.zero_le _) ?_ fun h' q1 q2 q3 => ⟨rfl,hQ h' q1 q2 fun c o r1 r2 r3 r4 e => q3 c o r1 r2 r3 r4 (Ne.symm (ne e)) e⟩⟩
  exact ⟨n3,.inl ⟨rfl,up _ _ Z.zr,up _ _ Z.pi,⟨u,v,up _ _ eo⟩,Z.it1.at fun o e => up _ o e,Z.it2.at fun o e => up _ o e⟩,ha.at fun o e => up _ o e,hb.at fun o e => up _ o e,fun j hj => absurd hj (Nat.not_lt_zero _),⟨_,hS3⟩,fun c o _ _ _ _ _ e => up c o e⟩
end
noncomputable def laid (H:Hp) (N:Addr):List (V × V)→Hp
  | [] => H
  | p :: r => laid (upd H N (.tup [p.1,p.2])) (N + 1) r
theorem laid_old {c:Addr}:∀ {l:List (V × V)} {H:Hp} {N:Addr},(∀ j,j < l.length→N + j ≠ c)→laid H N l c = H c
  | [],_,_,_ => rfl
  | p :: r,H,N,h => by
    rw [laid,laid_old (l:=r) fun j hj => by have:=h (j + 1) (by simpa using hj); rwa [show N + 1 + j = N + (j + 1) from by rw [Nat.add_assoc,Nat.add_comm 1 j]],upd_ne (show c ≠ N from fun e => h 0 (by simp) e.symm)]
theorem laid_at:∀ {l:List (V × V)} {H:Hp} {N:Addr} {j:Nat} {p:V × V},l[j]? = some p→laid H N l (N + j) = some (.tup [p.1,p.2])
  | [],_,_,_,_,h => by simp at h
  | q :: r,H,N,0,p,h => by
    cases h
    rw [laid,laid_old (l:=r) fun j _ e => by have e':(N + 1 + j:Nat) = N + 0:=e; exact absurd e' (Nat.ne_of_gt (by lia))]
    exact upd_same
  | q :: r,H,N,j + 1,p,h => by
    rw [laid,show N + (j + 1) = N + 1 + j from by rw [Nat.add_assoc,Nat.add_comm 1 j]]
    exact laid_at (l:=r) (by simpa using h)
section
variable {X:Cx} {pins:List (Addr × Obj)} {σ:St} {s:Shared}
theorem Inv.pairs {m:Addr} (hm:X.s₀.heap.objs.size ≤ m):∀ {l:List (V × V)} {H:Hp} {N:Addr},Inv X pins σ H s→LE.le (α:=Nat) m N→(∀ j,j < l.length→FpOk X pins H (N + j))→(∀ j p,l[j]? = some p→∃ u v,RelV p.1 u∧RelV p.2 v∧IsPair s.heap (N + j) u v)→Inv X pins σ (L2.laid H N l) s
  | [],_,_,I,_,_,_ => I
  | p :: r,H,N,I,hN,hf,ho => by
    have f:=hf 0 (by simp)
    obtain ⟨u,v,r1,r2,pr⟩:=ho 0 p rfl
    have I1:Inv X pins σ (upd H N (.tup [p.1,p.2])) s:=I.track (t':=s.toks) f.1 f.2.1 (Nat.le_trans hm hN) f.2.2.2.2.1 f.2.2.2.2.2 ⟨by show 2 ≤ sizeLine; decide,[u,v],.cons r1 (.cons r2 .nil),⟨_,pr,rfl,_,rfl⟩⟩
    rw [L2.laid]
    refine Inv.pairs hm (l:=r) I1 (Nat.le_succ_of_le hN) (fun j hj => ?_) fun j q hq => ?_
    · have g:=hf (j + 1) (by simpa using hj)
      rw [show N + (j + 1) = N + 1 + j from by rw [Nat.add_assoc,Nat.add_comm 1 j]] at g
      refine ⟨?_,g.2⟩
      rw [upd_ne (show N + 1 + j ≠ N from (Nat.ne_of_gt (Nat.lt_of_lt_of_le (Nat.lt_succ_self N) (Nat.le_add_right _ _)):(N + 1 + j:Nat) ≠ N))]
      exact g.1
    · have g:=ho (j + 1) q (by simpa using hq)
      rwa [show N + (j + 1) = N + 1 + j from by rw [Nat.add_assoc,Nat.add_comm 1 j]] at g
end
noncomputable def tLZip (K:PySem.W.Frag) (ta:TA):TE:=fun σ H Q => ta σ H fun vs H1 => ∃ k1 k2 a b xs ys,vs = [.ref a,.ref b]∧SqK k1 K H1 a xs∧SqK k2 K H1 b ys ∧
  ∀ N S:Addr,(∀ j,H1 (N + j) = none)→H1 S = none→(∀ j,N + j ≠ S)→Q (.ref S) (upd (laid H1 N (xs.zip ys)) S (.lst ((List.range (xs.zip ys).length).map fun j => V.ref (N + j))))
theorem pe_lzip {X:Cx} {a b:Expr} {ta:TA} {p pos p2 pos2:Pos} (hc:X.calm = true) (hg:Gl X "list") (hm:X.mg "list" = none) (hg2:Gl X "zip") (hm2:X.mg "zip" = none) (ha:PA X [a,b] ta)
    (hs:starEach [.Call (.Name "zip" p2) [a,b] [] pos2] X.env = (false,eval (.Call (.Name "zip" p2) [a,b] [] pos2) X.env) :: starEach [] X.env:=by rfl)
    (hs2:starEach [a,b] X.env = [(false,eval a X.env),(false,eval b X.env)]:=by rfl) (hs3:starEach [b] X.env = [(false,eval b X.env)]:=by rfl):PE X (.Call (.Name "list" p) [.Call (.Name "zip" p2) [a,b] [] pos2] [] pos) (tLZip X.K ta):=by
  intro pins s σ H Q I h
  refine Call_ (ld_blt I hg hm (u:=.type "list") (by first | rfl | decide +kernel) (PyProof.Rows.callWith_type1 ?_ hs rfl))
  rw [hs]
  refine Calls.spliced_cons (s:=s) ?_
  refine Call_ (ld_blt I hg2 hm2 (u:=.type "zip") (by first | rfl | decide +kernel) (PyProof.Rows.callWith_type1 (thn (ha pos2 pins s σ H _ I h) fun us s1 x__75 => ?_) (by rw [hs2,hs3]) (by rw [hs3]; rfl)))
  obtain ⟨vs,H1,I1,r1,q1⟩:=x__75
  obtain ⟨k1,k2,a,b,xs,ys,e,sa,sb,q⟩:=q1
  subst e
  obtain ⟨u,v,rfl,ru,rv⟩:=vals2 r1
  cases (show u = Value.ref a from ru)
  cases (show v = Value.ref b from rv)
  obtain ⟨ia,ra,ha',za⟩:=I1.hasK sa
  obtain ⟨ib,rb,hb',zb⟩:=I1.hasK sb
  refine call_zipK ha' hb' fun h' Z kp => Calls.spliced_nil ?_
  have la:LT.lt (α:=Nat) a s1.heap.objs.size:=ha'.lt
  have lb:LT.lt (α:=Nat) b s1.heap.objs.size:=hb'.lt
  have D:ZipFar (s1.heap.objs.size + 4) (s1.heap.objs.size + 2) (s1.heap.objs.size + 3) s1.heap.objs.size (s1.heap.objs.size + 1):=by constructor <;> (intro e; have e':(_:Nat) = _:=e; lia)
  have fa:∀ {c:Addr},LT.lt (α:=Nat) c s1.heap.objs.size→c ≠ s1.heap.objs.size + 4∧c ≠ s1.heap.objs.size + 3∧c ≠ s1.heap.objs.size∧c ≠ s1.heap.objs.size + 1:=fun hlt => by refine ⟨?_,?_,?_,?_⟩ <;> (intro e; have e':(_:Nat) = _:=e; lia)
  have big:LT.lt (α:=Nat) s1.heap.objs.size h'.objs.size:=Nat.lt_of_le_of_lt (Nat.le_add_right _ 4) (Heap.lt_size Z.zr)
  refine call_list_zip (s:={ s1 with heap:=h' }) (I1.ok.hd hc) D Z (ha'.at fun o e => kp _ o e) (hb'.at fun o e => kp _ o e) (fa la) (fa lb) ?_ fun h2 ps ls k2 => ?_
  · rw [List.size_toArray,← ra.length]; exact Nat.le_trans (Nat.min_le_left _ _) za
  have mn:min ia.toArray.size ib.toArray.size = (xs.zip ys).length:=by rw [List.length_zip,List.size_toArray,List.size_toArray,← ra.length,← rb.length]
  rw [mn] at ps ls
  have kp2:∀ c o,s1.heap.get? c = some o→h2.get? c = some o:=fun c o e => k2 c o (fa (Heap.lt_size e)).1 (fa (Heap.lt_size e)).2.1 (fa (Heap.lt_size e)).2.2.1 (fa (Heap.lt_size e)).2.2.2 (kp c o e)
  have I3:Inv X pins σ H1 { s1 with heap:=h2 }:=I1.kept (t':=s1.toks) kp2
  have fN:∀ j,LE.le (α:=Nat) s1.heap.objs.size (h'.objs.size + 1 + j):=fun j => by lia
  have fp:∀ j,FpOk X pins H1 (h'.objs.size + 1 + j):=fun j => I1.fpOk (fN j) (I1.hok.fresh (fN j))
  have hS:=I1.hok.fresh (Nat.le_of_lt big)
  have fS:=I1.fpOk (Nat.le_of_lt big) hS
  have nS:∀ j,h'.objs.size + 1 + j ≠ h'.objs.size:=fun j => (Nat.ne_of_gt (by lia):(h'.objs.size + 1 + j:Nat) ≠ h'.objs.size)
  have I4:=Inv.pairs (X:=X) (pins:=pins) (σ:=σ) (l:=xs.zip ys) (N:=h'.objs.size + 1) I1.sz I3 (Nat.le_succ_of_le (Nat.le_of_lt big)) (fun j _ => fp j) fun j pr hj => by
    obtain ⟨x,y,e1,e2,e3⟩:=ps j (List.getElem?_eq_some_iff.mp hj).1
    obtain ⟨h1,h2'⟩:=List.getElem?_zip_eq_some.mp hj
    obtain ⟨u1,g1,r1⟩:=ra.get h1
    obtain ⟨u2,g2,r2⟩:=rb.get h2'
    have e1':ia[j]? = some x:=by simpa using e1
    have e2':ib[j]? = some y:=by simpa using e2
    rw [g1] at e1'
    rw [g2] at e2'
    cases e1'
    cases e2'
    exact ⟨_,_,r1,r2,e3⟩
  obtain ⟨cc,hl⟩:=ls
  have I5:=I4.track (D:=h'.objs.size) (o:=.lst ((List.range (xs.zip ys).length).map fun j => V.ref (h'.objs.size + 1 + j))) (t':=s1.toks) (by rw [laid_old fun j _ => nS j]; exact hS) fS.2.1 (Nat.le_trans I1.sz (Nat.le_of_lt big)) fS.2.2.2.2.1 fS.2.2.2.2.2
    ⟨by rw [List.length_map,List.length_range,List.length_zip]; exact Nat.le_trans (Nat.min_le_left _ _) za,(List.range (xs.zip ys).length).map fun j => Value.ref (h'.objs.size + 1 + j),cc,?_,hl⟩
  · exact ⟨.ref h'.objs.size,_,I5,rfl,q (h'.objs.size + 1) h'.objs.size (fun j => (fp j).1) hS nS⟩
  · generalize List.range (xs.zip ys).length = rr
    induction rr with
    | nil => exact .nil
    | cons j r ih => exact .cons rfl ih
end L2

namespace L3
open PySem L2 PySem.Spec PyProof.Rows
theorem bnd1 {α γ:Type} {x:Option α} {f:α→Option γ} {r:γ} {Q:Prop} (e:x.bind f = some r) (h:∀ p,x = some p→f p = some r→Q):Q:=by
  cases x with
  | none => cases e
  | some p => exact h p rfl e
theorem bnd2 {α β γ:Type} {x:Option (α × β)} {f:α × β→Option γ} {r:γ} {Q:Prop} (e:x.bind f = some r) (h:∀ d s,x = some (d,s)→f (d,s) = some r→Q):Q:=bnd1 e fun p => h p.1 p.2
theorem mpp1 {α γ:Type} {x:Option α} {f:α→γ} {r:γ} {Q:Prop} (e:x.map f = some r) (h:∀ p,x = some p→f p = r→Q):Q:=by
  cases x with
  | none => cases e
  | some p => exact h p rfl (Option.some.inj e)
theorem mpp2 {α β γ:Type} {x:Option (α × β)} {f:α × β→γ} {r:γ} {Q:Prop} (e:x.map f = some r) (h:∀ d s,x = some (d,s)→f (d,s) = r→Q):Q:=mpp1 e fun p => h p.1 p.2

noncomputable abbrev D:=PyData
noncomputable abbrev Zt:=Option (Addr × Addr)
noncomputable abbrev Sx:=List Int × Int
noncomputable def NotZ (Z:Zt) (p:Addr):Prop:=∀ a c,Z = some (a,c)→p ≠ a∧p ≠ c
noncomputable def stDict (c:Addr) (t:Int):List (Key × V):=[(Sum.inr "cells",.ref c),(Sum.inr "turn",.int t)]
noncomputable def StateAt (Z:Zt) (H:Hp) (s:Sx):Prop:=∀ a c,Z = some (a,c)→H a = some (.dK (stDict c s.2))∧H c = some (.lst (s.1.map V.int))
noncomputable def Ext (Z:Zt) (H H':Hp):Prop:=∀ b o,H b = some o→NotZ Z b→H' b = some o
theorem Ext.refl {Z:Zt} (H:Hp):Ext Z H H:=fun _ _ e _ => e
theorem Ext.trans {Z:Zt} {H H1 H2:Hp} (a:Ext Z H H1) (b:Ext Z H1 H2):Ext Z H H2:=fun c o e n => b c o (a c o e n) n
theorem Ext.upd {Z:Zt} {H:Hp} {p:Addr} {o:HO} (h:H p = none):Ext Z H (upd H p o):=fun b u e _ => by rw [upd_ne (ne_of_none e h)]; exact e
theorem StateAt.upd {Z:Zt} {H:Hp} {s:Sx} {p:Addr} {o:HO} (S:StateAt Z H s) (h:H p = none):StateAt Z (upd H p o) s:=fun a c e =>
  ⟨by rw [upd_ne (ne_of_none (S a c e).1 h)]; exact (S a c e).1,by rw [upd_ne (ne_of_none (S a c e).2 h)]; exact (S a c e).2⟩
theorem StateAt.notZ {Z:Zt} {H:Hp} {s:Sx} {p:Addr} (S:StateAt Z H s) (h:H p = none):NotZ Z p:=fun a c e => ⟨Ne.symm (ne_of_none (S a c e).1 h),Ne.symm (ne_of_none (S a c e).2 h)⟩

noncomputable def ModT (K:PySem.W.Frag) (p:Addr) (vs:List V):Prop:=∃ (o:Obj) (its:Array Value) (n:Nat),K.lookup p = some o∧o.cls = .type "tuple"∧o.data = .seq its n∧its.size ≤ sizeLine∧Vals vs its.toList
mutual
inductive Rep (K:PySem.W.Frag) (Z:Zt) (H:Hp) (A:List Addr):V→D→Prop
  | non:Rep K Z H A .non .none
  | bl (b:Bool):Rep K Z H A (.bl b) (.bool b)
  | int (i:Int):Rep K Z H A (.int i) (.int i)
  | str (x:Str):Rep K Z H A (.str x) (.str x)
  | tup {p:Addr} {vs:List V} {ds:List D}:H p = some (.tup vs)→¬ p ∈ A→NotZ Z p→Reps K Z H A vs ds→Rep K Z H A (.ref p) (.tuple ds)
  | lst {p:Addr} {vs:List V} {ds:List D}:H p = some (.lst vs)→¬ p ∈ A→NotZ Z p→Reps K Z H A vs ds→Rep K Z H A (.ref p) (.list ds)
  | mod {p:Addr} {vs:List V} {ds:List D}:ModT K p vs→Reps K Z H A vs ds→Rep K Z H A (.ref p) (.tuple ds)
  | st {a c:Addr}:Z = some (a,c)→Rep K Z H A (.ref a) (.dict [])
  | obj {p C dx:Addr} {c:Str} {ns:List Str} {vs:List V} {ds:List D}:PySem.W.nsIn K mainGlobals c = some (some (.ref C))→H p = some (.ins C dx (ns.zip vs))→¬ p ∈ A→NotZ Z p→Reps K Z H A vs ds →
      Rep K Z H A (.ref p) (.dict ((.str "",.str c) :: (ns.map PyData.str).zip ds))
inductive Reps (K:PySem.W.Frag) (Z:Zt) (H:Hp) (A:List Addr):List V→List D→Prop
  | nil:Reps K Z H A [] []
  | cons {v:V} {d:D} {vs:List V} {ds:List D}:Rep K Z H A v d→Reps K Z H A vs ds→Reps K Z H A (v :: vs) (d :: ds)
end

section
variable {K:PySem.W.Frag} {Z:Zt} {H H':Hp} {A A':List Addr}
theorem Reps.move (hm:∀ p o,H p = some o→¬ p ∈ A→NotZ Z p→H' p = some o∧¬ p ∈ A') {vs:List V} {ds:List D} (r:Reps K Z H A vs ds):Reps K Z H' A' vs ds :=
  Reps.rec (motive_1:=fun v d _ => Rep K Z H' A' v d) (motive_2:=fun vs ds _ => Reps K Z H' A' vs ds) .non .bl .int .str
    (fun h n z _ r => .tup (hm _ _ h n z).1 (hm _ _ h n z).2 z r) (fun h n z _ r => .lst (hm _ _ h n z).1 (hm _ _ h n z).2 z r) (fun h _ r => .mod h r) (fun h => .st h)
    (fun k h n z _ r => .obj k (hm _ _ h n z).1 (hm _ _ h n z).2 z r) .nil (fun _ _ r t => .cons r t) r
theorem Reps.head {v:V} {d:D} {vs:List V} {ds:List D} (r:Reps K Z H A (v :: vs) (d :: ds)):Rep K Z H A v d:=by
  cases r with
  | cons r _ => exact r
theorem Rep.move (hm:∀ p o,H p = some o→¬ p ∈ A→NotZ Z p→H' p = some o∧¬ p ∈ A') {v:V} {d:D} (r:Rep K Z H A v d):Rep K Z H' A' v d:=Reps.head (Reps.move hm (.cons r .nil))
theorem Rep.ext {v:V} {d:D} (r:Rep K Z H A v d) (e:Ext Z H H'):Rep K Z H' A v d:=r.move fun p o h n z => ⟨e p o h z,n⟩
theorem Reps.ext {vs:List V} {ds:List D} (r:Reps K Z H A vs ds) (e:Ext Z H H'):Reps K Z H' A vs ds:=r.move fun p o h n z => ⟨e p o h z,n⟩
theorem Rep.sub {v:V} {d:D} (r:Rep K Z H A v d) (e:∀ q ∈ A',q ∈ A):Rep K Z H A' v d:=r.move fun p o h n z => ⟨h,fun q => n (e _ q)⟩
theorem Reps.sub {vs:List V} {ds:List D} (r:Reps K Z H A vs ds) (e:∀ q ∈ A',q ∈ A):Reps K Z H A' vs ds:=r.move fun p o h n z => ⟨h,fun q => n (e _ q)⟩
theorem Reps.length {vs:List V} {ds:List D} (h:Reps K Z H A vs ds):vs.length = ds.length:=by
  induction vs generalizing ds with
  | nil => cases h; rfl
  | cons v vs ih =>
    cases h with
    | cons _ t => exact congrArg (· + 1) (ih t)
theorem Reps.get:∀ {vs:List V} {ds:List D} {i:Nat} {d:D},Reps K Z H A vs ds→ds[i]? = some d→∃ v,vs[i]? = some v∧Rep K Z H A v d
  | _,_,_,_,.nil,e => by simp at e
  | _,_,0,_,.cons r _,e => by simp at e; subst e; exact ⟨_,rfl,r⟩
  | _,_,i + 1,d,.cons _ t,e => by
    obtain ⟨u,h1,h2⟩:=Reps.get (i:=i) (d:=d) t (by simpa using e)
    exact ⟨u,by simpa using h1,h2⟩
theorem Reps.at:∀ {vs:List V} {ds:List D} {i:Nat} {v:V},Reps K Z H A vs ds→vs[i]? = some v→∃ d,ds[i]? = some d∧Rep K Z H A v d
  | _,_,_,_,.nil,e => by simp at e
  | _,_,0,_,.cons r _,e => by simp at e; subst e; exact ⟨_,rfl,r⟩
  | _,_,i + 1,v,.cons _ t,e => by
    obtain ⟨u,h1,h2⟩:=Reps.at (i:=i) (v:=v) t (by simpa using e)
    exact ⟨u,by simpa using h1,h2⟩
theorem Reps.append {vs ws:List V} {ds es:List D} (h:Reps K Z H A vs ds) (s:Reps K Z H A ws es):Reps K Z H A (vs ++ ws) (ds ++ es):=by
  induction vs generalizing ds with
  | nil => cases h; exact s
  | cons v vs ih =>
    cases h with
    | cons r t => exact .cons r (ih t)
theorem Reps.take:∀ {vs:List V} {ds:List D} (n:Nat),Reps K Z H A vs ds→Reps K Z H A (vs.take n) (ds.take n)
  | _,_,0,_ => .nil
  | _,_,_ + 1,.nil => .nil
  | _,_,n + 1,.cons r t => .cons r (Reps.take n t)
theorem Reps.drop:∀ {vs:List V} {ds:List D} (n:Nat),Reps K Z H A vs ds→Reps K Z H A (vs.drop n) (ds.drop n)
  | _,_,0,r => r
  | _,_,_ + 1,.nil => .nil
  | _,_,n + 1,.cons _ t => Reps.drop n t
theorem Reps.set {v:V} {d:D} (r:Rep K Z H A v d):∀ {vs:List V} {ds:List D} (i:Nat),Reps K Z H A vs ds→Reps K Z H A (vs.set i v) (ds.set i d)
  | _,_,_,.nil => .nil
  | _,_,0,.cons _ t => .cons r t
  | _,_,i + 1,.cons q t => .cons q (Reps.set r i t)
theorem Reps.rep (k:Nat) {vs:List V} {ds:List D} (h:Reps K Z H A vs ds):Reps K Z H A (List.replicate k vs).flatten (List.replicate k ds).flatten:=by
  induction k with
  | zero => exact .nil
  | succ k ih => rw [List.replicate_succ,List.replicate_succ,List.flatten_cons,List.flatten_cons]; exact h.append ih
theorem Reps.dropLast:∀ {vs:List V} {ds:List D},Reps K Z H A vs ds→Reps K Z H A vs.dropLast ds.dropLast:=fun {vs ds} h => by
  rw [List.dropLast_eq_take,List.dropLast_eq_take,h.length]; exact h.take _
theorem fresh_not {p:Addr} (hA:∀ q ∈ A,∃ o,H q = some o) (h:H p = none):¬ p ∈ A:=fun m => by
  obtain ⟨o,e⟩:=hA p m
  rw [h] at e; cases e
end

noncomputable def RepW (K:PySem.W.Frag) (Z:Zt) (H:Hp) (A:List Addr) (v:V) (d:D):Prop :=
  Rep K Z H A v d ∨ ∃ p vs ds,v = .ref p∧d = .list ds∧H p = some (.lst vs)∧NotZ Z p∧Reps K Z H A vs ds
section
variable {K:PySem.W.Frag} {Z:Zt} {H H':Hp} {A A':List Addr} {v:V} {d:D}
theorem Rep.w (r:Rep K Z H A v d):RepW K Z H A v d:=.inl r
theorem RepW.ext (r:RepW K Z H A v d) (e:Ext Z H H'):RepW K Z H' A v d:=by
  rcases r with r | ⟨p,vs,ds,e1,e2,e3,e4,e5⟩
  · exact .inl (r.ext e)
  · exact .inr ⟨p,vs,ds,e1,e2,e _ _ e3 e4,e4,e5.ext e⟩
theorem RepW.list {ds:List D} (r:RepW K Z H A v (.list ds)):∃ p vs,v = .ref p∧SqL K H p vs∧NotZ Z p∧Reps K Z H A vs ds:=by
  rcases r with r | ⟨p,vs,ds,e1,e2,e3,e4,e5⟩
  · cases r with
    | lst h n z q => exact ⟨_,_,rfl,.of h,z,q⟩
  · cases e2; exact ⟨p,vs,e1,.of e3,e4,e5⟩
theorem RepW.tuple {ds:List D} (r:RepW K Z H A v (.tuple ds)):∃ p vs,v = .ref p∧SqT K H p vs∧Reps K Z H A vs ds:=by
  rcases r with r | ⟨p,vs,ds,e1,e2,e3,e4,e5⟩
  · cases r with
    | tup h n z q => exact ⟨_,_,rfl,.of h,q⟩
    | mod h q => exact ⟨_,_,rfl,.inr h,q⟩
  · cases e2
theorem RepW.int {i:Int} (r:RepW K Z H A v (.int i)):v = .int i:=by
  rcases r with r | ⟨p,vs,ds,e1,e2,e3,e4,e5⟩
  · cases r; rfl
  · cases e2
theorem RepW.bool {i:Bool} (r:RepW K Z H A v (.bool i)):v = .bl i:=by
  rcases r with r | ⟨p,vs,ds,e1,e2,e3,e4,e5⟩
  · cases r; rfl
  · cases e2
theorem RepW.str {i:Str} (r:RepW K Z H A v (.str i)):v = .str i:=by
  rcases r with r | ⟨p,vs,ds,e1,e2,e3,e4,e5⟩
  · cases r; rfl
  · cases e2
theorem RepW.none (r:RepW K Z H A v .none):v = .non:=by
  rcases r with r | ⟨p,vs,ds,e1,e2,e3,e4,e5⟩
  · cases r; rfl
  · cases e2
end

inductive Ce where
  | non | val (d:D) | own (xs:List D)
noncomputable abbrev Sl:=List Ce
noncomputable abbrev Ow:=List (Nat × Addr)
inductive ValAt (K:PySem.W.Frag) (Z:Zt) (A:List Addr) (ow:Ow) (σ:L2.St) (H:Hp) (i:Nat) (d:D):Prop
  | mk (v:V) (h0:σ[i]? = some (some v)) (h1:Rep K Z H (A ++ ow.map (·.2)) v d)
inductive OwnAt (K:PySem.W.Frag) (Z:Zt) (A:List Addr) (ow:Ow) (σ:L2.St) (H:Hp) (i:Nat) (xs:List D):Prop
  | mk (p:Addr) (vs:List V) (h0:(i,p) ∈ ow) (h1:σ[i]? = some (some (.ref p))) (h2:H p = some (.lst vs)) (h3:Reps K Z H (A ++ ow.map (·.2)) vs xs)
structure RepS (K:PySem.W.Frag) (B:Hp) (Z:Zt) (A:List Addr) (ow:Ow) (σ:L2.St) (δ:Sl) (H:Hp):Prop where
  ok:∀ q ∈ A,(∃ o,H q = some o)∧NotZ Z q
  ext:Ext Z B H
  len:δ.length = σ.length
  val:∀ (i:Nat) (d:D),δ[i]? = some (.val d)→ValAt K Z A ow σ H i d
  own:∀ (i:Nat) (xs:List D),δ[i]? = some (.own xs)→OwnAt K Z A ow σ H i xs
  ows:∀ i p,(i,p) ∈ ow→B p = none∧(∃ vs,H p = some (.lst vs))∧NotZ Z p∧¬ p ∈ A
  inj:∀ i j p,(i,p) ∈ ow→(j,p) ∈ ow→i = j
section
variable {K:PySem.W.Frag} {B:Hp} {Z:Zt} {A:List Addr} {ow:Ow} {σ:L2.St} {δ:Sl} {H H':Hp}
theorem RepS.mono (R:RepS K B Z A ow σ δ H) (e:Ext Z H H'):RepS K B Z A ow σ δ H' where
  ok:=fun q hq => ⟨let ⟨o,h⟩:=(R.ok q hq).1; ⟨o,e q o h (R.ok q hq).2⟩,(R.ok q hq).2⟩
  ext:=R.ext.trans e
  len:=R.len
  val:=fun i d h => let ⟨v,a,b⟩:=R.val i d h; ⟨v,a,b.ext e⟩
  own:=fun i xs h => let ⟨p,vs,a,b,c,d⟩:=R.own i xs h; ⟨p,vs,a,b,e p _ c (R.ows i p a).2.2.1,d.ext e⟩
  ows:=fun i p h => let ⟨a,⟨o,b⟩,c,d⟩:=R.ows i p h; ⟨a,⟨o,e p _ b c⟩,c,d⟩
  inj:=R.inj
theorem RepS.all (R:RepS K B Z A ow σ δ H):∀ q ∈ A ++ ow.map (·.2),∃ o,H q = some o:=fun q hq => by
  rcases List.mem_append.mp hq with h | h
  · exact (R.ok q h).1
  · obtain ⟨⟨i,p⟩,hp,rfl⟩:=List.mem_map.mp h
    obtain ⟨vs,h⟩:=(R.ows i p hp).2.1
    exact ⟨_,h⟩
end

noncomputable def Frm (Z:Zt) (ow:Ow) (H:Hp) (ow':Ow) (H':Hp):Prop:=∀ b o,H b = some o→NotZ Z b→¬ b ∈ ow.map (·.2)→H' b = some o∧¬ b ∈ ow'.map (·.2)
theorem Frm.ext {Z:Zt} {ow:Ow} {H H':Hp} (e:Ext Z H H'):Frm Z ow H ow H':=fun b o h n m => ⟨e b o h n,m⟩
theorem Frm.refl {Z:Zt} {ow:Ow} {H:Hp}:Frm Z ow H ow H:=fun _ _ h _ m => ⟨h,m⟩
theorem Frm.trans {Z:Zt} {o1 o2 o3:Ow} {H1 H2 H3:Hp} (a:Frm Z o1 H1 o2 H2) (b:Frm Z o2 H2 o3 H3):Frm Z o1 H1 o3 H3:=fun c o h n m => let ⟨h',m'⟩:=a c o h n m; b c o h' n m'
section
variable {K:PySem.W.Frag} {Z:Zt} {H H':Hp} {A:List Addr} {ow ow':Ow}
theorem rd_frm {p:Addr} {u:HO} (h:H p = some u) (f:Frm Z ow H ow' H') (n:NotZ Z p) (m:¬ p ∈ A ++ ow.map (·.2)):H' p = some u∧¬ p ∈ A ++ ow'.map (·.2):=by
  have m1:¬ p ∈ A:=fun q => m (List.mem_append_left _ q)
  have m2:¬ p ∈ ow.map (·.2):=fun q => m (List.mem_append_right _ q)
  exact ⟨(f _ _ h n m2).1,fun q => (List.mem_append.mp q).elim m1 (f _ _ h n m2).2⟩
theorem Rep.frm {v:V} {d:D} (r:Rep K Z H (A ++ ow.map (·.2)) v d) (f:Frm Z ow H ow' H'):Rep K Z H' (A ++ ow'.map (·.2)) v d:=r.move fun p o h n z => rd_frm h f z n
theorem Reps.frm {vs:List V} {ds:List D} (r:Reps K Z H (A ++ ow.map (·.2)) vs ds) (f:Frm Z ow H ow' H'):Reps K Z H' (A ++ ow'.map (·.2)) vs ds:=r.move fun p o h n z => rd_frm h f z n
end

noncomputable abbrev FE:=Sl→Sx→Option (D × Sx)
noncomputable abbrev FT:=Sl→Sx→Option (Bool × Sx)
noncomputable abbrev FA:=Sl→Sx→Option (List D × Sx)
inductive tDK (K:PySem.W.Frag) (Z:Zt) (A:List Addr) (F:FE) (σ:L2.St) (H:Hp) (Q:VK):Prop
  | mk (B:Hp) (ow:Ow) (δ:Sl) (s:Sx) (d:D) (s':Sx) (h0:RepS K B Z A ow σ δ H) (h1:StateAt Z H s) (h2:F δ s = some (d,s')) (h3:∀ v H',Ext Z H H'→StateAt Z H' s'→Rep K Z H' (A ++ ow.map (·.2)) v d→Q v H')
noncomputable abbrev tD (X:Cx) (Z:Zt) (A:List Addr) (F:FE):TE:=tDK X.K Z A F
inductive tDTK (K:PySem.W.Frag) (Z:Zt) (A:List Addr) (F:FT) (σ:L2.St) (H:Hp) (Q:Bool→Hp→Prop):Prop
  | mk (B:Hp) (ow:Ow) (δ:Sl) (s:Sx) (b:Bool) (s':Sx) (h0:RepS K B Z A ow σ δ H) (h1:StateAt Z H s) (h2:F δ s = some (b,s')) (h3:∀ H',Ext Z H H'→StateAt Z H' s'→Q b H')
noncomputable abbrev tDT (X:Cx) (Z:Zt) (A:List Addr) (F:FT):TT:=tDTK X.K Z A F
inductive tDAK (K:PySem.W.Frag) (Z:Zt) (A:List Addr) (F:FA) (σ:L2.St) (H:Hp) (Q:List V→Hp→Prop):Prop
  | mk (B:Hp) (ow:Ow) (δ:Sl) (s:Sx) (ds:List D) (s':Sx) (h0:RepS K B Z A ow σ δ H) (h1:StateAt Z H s) (h2:F δ s = some (ds,s')) (h3:∀ vs H',Ext Z H H'→StateAt Z H' s'→Reps K Z H' (A ++ ow.map (·.2)) vs ds→Q vs H')
noncomputable abbrev tDA (X:Cx) (Z:Zt) (A:List Addr) (F:FA):TA:=tDAK X.K Z A F
structure DE (X:Cx) (e:Expr) (F:FE):Prop where
  go:∀ Z A,PE X e (tD X Z A F)
instance {X:Cx} {e:Expr} {F:FE}:CoeFun (DE X e F) (fun _ => ∀ Z A,PE X e (tD X Z A F)):=⟨fun h => h.go⟩
structure DT (X:Cx) (e:Expr) (F:FT):Prop where
  go:∀ Z A,PT X e (tDT X Z A F)
instance {X:Cx} {e:Expr} {F:FT}:CoeFun (DT X e F) (fun _ => ∀ Z A,PT X e (tDT X Z A F)):=⟨fun h => h.go⟩
structure DA (X:Cx) (es:List Expr) (F:FA):Prop where
  go:∀ Z A,PA X es (tDA X Z A F)
instance {X:Cx} {es:List Expr} {F:FA}:CoeFun (DA X es F) (fun _ => ∀ Z A,PA X es (tDA X Z A F)):=⟨fun h => h.go⟩
noncomputable abbrev FO:=Sl→Sx→Option (List D × Sx)
inductive tDOK (K:PySem.W.Frag) (Z:Zt) (A:List Addr) (F:FO) (σ:L2.St) (H:Hp) (Q:VK):Prop
  | mk (B:Hp) (ow:Ow) (δ:Sl) (s:Sx) (ds:List D) (s':Sx) (h0:RepS K B Z A ow σ δ H) (h1:StateAt Z H s) (h2:F δ s = some (ds,s')) (h3:∀ p vs H',Ext Z H H'→StateAt Z H' s'→H' p = some (.lst vs)→NotZ Z p→Reps K Z H' (A ++ ow.map (·.2)) vs ds→Q (.ref p) H')
noncomputable abbrev tDO (X:Cx) (Z:Zt) (A:List Addr) (F:FO):TE:=tDOK X.K Z A F
structure DO (X:Cx) (e:Expr) (F:FO):Prop where
  go:∀ Z A,PE X e (tDO X Z A F)
instance {X:Cx} {e:Expr} {F:FO}:CoeFun (DO X e F) (fun _ => ∀ Z A,PE X e (tDO X Z A F)):=⟨fun h => h.go⟩
inductive tDWK (K:PySem.W.Frag) (Z:Zt) (A:List Addr) (F:FE) (σ:L2.St) (H:Hp) (Q:VK):Prop
  | mk (B:Hp) (ow:Ow) (δ:Sl) (s:Sx) (d:D) (s':Sx) (h0:RepS K B Z A ow σ δ H) (h1:StateAt Z H s) (h2:F δ s = some (d,s')) (h3:∀ v H',Ext Z H H'→StateAt Z H' s'→RepW K Z H' (A ++ ow.map (·.2)) v d→Q v H')
noncomputable abbrev tDW (X:Cx) (Z:Zt) (A:List Addr) (F:FE):TE:=tDWK X.K Z A F
structure DW (X:Cx) (e:Expr) (F:FE):Prop where
  go:∀ Z A,PE X e (tDW X Z A F)
instance {X:Cx} {e:Expr} {F:FE}:CoeFun (DW X e F) (fun _ => ∀ Z A,PE X e (tDW X Z A F)):=⟨fun h => h.go⟩
theorem PE.imp {X:Cx} {e:Expr} {t t':TE} (h:PE X e t) (hi:∀ σ H Q,t' σ H Q→t σ H Q):PE X e t':=fun pins s σ H Q I q => h pins s σ H Q I (hi σ H Q q)
theorem PT.imp {X:Cx} {e:Expr} {t t':TT} (h:PT X e t) (hi:∀ σ H Q,t' σ H Q→t σ H Q):PT X e t':=fun pins s σ H Q I q => h pins s σ H Q I (hi σ H Q q)
theorem PA.imp {X:Cx} {e:List Expr} {t t':TA} (h:PA X e t) (hi:∀ σ H Q,t' σ H Q→t σ H Q):PA X e t':=fun pos pins s σ H Q I q => h pos pins s σ H Q I (hi σ H Q q)
theorem PS.imp {X:Cx} {st:Stmt} {t t':TS} (h:PS X st t) (hi:∀ D σ H,t' D σ H→t D σ H):PS X st t':=fun pins s σ H D I q => h pins s σ H D I (hi D σ H q)
theorem PSs.imp {X:Cx} {st:List Stmt} {t t':TS} (h:PSs X st t) (hi:∀ D σ H,t' D σ H→t D σ H):PSs X st t':=fun pins s σ H D I q => h pins s σ H D I (hi D σ H q)

section
variable {X:Cx} {a b c:Expr} {Fa Fb Fc:FE} {pos:Pos}
noncomputable def fVar (i:Nat):FE:=fun δ s => match δ[i]? with | some (.val d) => some (d,s) | _ => none
noncomputable def fC (d:D):FE:=fun _ s => some (d,s)
theorem de_of {e:Expr} {i:Nat} (h:PE X e (tVar i)):DE X e (fVar i):=⟨fun Z A => PE.imp h fun σ H Q x__76 => by
  obtain ⟨B,ow,δ,s,d,s',R,S,e,q⟩:=x__76
  unfold fVar at e
  split at e
  · rename_i d' hd
    cases e
    obtain ⟨v,h1,h2⟩:=R.val i _ hd
    exact ⟨v,h1,q v H (Ext.refl H) S h2⟩
  · cases e⟩
theorem dv (i:Nat) {x:Str} (hN:X.N[i]? = some x:=by rfl) (hv:Vis X.env.scope x:=by first | exact Or.inl rfl | exact Or.inr (Or.inl rfl) | exact Or.inr (Or.inr rfl)) (hd:(x == ("__debug__":Str)) = false:=by decide)
    (hcd:(x == ("__classdict__":Str)) = false:=by decide):DE X (.Name x pos) (fVar i):=de_of (pv i hN hv hd hcd)
theorem de_const {e:Expr} {v:V} {d:D} (h:PE X e (tC v)) (r:∀ K Z H A,Rep K Z H A v d):DE X e (fC d):=⟨fun Z A => PE.imp h fun σ H Q x__77 => by
  obtain ⟨B,ow,δ,s,d',s',R,S,e,q⟩:=x__77
  cases e
  exact q v H (Ext.refl H) S (r _ _ _ _)⟩
theorem de_int {i:Int} {j}:DE X (.Constant (.int i) j pos) (fC (.int i)):=de_const pe_int fun _ _ _ _ => .int i
theorem de_bl {i:Bool} {j}:DE X (.Constant (.bool i) j pos) (fC (.bool i)):=de_const pe_bl fun _ _ _ _ => .bl i
theorem de_non {j}:DE X (.Constant .none j pos) (fC .none):=de_const pe_non fun _ _ _ _ => .non
theorem de_str {x:Str} {j}:DE X (.Constant (.str x) j pos) (fC (.str x)):=de_const pe_str fun _ _ _ _ => .str x

theorem DE.w {e:Expr} {F:FE} (h:DE X e F):DW X e F:=⟨fun Z A => PE.imp (h Z A) fun σ H Q x__78 => (by obtain ⟨B,ow,δ,s,d,s',R,S,e,q⟩:=x__78; exact ⟨B,ow,δ,s,d,s',R,S,e,fun v H' a b c => q v H' a b c.w⟩)⟩
noncomputable def asL (F:FO):FE:=fun δ s => (F δ s).map fun p => (.list p.1,p.2)
noncomputable abbrev G2:=D→D→Option D
noncomputable def DOp (X:Cx) (f:Value→Value→Sem Value) (g:G2):Prop:=∀ (Z:Zt) (A:List Addr) (pins:List (Addr × Obj)) (s:Shared) (σ:L2.St) (H:Hp) (st:Sx) (x y:V) (v u:Value) (dx dy d:D) (Q:VK),
  Inv X pins σ H s→StateAt Z H st→(∀ q ∈ A,∃ o,H q = some o)→RepW X.K Z H A x dx→RepW X.K Z H A y dy→RelV x v→RelV y u→g dx dy = some d →
  (∀ v' H',Ext Z H H'→StateAt Z H' st→Rep X.K Z H' A v' d→Q v' H')→wpAny (model X.prog X.w) X.A (f v u) (EP X pins σ Q) X.xe s
theorem DOp.of {f:Value→Value→Sem Value} {g:G2} {r:R2} (h:OpR X f r)
    (hr:∀ (Z:Zt) (A:List Addr) (H:Hp) (st:Sx) (x y:V) (dx dy d:D) (Q:VK),StateAt Z H st→(∀ q ∈ A,∃ o,H q = some o)→RepW X.K Z H A x dx→RepW X.K Z H A y dy→g dx dy = some d →
      (∀ v' H',Ext Z H H'→StateAt Z H' st→Rep X.K Z H' A v' d→Q v' H')→r x y H Q):DOp X f g :=
  fun Z A pins s σ H st x y v u dx dy d Q I S hA rx ry vx vy e q => h pins s σ H x y v u Q I vx vy (hr Z A H st x y dx dy d Q S hA rx ry e q)
theorem DOp.or {f:Value→Value→Sem Value} {g g':G2} (h:DOp X f g) (h':DOp X f g'):DOp X f (fun a b => (g a b).or (g' a b)) :=
  fun Z A pins s σ H st x y v u dx dy d Q I S hA rx ry vx vy e q => by
    cases e1:g dx dy with
    | some d' => dsimp only at e; rw [e1] at e; exact h Z A pins s σ H st x y v u dx dy d Q I S hA rx ry vx vy (by rw [e1]; exact e) q
    | none => dsimp only at e; rw [e1] at e; exact h' Z A pins s σ H st x y v u dx dy d Q I S hA rx ry vx vy e q
noncomputable def f2 (g:G2) (Fa Fb:FE):FE:=fun δ s => (Fa δ s).bind fun p => (Fb δ p.2).bind fun q => (g p.1 q.1).map fun d => (d,q.2)
theorem two {g:G2} {f:Value→Value→Sem Value} (ho:DOp X f g) (ha:DW X a Fa) (hb:DW X b Fb) {Z:Zt} {A:List Addr} {pins:List (Addr × Obj)} {s:Shared} {σ:L2.St} {H:Hp} {Q:VK} (I:Inv X pins σ H s) (h:tD X Z A (f2 g Fa Fb) σ H Q) :
    wpAny (model X.prog X.w) X.A (eval a X.env) (fun v s₁ => wpAny (model X.prog X.w) X.A (eval b X.env) (fun u s₂ => wpAny (model X.prog X.w) X.A (f v u) (EP X pins σ Q) X.xe s₂) X.xe s₁) X.xe s:=by
  obtain ⟨B,ow,δ,st,d,st',R,S,e,q⟩:=h
  unfold f2 at e
  first | refine bnd2 e fun dx s1 e1 e => ?_ | refine mpp2 e fun dx s1 e1 e => ?_
  replace e:((Fb δ s1).bind fun q => (g dx q.1).map fun d => (d,q.2)) = some (d,st'):=e
  first | refine bnd2 e fun dy s2 e2 e => ?_ | refine mpp2 e fun dy s2 e2 e => ?_
  replace e:((g dx dy).map fun d => (d,s2)) = some (d,st'):=e
  cases e3:g dx dy with
  | none => rw [e3] at e; cases e
  | some d' =>
    rw [e3] at e
    cases e
    refine thn (ha Z A pins s σ H (fun x H1 => Ext Z H H1∧StateAt Z H1 s1∧RepW X.K Z H1 (A ++ ow.map (·.2)) x dx) I ⟨B,ow,δ,st,dx,s1,R,S,e1,fun v H' a b c => ⟨a,b,c⟩⟩) fun v s1' x__79 => ?_
    obtain ⟨x,H1,I1,r1,x1,S1,q1⟩:=x__79
    refine thn (hb Z A pins s1' σ H1 (fun y H2 => Ext Z H1 H2∧StateAt Z H2 st'∧RepW X.K Z H2 (A ++ ow.map (·.2)) y dy) I1 ⟨B,ow,δ,s1,dy,st',R.mono x1,S1,e2,fun v H' a b c => ⟨a,b,c⟩⟩) fun u s2' x__80 => ?_
    obtain ⟨y,H2,I2,r2,x2,S2,q2⟩:=x__80
    exact ho Z _ pins s2' σ H2 st' x y v u dx dy d Q I2 S2 ((R.mono x1).mono x2).all (q1.ext x2) q2 r1 r2 e3 fun v' H' a b c => q v' H' ((x1.trans x2).trans a) b c
theorem de_op {op:Operator} {g:G2} (ho:DOp X (binaryOp op) g) (ha:DW X a Fa) (hb:DW X b Fb):DE X (.BinOp a op b pos) (f2 g Fa Fb):=⟨fun _ _ _ _ _ _ _ I h => wpAny_BinOp (two ho ha hb I h)⟩
theorem de_cmp {op:CmpOp} {g:G2} (ho:DOp X (compareOp op) g) (ha:DW X a Fa) (hb:DW X b Fb) (hm:behindInMarks op b = false):DE X (.Compare a [op] [b] pos) (f2 g Fa Fb):=⟨fun _ _ _ _ _ _ _ I h => wpAny_Compare1 (two ho ha hb I h) hm⟩
noncomputable def asB (F:FE):FT:=fun δ s => (F δ s).bind fun p => match p.1 with | .bool b => some (b,p.2) | _ => none
theorem asB_of {Z:Zt} {A:List Addr} {F:FE} {σ:L2.St} {H:Hp} {Q:Bool→Hp→Prop} (h:tDT X Z A (asB F) σ H Q):tD X Z A F σ H fun x H' => ∃ k,x = .bl k∧Q k H':=by
  obtain ⟨B,ow,δ,st,b,st',R,S,e,q⟩:=h
  unfold asB at e
  first | refine bnd2 e fun d s1 e1 e => ?_ | refine mpp2 e fun d s1 e1 e => ?_
  cases d <;> first | (cases e; done) | skip
  cases e
  exact ⟨B,ow,δ,st,_,_,R,S,e1,fun v H' a b c => by cases c; exact ⟨_,rfl,q H' a b⟩⟩
theorem dt_cmp {op:CmpOp} {g:G2} (ho:DOp X (compareOp op) g) (ha:DW X a Fa) (hb:DW X b Fb) (hm:behindInMarks op b = false):DT X (.Compare a [op] [b] pos) (asB (f2 g Fa Fb)):=⟨fun Z A pins s σ H Q I h => by
  refine wpAny_isTrue_Compare1 (thn (two ho ha hb I (asB_of h)) fun v s1 h1 => thn h1 fun u s2 h2 => thn h2 fun cv s3 x__81 => ?_) hm
  obtain ⟨x,H1,I1,r1,k,e,q1⟩:=x__81
  subst e
  cases r1
  exact wpAny_truthy_bool ⟨H1,I1,q1⟩⟩
noncomputable def gI (C:Int→Int→Bool) (f:Int→Int→D):G2:=fun a b => match a,b with | .int i,.int j => if C i j then some (f i j) else none | _,_ => none
theorem dop_int {f:Value→Value→Sem Value} {C:Int→Int→Prop} {Cb:Int→Int→Bool} {gv:Int→Int→V} {gd:Int→Int→D} (h:OpR X f (rI C gv)) (hC:∀ i j,Cb i j = true→C i j) (hg:∀ i j K Z H A,Rep K Z H A (gv i j) (gd i j)):DOp X f (gI Cb gd) :=
  DOp.of h fun Z A H st x y dx dy d Q S hA rx ry e q => by
    unfold gI at e
    split at e
    · have ex:=rx.int
      have ey:=ry.int
      subst ex ey
      split at e
      · rename_i i j hc
        cases e
        exact ⟨i,j,rfl,rfl,hC i j hc,q _ H (Ext.refl H) S (hg i j _ _ _ _)⟩
      · cases e
    · cases e
theorem rI0_of {g:Int→Int→V} {f:Value→Value→Sem Value} (h:OpR X f (rI0 g)):OpR X f (rI (fun _ _ => True) g):=fun pins s σ H x y v u Q I rx ry x__82 => (by obtain ⟨i,j,e1,e2,_,q⟩:=x__82; exact h pins s σ H x y v u Q I rx ry ⟨i,j,e1,e2,q⟩)
noncomputable def gAddI:G2:=gI (fun _ _ => true) fun i j => .int (i + j)
noncomputable def gSubI:G2:=gI (fun _ _ => true) fun i j => .int (i - j)
noncomputable def mulOk (i j:Int):Bool:=decide (Builtin.Int.intBits i + Builtin.Int.intBits j ≤ 134217728)
noncomputable def divOk (_ j:Int):Bool:=decide (j ≠ 0) && decide (j.natAbs.log2 < 9000)
theorem dadd_int:DOp X (binaryOp .Add) gAddI:=dop_int (rI0_of op_add) (fun _ _ _ => trivial) fun i j _ _ _ _ => .int _
theorem dsub_int:DOp X (binaryOp .Sub) gSubI:=dop_int (rI0_of op_sub) (fun _ _ _ => trivial) fun i j _ _ _ _ => .int _
noncomputable def gLt:G2:=gI (fun _ _ => true) fun i j => .bool (decide (i < j))
noncomputable def gGt:G2:=gI (fun _ _ => true) fun i j => .bool (decide (j < i))
theorem dlt:DOp X (compareOp .Lt) gLt:=dop_int (rI0_of op_lt) (fun _ _ _ => trivial) fun i j _ _ _ _ => .bl _
theorem dgt:DOp X (compareOp .Gt) gGt:=dop_int (rI0_of op_gt) (fun _ _ _ => trivial) fun i j _ _ _ _ => .bl _
end
end L3

namespace L3
open PySem L2 PySem.Spec PyProof.Rows

section
variable {X:Cx} {a b c e:Expr} {es:List Expr} {Fa Fb Fc F:FE} {Ga Gb:FT} {FL:FA} {pos:Pos}
theorem mulOk_ok {i j:Int} (h:mulOk i j = true):IntMulOk i j:=mulOk_of_bits (Nat.le_refl _) (Nat.le_refl _) (of_decide_eq_true h)
theorem op_mulB:OpR X (binaryOp .Mult) (rI (fun i j => mulOk i j = true) fun i j => .int (i * j)):=opI fun _ _ _ _ _ _ _ hc q => mul_int q (mulOk_ok hc)
theorem op_fdivB:OpR X (binaryOp .FloorDiv) (rI (fun i j => divOk i j = true) fun i j => .int (i.fdiv j)):=opI fun _ _ _ _ _ _ _ hc q => by
  have hc':(decide _ && decide _) = true:=hc
  rw [Bool.and_eq_true] at hc'
  exact floordiv_int (of_decide_eq_true hc'.1) q (.inl (PyProof.noPylong_of_log2 (of_decide_eq_true hc'.2)))
noncomputable def gMulI:G2:=gI mulOk fun i j => .int (i * j)
noncomputable def gDivI:G2:=gI divOk fun i j => .int (i.fdiv j)
noncomputable def gModI:G2:=gI (fun _ j => decide (j ≠ 0)) fun i j => .int (i.fmod j)
noncomputable def gPowI:G2:=gI (fun i j => decide (0 ≤ j) && decide (j ≤ 1000000) && decide (i.natAbs < 18446744073709551616)) fun i j => .int (i ^ j.toNat)
theorem dmul_int:DOp X (binaryOp .Mult) gMulI:=dop_int op_mulB (fun _ _ h => h) fun i j _ _ _ _ => .int _
theorem ddiv_int:DOp X (binaryOp .FloorDiv) gDivI:=dop_int op_fdivB (fun _ _ h => h) fun i j _ _ _ _ => .int _
theorem dmod_int:DOp X (binaryOp .Mod) gModI:=dop_int op_modN (fun _ _ h => of_decide_eq_true h) fun i j _ _ _ _ => .int _
theorem dpow_int:DOp X (binaryOp .Pow) gPowI:=dop_int op_pow (fun i j h => by
  rw [Bool.and_eq_true,Bool.and_eq_true] at h
  exact ⟨of_decide_eq_true h.1.1,of_decide_eq_true h.1.2,of_decide_eq_true h.2⟩) fun i j _ _ _ _ => .int _
noncomputable abbrev G1:=D→Option D
noncomputable def f1 (g:G1) (Fa:FE):FE:=fun δ s => (Fa δ s).bind fun p => (g p.1).map fun d => (d,p.2)
noncomputable def gNeg:G1:=fun d => match d with | .int i => some (.int (-i)) | _ => none
theorem de_neg (ha:DW X a Fa):DE X (.UnaryOp .USub a pos) (f1 gNeg Fa):=⟨fun Z A => PE.imp (pe_un un_neg (ha Z A)) fun σ H Q x__83 => by
  obtain ⟨B,ow,δ,s,d,s',R,S,e,q⟩:=x__83
  unfold f1 at e
  first | refine bnd2 e fun dx s1 e1 e => ?_ | refine mpp2 e fun dx s1 e1 e => ?_
  cases dx <;> first | (cases e; done) | skip
  cases e
  exact ⟨B,ow,δ,s,_,_,R,S,e1,fun v H' x1 S1 r => ⟨_,r.int,q _ H' x1 S1 (.int _)⟩⟩⟩
noncomputable def tAndF (Ga Gb:FT):FT:=fun δ s => (Ga δ s).bind fun p => if p.1 = true then Gb δ p.2 else some (false,p.2)
noncomputable def tOrF (Ga Gb:FT):FT:=fun δ s => (Ga δ s).bind fun p => if p.1 = true then some (true,p.2) else Gb δ p.2
noncomputable def tNotF (Ga:FT):FT:=fun δ s => (Ga δ s).map fun p => (!p.1,p.2)
structure DTW (X:Cx) (e:Expr) (F:FT):Prop where
  go:∀ Z A,PW X e (tDT X Z A F)
instance {X:Cx} {e:Expr} {F:FT}:CoeFun (DTW X e F) (fun _ => ∀ Z A,PW X e (tDT X Z A F)):=⟨fun h => h.go⟩
theorem DTW.t (h:DTW X e Ga):DT X e Ga:=⟨fun Z A => (h Z A).pt⟩
theorem dw_and1 (ha:DT X a Ga):DTW X (.BoolOp .And [a] pos) Ga:=⟨fun Z A => pw_and1 (ha Z A)⟩
theorem dw_or1 (ha:DT X a Ga):DTW X (.BoolOp .Or [a] pos) Ga:=⟨fun Z A => pw_or1 (ha Z A)⟩
theorem PW.imp {t t':TT} (h:PW X e t) (hi:∀ σ H Q,t' σ H Q→t σ H Q):PW X e t':=fun wh pins s σ H Q I q => h wh pins s σ H Q I (hi σ H Q q)
theorem dw_and (ha:DT X a Ga) (hb:DTW X (.BoolOp .And (b :: es) pos) Gb):DTW X (.BoolOp .And (a :: b :: es) pos) (tAndF Ga Gb):=⟨fun Z A => PW.imp (pw_and (ha Z A) (hb Z A)) fun σ H Q x__84 => by
  obtain ⟨B,ow,δ,s,d,s',R,S,e,q⟩:=x__84
  unfold tAndF at e
  first | refine bnd2 e fun k s1 e1 e => ?_ | refine mpp2 e fun k s1 e1 e => ?_
  refine ⟨B,ow,δ,s,k,s1,R,S,e1,fun H1 x1 S1 => ?_⟩
  cases k with
  | true => exact iteT ⟨B,ow,δ,s1,d,s',R.mono x1,S1,e,fun H2 x2 S2 => q H2 (x1.trans x2) S2⟩
  | false => cases e; exact iteF (q H1 x1 S1)⟩
theorem dw_or (ha:DT X a Ga) (hb:DTW X (.BoolOp .Or (b :: es) pos) Gb):DTW X (.BoolOp .Or (a :: b :: es) pos) (tOrF Ga Gb):=⟨fun Z A => PW.imp (pw_or (ha Z A) (hb Z A)) fun σ H Q x__85 => by
  obtain ⟨B,ow,δ,s,d,s',R,S,e,q⟩:=x__85
  unfold tOrF at e
  first | refine bnd2 e fun k s1 e1 e => ?_ | refine mpp2 e fun k s1 e1 e => ?_
  refine ⟨B,ow,δ,s,k,s1,R,S,e1,fun H1 x1 S1 => ?_⟩
  cases k with
  | true => cases e; exact iteT (q H1 x1 S1)
  | false => exact iteF ⟨B,ow,δ,s1,d,s',R.mono x1,S1,e,fun H2 x2 S2 => q H2 (x1.trans x2) S2⟩⟩
theorem dt_not (ha:DT X a Ga):DT X (.UnaryOp .Not a pos) (tNotF Ga):=⟨fun Z A => PT.imp (pt_not (ha Z A)) fun σ H Q x__86 => by
  obtain ⟨B,ow,δ,s,d,s',R,S,e,q⟩:=x__86
  unfold tNotF at e
  first | refine bnd1 e fun p e1 e => ?_ | refine mpp1 e fun p e1 e => ?_
  cases e
  exact ⟨B,ow,δ,s,_,_,R,S,e1,fun H1 x1 S1 => q H1 x1 S1⟩⟩
noncomputable def eAnd (Fa Fb:FE):FE:=fun δ s => (Fa δ s).bind fun p => match p.1 with | .bool true => Fb δ p.2 | .bool false => some (.bool false,p.2) | _ => none
theorem de_one {op} (ha:DE X a Fa):DE X (.BoolOp op [a] pos) Fa:=⟨fun Z A => pe_one (ha Z A)⟩
theorem de_and (ha:DE X a Fa) (hb:DE X (.BoolOp .And (b :: es) pos) Fb):DE X (.BoolOp .And (a :: b :: es) pos) (eAnd Fa Fb):=⟨fun Z A => PE.imp (pe_and (ha Z A) (hb Z A)) fun σ H Q x__87 => by
  obtain ⟨B,ow,δ,s,d,s',R,S,e,q⟩:=x__87
  unfold eAnd at e
  first | refine bnd2 e fun dx s1 e1 e => ?_ | refine mpp2 e fun dx s1 e1 e => ?_
  cases dx with
  | bool k =>
    refine ⟨B,ow,δ,s,_,s1,R,S,e1,fun v H1 x1 S1 r => ?_⟩
    cases r
    refine ⟨k,rfl,?_⟩
    cases k with
    | true => exact iteT ⟨B,ow,δ,s1,d,s',R.mono x1,S1,e,fun v H2 x2 S2 r => q v H2 (x1.trans x2) S2 r⟩
    | false => cases e; exact iteF (q _ H1 x1 S1 (.bl _))
  | _ => cases e⟩
noncomputable def gNot:G1:=fun d => match d with | .bool k => some (.bool (!k)) | _ => none
theorem de_not (ha:DE X a Fa):DE X (.UnaryOp .Not a pos) (f1 gNot Fa):=⟨fun Z A => PE.imp (pe_not (ha Z A)) fun σ H Q x__88 => by
  obtain ⟨B,ow,δ,s,d,s',R,S,e,q⟩:=x__88
  unfold f1 at e
  first | refine bnd2 e fun dx s1 e1 e => ?_ | refine mpp2 e fun dx s1 e1 e => ?_
  cases dx with
  | bool k => cases e; exact ⟨B,ow,δ,s,_,_,R,S,e1,fun v H' x1 S1 r => by cases r; exact ⟨_,rfl,q _ H' x1 S1 (.bl _)⟩⟩
  | _ => cases e⟩
noncomputable def eIf (Ga:FT) (Fa Fb:FE):FE:=fun δ s => (Ga δ s).bind fun p => if p.1 = true then Fa δ p.2 else Fb δ p.2
theorem de_if (hc:DT X c Ga) (ha:DE X a Fa) (hb:DE X b Fb):DE X (.IfExp c a b pos) (eIf Ga Fa Fb):=⟨fun Z A => PE.imp (pe_ifExp (hc Z A) (ha Z A) (hb Z A)) fun σ H Q x__89 => by
  obtain ⟨B,ow,δ,s,d,s',R,S,e,q⟩:=x__89
  unfold eIf at e
  first | refine bnd2 e fun k s1 e1 e => ?_ | refine mpp2 e fun k s1 e1 e => ?_
  refine ⟨B,ow,δ,s,k,s1,R,S,e1,fun H1 x1 S1 => ?_⟩
  cases k with
  | true => exact iteT ⟨B,ow,δ,s1,d,s',R.mono x1,S1,e,fun v H2 x2 S2 r => q v H2 (x1.trans x2) S2 r⟩
  | false => exact iteF ⟨B,ow,δ,s1,d,s',R.mono x1,S1,e,fun v H2 x2 S2 r => q v H2 (x1.trans x2) S2 r⟩⟩
noncomputable def aNil:FA:=fun _ s => some ([],s)
noncomputable def aCons (Fa:FE) (FL:FA):FA:=fun δ s => (Fa δ s).bind fun p => (FL δ p.2).map fun q => (p.1 :: q.1,q.2)
theorem da_nil:DA X [] aNil:=⟨fun Z A => PA.imp pa_nil fun σ H Q x__90 => by
  obtain ⟨B,ow,δ,s,d,s',R,S,e,q⟩:=x__90
  cases e
  exact q [] H (Ext.refl H) S .nil⟩
theorem da_cons (ha:DE X e Fa) (hr:DA X es FL) (hs:starEach (e :: es) X.env = (false,eval e X.env) :: starEach es X.env:=by rfl):DA X (e :: es) (aCons Fa FL):=⟨fun Z A => PA.imp (pa_cons (ha Z A) (hr Z A) hs) fun σ H Q x__91 => by
  obtain ⟨B,ow,δ,s,d,s',R,S,e,q⟩:=x__91
  unfold aCons at e
  first | refine bnd2 e fun dx s1 e1 e => ?_ | refine mpp2 e fun dx s1 e1 e => ?_
  replace e:((FL δ s1).map fun q => (dx :: q.1,q.2)) = some (d,s'):=e
  first | refine bnd1 e fun p2 e2 e => ?_ | refine mpp1 e fun p2 e2 e => ?_
  cases e
  exact ⟨B,ow,δ,s,dx,s1,R,S,e1,fun v H1 x1 S1 r => ⟨B,ow,δ,s1,p2.1,p2.2,R.mono x1,S1,e2,fun vs H2 x2 S2 rs => q _ H2 (x1.trans x2) S2 (.cons (r.ext x2) rs)⟩⟩⟩
noncomputable def small (ds:List D):Bool:=decide (ds.length ≤ sizeLine)
noncomputable def eTup (FL:FA):FE:=fun δ s => (FL δ s).bind fun p => if small p.1 = true then some (.tuple p.1,p.2) else none
noncomputable def eLst (FL:FA):FE:=fun δ s => (FL δ s).bind fun p => if small p.1 = true then some (.list p.1,p.2) else none
theorem de_tup {x1} (h:DA X es FL):DE X (.Tuple es x1 pos) (eTup FL):=⟨fun Z A => PE.imp (pe_tup (h Z A)) fun σ H Q x__92 => by
  obtain ⟨B,ow,δ,s,d,s',R,S,e,q⟩:=x__92
  unfold eTup at e
  first | refine bnd1 e fun p e1 e => ?_ | refine mpp1 e fun p e1 e => ?_
  replace e:(if small p.1 = true then some (PyData.tuple p.1,p.2) else none) = some (d,s'):=e
  split at e
  · rename_i hs
    cases e
    refine ⟨B,ow,δ,s,_,_,R,S,e1,fun vs H1 x1 S1 rs => ⟨?_,fun p hp => q _ _ (x1.trans (Ext.upd hp)) (S1.upd hp) (.tup upd_same (fresh_not (R.mono x1).all hp) (S1.notZ hp) (rs.ext (Ext.upd hp)))⟩⟩
    rw [rs.length]; exact of_decide_eq_true hs
  · cases e⟩
theorem de_lst (h:DA X es FL):DE X (.List es pos) (eLst FL):=⟨fun Z A => PE.imp (pe_lst (h Z A)) fun σ H Q x__93 => by
  obtain ⟨B,ow,δ,s,d,s',R,S,e,q⟩:=x__93
  unfold eLst at e
  first | refine bnd1 e fun p e1 e => ?_ | refine mpp1 e fun p e1 e => ?_
  replace e:(if small p.1 = true then some (PyData.list p.1,p.2) else none) = some (d,s'):=e
  split at e
  · rename_i hs
    cases e
    refine ⟨B,ow,δ,s,_,_,R,S,e1,fun vs H1 x1 S1 rs => ⟨?_,fun p hp => q _ _ (x1.trans (Ext.upd hp)) (S1.upd hp) (.lst upd_same (fresh_not (R.mono x1).all hp) (S1.notZ hp) (rs.ext (Ext.upd hp)))⟩⟩
    rw [rs.length]; exact of_decide_eq_true hs
  · cases e⟩
noncomputable def gIx:G2:=fun a b => match a,b with | .list xs,.int i => atI xs i | .tuple xs,.int i => atI xs i | _,_ => none
theorem Reps.atI {K:PySem.W.Frag} {Z:Zt} {H:Hp} {A:List Addr} {vs:List V} {ds:List D} {i:Int} {d:D} (r:Reps K Z H A vs ds) (e:L2.atI ds i = some d):∃ v,L2.atI vs i = some v∧Rep K Z H A v d:=by
  unfold L2.atI at e ⊢
  rw [r.length]
  cases e1:ixN ds.length i with
  | none => rw [e1] at e; cases e
  | some j =>
    rw [e1] at e
    obtain ⟨v,h1,h2⟩:=r.get (i:=j) (d:=d) e
    exact ⟨v,h1,h2⟩
theorem de_ix (ha:DW X a Fa) (hb:DW X b Fb) (hs:PlainIx b):DE X (.Subscript a b pos) (f2 gIx Fa Fb):=⟨fun Z A => PE.imp (pe_ix (ix_list.or ix_tup) (ha Z A) (hb Z A) hs) fun σ H Q x__94 => by
  obtain ⟨B,ow,δ,s,d,s',R,S,e,q⟩:=x__94
  unfold f2 at e
  first | refine bnd2 e fun dx s1 e1 e => ?_ | refine mpp2 e fun dx s1 e1 e => ?_
  replace e:((Fb δ s1).bind fun q => (gIx dx q.1).map fun d => (d,q.2)) = some (d,s'):=e
  first | refine bnd2 e fun dy s2 e2 e => ?_ | refine mpp2 e fun dy s2 e2 e => ?_
  replace e:((gIx dx dy).map fun d => (d,s2)) = some (d,s'):=e
  cases e3:gIx dx dy with
  | none => rw [e3] at e; cases e
  | some d' =>
    rw [e3] at e
    cases e
    refine ⟨B,ow,δ,s,dx,s1,R,S,e1,fun v H1 x1 S1 r1 => ⟨B,ow,δ,s1,dy,s',R.mono x1,S1,e2,fun u H2 x2 S2 r2 => ?_⟩⟩
    unfold gIx at e3
    split at e3
    · rename_i xs i
      have eu:=r2.int
      obtain ⟨p,vs,ev,sq,_,rs⟩:=(r1.ext x2).list
      obtain ⟨w',h1,h2⟩:=Reps.atI rs e3
      exact .inl ⟨p,vs,i,w',ev,eu,sq,h1,q w' H2 (x1.trans x2) S2 h2⟩
    · rename_i xs i
      have eu:=r2.int
      obtain ⟨p,vs,ev,sq,rs⟩:=(r1.ext x2).tuple
      obtain ⟨w',h1,h2⟩:=Reps.atI rs e3
      exact .inr ⟨p,vs,i,w',ev,eu,sq,h1,q w' H2 (x1.trans x2) S2 h2⟩
    · cases e3⟩
theorem Reps.reads {K:PySem.W.Frag} {pins:List (Addr × Obj)} {σ:L2.St} {H:Hp} {s:Shared} (hK:X.K = K) (I:Inv X pins σ H s) {Z:Zt} {A:List Addr} {vs:List V} {ds:List D} (x:Reps K Z H A vs ds):PyData.canLayAll0 ds = true→∀ us,Vals vs us→∃ as,ReadsAll s.heap us ds as :=
  Reps.rec (motive_1:=fun v d _ => d.canLay0 = true→∀ u,RelV v u→∃ as,Reads s.heap u d as) (motive_2:=fun vs ds _ => PyData.canLayAll0 ds = true→∀ us,Vals vs us→∃ as,ReadsAll s.heap us ds as)
    (fun _ _ r => by cases r; exact ⟨_,.none⟩) (fun b _ _ r => by cases r; exact ⟨_,.bool b⟩) (fun i _ _ r => by obtain ⟨t,rfl⟩:=r; exact ⟨_,.int i t⟩) (fun x _ _ r => by obtain ⟨t,rfl⟩:=r; exact ⟨_,.str x t⟩)
    (fun h n z _ ih c u r => by
      cases r
      obtain ⟨its,rv,⟨o,e1,e2,m,e3⟩,_⟩:=I.tuple (.of h)
      obtain ⟨as,q⟩:=ih c _ rv
      exact ⟨as,.tuple e1 e2 e3 q⟩)
    (fun h n z _ ih c u r => by
      cases r
      obtain ⟨its,rv,p,_⟩:=I.list (.of h)
      obtain ⟨o,e1,e2,m,e3⟩:=p.isList
      obtain ⟨as,q⟩:=ih c _ rv
      exact ⟨_,.list e1 e2 e3 q⟩)
    (fun h _ ih c u r => by
      cases r
      obtain ⟨its,rv,⟨o,e1,e2,m,e3⟩,_⟩:=I.tuple (.inr (hK.symm ▸ h))
      obtain ⟨as,q⟩:=ih c _ rv
      exact ⟨as,.tuple e1 e2 e3 q⟩)
    (fun _ c _ _ => absurd c Bool.false_ne_true) (fun _ _ _ _ _ _ c _ _ => absurd c Bool.false_ne_true)
    (fun _ _ r => by cases r; exact ⟨_,.nil⟩)
    (fun _ _ h1 h2 c us r => by
      cases r with
      | cons q w =>
        obtain ⟨as,g1⟩:=h1 ((Bool.and_eq_true _ _).mp c).1 _ q
        obtain ⟨bs,g2⟩:=h2 ((Bool.and_eq_true _ _).mp c).2 _ w
        exact ⟨_,.cons g1 g2⟩) x
theorem Rep.reads {K:PySem.W.Frag} {pins:List (Addr × Obj)} {σ:L2.St} {H:Hp} {s:Shared} (hK:X.K = K) (I:Inv X pins σ H s) {Z:Zt} {A:List Addr} {v:V} {d:D} {u:Value} (x:Rep K Z H A v d) (c:d.canLay0 = true) (r:RelV v u):∃ as,Reads s.heap u d as:=by
  obtain ⟨as,h⟩:=Reps.reads hK I (.cons x .nil) (by rw [PyData.canLayAll0,c]; rfl) [u] (.cons r .nil)
  cases h with
  | cons h _ => exact ⟨_,h⟩
theorem RepW.reads {pins:List (Addr × Obj)} {σ:L2.St} {H:Hp} {s:Shared} (I:Inv X pins σ H s) {Z:Zt} {A:List Addr} {v:V} {d:D} {u:Value} (r:RepW X.K Z H A v d) (c:d.canLay0 = true) (ru:RelV v u):∃ as,Reads s.heap u d as:=by
  rcases r with r | ⟨p,vs,ds,rfl,rfl,e3,e4,e5⟩
  · exact r.reads rfl I c ru
  · cases ru
    obtain ⟨its,rv,pl,_⟩:=I.list (SqL.of e3)
    obtain ⟨o,e1,e2,m,e3⟩:=pl.isList
    obtain ⟨as,q⟩:=Reps.reads rfl I e5 (by simpa [PyData.canLay0] using c) _ rv
    exact ⟨_,.list e1 e2 e3 (by simpa using q)⟩
noncomputable def gEq:G2:=fun a b => if (SeqAt.shaped a && SeqAt.shaped b) = true then some (.bool (PyData.eqv a b)) else none
noncomputable def gNe:G2:=fun a b => if (SeqAt.shaped a && SeqAt.shaped b) = true then some (.bool (!PyData.eqv a b)) else none
theorem deq (hu:X.A.units + 64 < cLine):DOp X (compareOp .Eq) gEq:=fun Z A pins s σ H st x y v u dx dy d Q I S hA rx ry vx vy e q => by
  unfold gEq at e
  split at e
  · rename_i hc
    cases e
    rw [Bool.and_eq_true] at hc
    obtain ⟨as,h1⟩:=rx.reads I (SeqAt.canLay_of_shaped hc.1) vx
    obtain ⟨bs,h2⟩:=ry.reads I (SeqAt.canLay_of_shaped hc.2) vy
    exact eq_dataH h1 h2 hc.1 hc.2 hu ⟨.bl _,H,I,rfl,q _ H (Ext.refl H) S (.bl _)⟩
  · cases e
theorem dne (hu:X.A.units + 64 < cLine):DOp X (compareOp .NotEq) gNe:=fun Z A pins s σ H st x y v u dx dy d Q I S hA rx ry vx vy e q => by
  unfold gNe at e
  split at e
  · rename_i hc
    cases e
    rw [Bool.and_eq_true] at hc
    obtain ⟨as,h1⟩:=rx.reads I (SeqAt.canLay_of_shaped hc.1) vx
    obtain ⟨bs,h2⟩:=ry.reads I (SeqAt.canLay_of_shaped hc.2) vy
    exact ne_dataH h1 h2 hc.1 hc.2 hu ⟨.bl _,H,I,rfl,q _ H (Ext.refl H) S (.bl _)⟩
  · cases e
@[simp] def isNon:D→Option Bool
  | .none => some true
  | .bool _ | .int _ | .str _ | .list _ | .tuple _ => some false
  | _ => none
noncomputable def gIs:G2:=fun a b => match b with | .none => (isNon a).map .bool | .bool j => (match a with | .bool i => some (.bool (i == j)) | _ => none) | _ => none
theorem RepW.isNon {K:PySem.W.Frag} {Z:Zt} {H:Hp} {A:List Addr} {v:V} {d:D} {b:Bool} (r:RepW K Z H A v d) (e:isNon d = some b):decide (v = .non) = b:=by
  rcases r with r | ⟨p,vs,ds,e1,e2,e3,e4,e5⟩
  · cases r <;> cases e <;> rfl
  · subst e1 e2; cases e; rfl
theorem op_is_bl:OpR X (compareOp .Is) (fun x y H Q => ∃ i j,x = .bl i∧y = .bl j∧Q (.bl (i == j)) H):=fun pins s σ H x y v u Q I rx ry x__95 => by
  obtain ⟨i,j,e1,e2,q⟩:=x__95
  subst e1 e2; cases rx; cases ry
  exact is_bool ⟨.bl _,H,I,rfl,q⟩
theorem dis:DOp X (compareOp .Is) gIs:=DOp.of (op_is_bl.or op_isN) fun Z A H st x y dx dy d Q S hA rx ry e q => by
  unfold gIs at e
  split at e
  · refine mpp1 e fun b e1 e => ?_
    subst e
    exact .inr ⟨ry.none,by rw [RepW.isNon rx e1]; exact q _ H (Ext.refl H) S (.bl _)⟩
  · split at e
    · cases e
      exact .inl ⟨_,_,rx.bool,ry.bool,q _ H (Ext.refl H) S (.bl _)⟩
    · cases e
  · cases e
end
end L3

namespace L3
open PySem L2 PySem.Spec PyProof.Rows
theorem lenS {α:Type} {us:List α} {n:Nat} (h:us.length = n + 1):∃ a t,us = a :: t∧t.length = n:=by
  cases us with
  | nil => cases h
  | cons a t => exact ⟨a,t,rfl,Nat.succ.inj h⟩
theorem len1 {α:Type} {us:List α} (h:us.length = 1):∃ a0,us = [a0]:=by
  obtain ⟨a,t,rfl,h2⟩:=lenS h
  cases List.eq_nil_of_length_eq_zero h2
  exact ⟨a,rfl⟩
theorem len2 {α:Type} {us:List α} (h:us.length = 2):∃ a0 a1,us = [a0,a1]:=by
  obtain ⟨a0,t,rfl,h2⟩:=lenS h
  obtain ⟨a1,rfl⟩:=len1 h2
  exact ⟨a0,a1,rfl⟩
theorem len3 {α:Type} {us:List α} (h:us.length = 3):∃ a0 a1 a2,us = [a0,a1,a2]:=by
  obtain ⟨a0,t,rfl,h2⟩:=lenS h
  obtain ⟨a1,a2,rfl⟩:=len2 h2
  exact ⟨a0,a1,a2,rfl⟩
theorem len4 {α:Type} {us:List α} (h:us.length = 4):∃ a0 a1 a2 a3,us = [a0,a1,a2,a3]:=by
  obtain ⟨a0,t,rfl,h2⟩:=lenS h
  obtain ⟨a1,a2,a3,rfl⟩:=len3 h2
  exact ⟨a0,a1,a2,a3,rfl⟩
inductive rD1 (K:PySem.W.Frag) (g:G1) (xs:List V) (H:Hp) (Q:VK):Prop
  | mk (Z:Zt) (A:List Addr) (st:Sx) (x:V) (dx:D) (d:D) (h0:xs = [x]) (h1:StateAt Z H st) (h2:(∀ q ∈ A,∃ o,H q = some o)) (h3:RepW K Z H A x dx) (h4:g dx = some d) (h5:∀ v' H',Ext Z H H'→StateAt Z H' st→Rep K Z H' A v' d→Q v' H')
inductive rD2 (K:PySem.W.Frag) (g:G2) (xs:List V) (H:Hp) (Q:VK):Prop
  | mk (Z:Zt) (A:List Addr) (st:Sx) (x:V) (y:V) (dx:D) (dy:D) (d:D) (h0:xs = [x,y]) (h1:StateAt Z H st) (h2:(∀ q ∈ A,∃ o,H q = some o)) (h3:RepW K Z H A x dx) (h4:RepW K Z H A y dy) (h5:g dx dy = some d) (h6:∀ v' H',Ext Z H H'→StateAt Z H' st→Rep K Z H' A v' d→Q v' H')
section
variable {X:Cx} {e e2:Expr} {es:List Expr} {Fa Fb:FE} {FL:FA} {x:Str} {id T:String} {p pos:Pos} {g:G1} {g2:G2}
theorem CallR.imp {f:Value} {r r':List V→Hp→VK→Prop} (h:CallR X f r) (hi:∀ xs H Q,r' xs H Q→r xs H Q):CallR X f r':=fun pins s σ H xs us Q I rv q => h pins s σ H xs us Q I rv (hi xs H Q q)
theorem read1 {Z:Zt} {A:List Addr} {σ:L2.St} {H:Hp} {Q:VK} (h:tD X Z A (f1 g Fa) σ H Q):tDW X Z A Fa σ H fun x H1 => tNil σ H1 fun xs H2 => rD1 X.K g (x :: xs) H2 Q:=by
  obtain ⟨B,ow,δ,s,d,s',R,S,e,q⟩:=h
  unfold f1 at e
  first | refine bnd2 e fun dx s1 e1 e => ?_ | refine mpp2 e fun dx s1 e1 e => ?_
  replace e:((g dx).map fun d => (d,s1)) = some (d,s'):=e
  cases e3:g dx with
  | none => rw [e3] at e; cases e
  | some d' =>
    rw [e3] at e
    cases e
    exact ⟨B,ow,δ,s,dx,s',R,S,e1,fun v H1 x1 S1 r1 => ⟨Z,_,s',v,dx,d,rfl,S1,(R.mono x1).all,r1,e3,fun v' H' a b c => q v' H' (x1.trans a) b c⟩⟩
theorem read2 {Z:Zt} {A:List Addr} {σ:L2.St} {H:Hp} {Q:VK} (h:tD X Z A (f2 g2 Fa Fb) σ H Q):tDW X Z A Fa σ H fun x H1 => tDW X Z A Fb σ H1 fun y H2 => tNil σ H2 fun xs H3 => rD2 X.K g2 (x :: y :: xs) H3 Q:=by
  obtain ⟨B,ow,δ,s,d,s',R,S,e,q⟩:=h
  unfold f2 at e
  first | refine bnd2 e fun dx s1 e1 e => ?_ | refine mpp2 e fun dx s1 e1 e => ?_
  replace e:((Fb δ s1).bind fun q => (g2 dx q.1).map fun d => (d,q.2)) = some (d,s'):=e
  first | refine bnd2 e fun dy s2 e2 e => ?_ | refine mpp2 e fun dy s2 e2 e => ?_
  replace e:((g2 dx dy).map fun d => (d,s2)) = some (d,s'):=e
  cases e3:g2 dx dy with
  | none => rw [e3] at e; cases e
  | some d' =>
    rw [e3] at e
    cases e
    exact ⟨B,ow,δ,s,dx,s1,R,S,e1,fun v H1 x1 S1 r1 => ⟨B,ow,δ,s1,dy,s',R.mono x1,S1,e2,fun u H2 x2 S2 r2 => ⟨Z,_,s',v,u,dx,dy,d,rfl,S2,((R.mono x1).mono x2).all,r1.ext x2,r2,e3,fun v' H' a b c => q v' H' ((x1.trans x2).trans a) b c⟩⟩⟩
theorem de_b1 (hc:CallR X (.builtin id) (rD1 X.K g)) (hv:bootBuiltins x = some (.builtin id)) (hm:X.mg x = none) (ha:DW X e Fa) (hg:Gl X x:=by rfl) (hn:x ≠ "__name__":=by decide) (hdb:(x == ("__debug__":Str)) = false:=by decide)
    (hs:starEach [e] X.env = (false,eval e X.env) :: starEach [] X.env:=by rfl):DE X (.Call (.Name x p) [e] [] pos) (f1 g Fa):=⟨fun Z A => PE.imp (pe_callB hc hg hm hv (pa_cons (ha Z A) pa_nil hs) hn hdb hs rfl) fun σ H Q q => read1 q⟩
theorem de_b2 (hc:CallR X (.builtin id) (rD2 X.K g2)) (hv:bootBuiltins x = some (.builtin id)) (hm:X.mg x = none) (ha:DW X e Fa) (hb:DW X e2 Fb) (hg:Gl X x:=by rfl) (hn:x ≠ "__name__":=by decide) (hdb:(x == ("__debug__":Str)) = false:=by decide)
    (hs:starEach [e,e2] X.env = (false,eval e X.env) :: starEach [e2] X.env:=by rfl) (hs2:starEach [e2] X.env = (false,eval e2 X.env) :: starEach [] X.env:=by rfl) (hpl:(backTo pos (starEach [e2] X.env)).any (·.1) = false:=by rfl):DE X (.Call (.Name x p) [e,e2] [] pos) (f2 g2 Fa Fb):=⟨fun Z A => PE.imp (pe_callB hc hg hm hv (pa_cons (ha Z A) (pa_cons (hb Z A) pa_nil hs2) hs) hn hdb hs hpl) fun σ H Q q => read2 q⟩
theorem de_t1 (hc:CallR X (.type T) (rD1 X.K g)) (hv:bootBuiltins x = some (.type T)) (hm:X.mg x = none) (ha:DW X e Fa) (hg:Gl X x:=by rfl) (hn:x ≠ "__name__":=by decide) (hdb:(x == ("__debug__":Str)) = false:=by decide)
    (hs:starEach [e] X.env = (false,eval e X.env) :: starEach [] X.env:=by rfl):DE X (.Call (.Name x p) [e] [] pos) (f1 g Fa):=⟨fun Z A => PE.imp (pe_callTy hc hg hm hv (pa_cons (ha Z A) pa_nil hs) hn hdb hs rfl) fun σ H Q q => read1 q⟩
noncomputable def gLen:G1:=fun d => match d with | .list xs => some (.int xs.length) | .tuple xs => some (.int xs.length) | _ => none
theorem dc_len:CallR X (.builtin "len") (rD1 X.K gLen):=CallR.imp call_len_seq fun xs H Q x__96 => by
  obtain ⟨Z,A,st,x,dx,d,e0,S,hA,rx,e,q⟩:=x__96
  subst e0
  cases dx with
  | list ds => cases e; obtain ⟨p,vs,ev,sq,_,rs⟩:=rx.list; exact ⟨p,vs,by rw [ev],.inl sq,by rw [rs.length]; exact q _ H (Ext.refl H) S (.int _)⟩
  | tuple ds => cases e; obtain ⟨p,vs,ev,sq,rs⟩:=rx.tuple; exact ⟨p,vs,by rw [ev],.inr sq,by rw [rs.length]; exact q _ H (Ext.refl H) S (.int _)⟩
  | _ => cases e
noncomputable def gAbs:G1:=fun d => match d with | .int i => some (.int (if i < 0 then -i else i)) | _ => none
theorem dc_abs:CallR X (.builtin "abs") (rD1 X.K gAbs):=CallR.imp call_abs fun xs H Q x__97 => by
  obtain ⟨Z,A,st,x,dx,d,e0,S,hA,rx,e,q⟩:=x__97
  subst e0
  cases dx with
  | int i => cases e; exact ⟨i,by rw [rx.int],q _ H (Ext.refl H) S (.int _)⟩
  | _ => cases e
noncomputable def gInt:G1:=fun d => match d with | .int i => some (.int i) | .bool k => some (.int (if k then 1 else 0)) | _ => none
theorem dc_int:CallR X (.type "int") (rD1 X.K gInt):=CallR.imp call_int1 fun xs H Q x__98 => by
  obtain ⟨Z,A,st,x,dx,d,e0,S,hA,rx,e,q⟩:=x__98
  subst e0
  cases dx with
  | int i => cases e; exact .inl ⟨i,by rw [rx.int],q _ H (Ext.refl H) S (.int _)⟩
  | bool i => cases e; exact .inr ⟨i,by rw [rx.bool],q _ H (Ext.refl H) S (.int _)⟩
  | _ => cases e
noncomputable def gMax:G2:=gI (fun _ _ => true) fun i j => .int (if j > i then j else i)
theorem dc_max (hc:X.calm = true):CallR X (.builtin "max") (rD2 X.K gMax):=CallR.imp (call_max2 hc) fun xs H Q x__99 => by
  obtain ⟨Z,A,st,x,y,dx,dy,d,e0,S,hA,rx,ry,e,q⟩:=x__99
  subst e0
  unfold gMax gI at e
  split at e
  · cases e; exact ⟨_,_,by rw [rx.int,ry.int],q _ H (Ext.refl H) S (.int _)⟩
  · cases e
noncomputable def gTuple:G1:=fun d => match d with | .list xs => some (.tuple xs) | .tuple xs => some (.tuple xs) | _ => none
theorem dc_tuple:CallR X (.type "tuple") (rD1 X.K gTuple):=CallR.imp call_tuple_of fun xs H Q x__100 => by
  obtain ⟨Z,A,st,x,dx,d,e0,S,hA,rx,e,q⟩:=x__100
  subst e0
  cases dx with
  | list ds =>
    cases e; obtain ⟨p,vs,ev,sq,_,rs⟩:=rx.list
    exact ⟨p,vs,by rw [ev],.inl ⟨sq,fun l hl => q _ _ (Ext.upd hl) (S.upd hl) (.tup upd_same (fresh_not hA hl) (S.notZ hl) (rs.ext (Ext.upd hl)))⟩⟩
  | tuple ds =>
    cases e
    have rx':=rx
    obtain ⟨p,vs,ev,sq,rs⟩:=rx.tuple
    subst ev
    refine ⟨p,vs,rfl,.inr ⟨sq,q _ H (Ext.refl H) S ?_⟩⟩
    rcases rx' with r | ⟨_,_,_,_,e2,_⟩
    · exact r
    · cases e2
  | _ => cases e
noncomputable def gList:G1:=fun d => match d with | .list xs => some (.list xs) | .tuple xs => some (.list xs) | _ => none
theorem dc_list:CallR X (.type "list") (rD1 X.K gList):=CallR.imp call_list_of fun xs H Q x__101 => by
  obtain ⟨Z,A,st,x,dx,d,e0,S,hA,rx,e,q⟩:=x__101
  subst e0
  cases dx with
  | list ds =>
    cases e; obtain ⟨p,vs,ev,sq,_,rs⟩:=rx.list
    exact ⟨p,vs,by rw [ev],.inl sq,fun l hl => q _ _ (Ext.upd hl) (S.upd hl) (.lst upd_same (fresh_not hA hl) (S.notZ hl) (rs.ext (Ext.upd hl)))⟩
  | tuple ds =>
    cases e; obtain ⟨p,vs,ev,sq,rs⟩:=rx.tuple
    exact ⟨p,vs,by rw [ev],.inr sq,fun l hl => q _ _ (Ext.upd hl) (S.upd hl) (.lst upd_same (fresh_not hA hl) (S.notZ hl) (rs.ext (Ext.upd hl)))⟩
  | _ => cases e
noncomputable def bools:List D→Option (List Bool)
  | [] => some []
  | .bool k :: r => (bools r).map (k :: ·)
  | _ => none
noncomputable def gAll:G1:=fun d => match d with | .list xs => (bools xs).map fun ks => .bool (ks.all (fun b => b)) | _ => none
theorem bools_get:∀ {ds:List D} {ks:List Bool},bools ds = some ks→ds = ks.map PyData.bool
  | [],ks,e => by simp [bools] at e; subst e; rfl
  | d :: r,ks,e => by
    cases d with
    | bool k =>
      simp only [bools,Option.map_eq_some_iff] at e
      obtain ⟨ks',h1,rfl⟩:=e
      rw [bools_get h1]; rfl
    | _ => cases e
theorem range_all (ks:List Bool):(List.range ks.length).all (fun i => ks.getD i false) = ks.all (fun b => b):=by
  induction ks with
  | nil => rfl
  | cons k r ih =>
    rw [List.length_cons,List.range_succ_eq_map,List.all_cons,List.all_map,List.all_cons,← ih]
    congr 1
theorem dc_all (hc:X.calm = true):CallR X (.builtin "all") (rD1 X.K gAll):=fun pins s σ H xs us Q I rv x__102 => by
  obtain ⟨Z,A,st,x,dx,d,e0,S,hA,rx,e,q⟩:=x__102
  subst e0
  obtain ⟨u,rfl,ru⟩:=vals1 rv
  cases dx with
  | list ds =>
    replace e:((bools ds).map fun ks => PyData.bool (ks.all (fun b => b))) = some d:=e
    first | refine bnd1 e fun ks e1 e => ?_ | refine mpp1 e fun ks e1 e => ?_
    cases e
    have eds:=bools_get e1
    subst eds
    obtain ⟨p,vs,ev,sq,_,rs⟩:=rx.list
    subst ev
    cases (show u = Value.ref p from ru)
    obtain ⟨its,r2,pl,_⟩:=I.list sq
    have hl:=pl.isList
    have lens:its.length = ks.length:=by rw [← r2.length,rs.length,List.length_map]
    refine call_all_walk (wpAny_pyIter_list hl ?_)
    have lt:LT.lt (α:=Nat) p s.heap.objs.size:=by obtain ⟨_,e,_⟩:=hl; exact Heap.lt_size e
    refine ⟨_,_,_,_,_,_,fun i => ks.getD i false,rfl,Walks.list (A:=X.A.in1) (show X.A.in1.handled = none from I.ok.hd hc) s.heap.objs.size p (Nat.ne_of_lt lt) its.toArray,⟨⟨_,Heap.get?_push_size _ rfl,rfl,rfl⟩,hl.push _⟩,?_,fun h' tk kp => ?_⟩
    · intro i v s' Q' E' hP hQ
      have hi:its[i]? = some v:=by simpa using hP
      obtain ⟨vv,h1,h2⟩:∃ vv,vs[i]? = some vv∧RelV vv v:=by
        cases e3:vs[i]? with
        | none => rw [r2.none_of e3] at hi; cases hi
        | some vv => obtain ⟨u',h3,h4⟩:=r2.get e3; rw [h3] at hi; cases hi; exact ⟨vv,rfl,h4⟩
      obtain ⟨dd,h3,h4⟩:=rs.at h1
      rw [List.getElem?_map] at h3
      cases e4:ks[i]? with
      | none => rw [e4] at h3; cases h3
      | some k =>
        rw [e4] at h3
        cases h3
        cases h4
        cases h2
        refine wpAny_truthy_bool ?_
        have eg:ks.getD i false = k:=by simp [e4]
        have hQ2:Q' (ks.getD i false) s':=hQ
        rw [eg] at hQ2
        exact hQ2
    · have e5:(List.range its.toArray.size).all (fun i => ks.getD i false) = ks.all (fun b => b):=by rw [List.size_toArray,lens]; exact range_all ks
      rw [e5]
      refine ⟨.bl _,H,?_,rfl,q _ H (Ext.refl H) S (.bl _)⟩
      refine I.kept (h':=h') (t':=tk) fun b o eb => kp b o ?_ (Heap.get?_push_of_some _ eb)
      intro z
      have z':b = s.heap.objs.size:=by simpa using z
      rw [z'] at eb
      exact Nat.lt_irrefl _ (Heap.lt_size eb)
  | _ => cases e
noncomputable def tyN:D→Option String
  | .none => some "NoneType" | .bool _ => some "bool" | .int _ => some "int" | .str _ => some "str" | .list _ => some "list" | .tuple _ => some "tuple" | .dict _ => none
noncomputable def gInst (T:String):G1:=fun d => (tyN d).map fun t => .bool (t == T || (t == "bool" && T == "int"))
noncomputable def isTy (T:String):Bool:=T == "int" || T == "bool" || T == "str" || T == "list" || T == "tuple"
theorem kit_ty (K:PySem.W.Frag) {t T:String} (ht:t = "NoneType" ∨ t = "bool" ∨ t = "int" ∨ t = "str" ∨ t = "list" ∨ t = "tuple") (hT:isTy T = true):PySem.W.kitOne K (.type t) (.type T) = some (t == T || (t == "bool" && T == "int")):=by
  have hT':T = "int" ∨ T = "bool" ∨ T = "str" ∨ T = "list" ∨ T = "tuple":=by simpa [isTy,or_assoc] using hT
  rcases hT' with rfl | rfl | rfl | rfl | rfl <;> rcases ht with rfl | rfl | rfl | rfl | rfl | rfl <;> first | rfl | decide +kernel
theorem TypeIs.isinst {pins:List (Addr × Obj)} {σ:L2.St} {H:Hp} {s:Shared} {Z:Zt} {A:List Addr} {v:V} {d:D} {u:Value} {t:String} {Q:Value→Shared→Prop} (I:Inv X pins σ H s) (r:RepW X.K Z H A v d) (ru:RelV v u) (et:tyN d = some t) (hT:isTy T = true)
    (h:∀ tk,Q (.bool (t == T || (t == "bool" && T == "int"))) { s with toks:=tk }):wpAny (model X.prog X.w) X.A (call (.builtin "isinstance") [u,.type T]) Q X.xe s:=by
  cases d with
  | none => cases et; cases r.none; cases ru; exact PySem.W.kia_one PySem.W.kitx_none I.kIn True.intro (kit_ty X.K (by simp) hT) (fun z => nomatch z) h
  | bool b => cases et; cases r.bool; cases ru; exact PySem.W.kia_one PySem.W.kitx_bool I.kIn True.intro (kit_ty X.K (by simp) hT) (fun z => nomatch z) h
  | int b => cases et; cases r.int; obtain ⟨t,rfl⟩:=ru; exact PySem.W.kia_one PySem.W.kitx_int I.kIn True.intro (kit_ty X.K (by simp) hT) (fun z => nomatch z) h
  | str b => cases et; cases r.str; obtain ⟨t,rfl⟩:=ru; exact PySem.W.kia_one PySem.W.kitx_str I.kIn True.intro (kit_ty X.K (by simp) hT) (fun z => nomatch z) h
  | list ds =>
    cases et
    obtain ⟨p,vs,rfl,sq,_,rs⟩:=r.list
    cases ru
    obtain ⟨its,r2,pl,_⟩:=I.list sq
    obtain ⟨o,e1,e2,_⟩:=pl.isList
    exact PySem.W.kia_one PySem.W.kitx_list I.kIn ⟨o,e1,e2⟩ (kit_ty X.K (by simp) hT) (fun z => nomatch z) h
  | tuple ds =>
    cases et
    obtain ⟨p,vs,rfl,sq,rs⟩:=r.tuple
    cases ru
    obtain ⟨its,r2,⟨o,e1,e2,_⟩,_⟩:=I.tuple sq
    exact PySem.W.kia_one PySem.W.kitx_tuple I.kIn ⟨o,e1,e2⟩ (kit_ty X.K (by simp) hT) (fun z => nomatch z) h
  | dict _ => cases et
theorem dc_inst (hT:isTy T = true):CallR X (.builtin "isinstance") (fun xs H Q => ∃ y,xs = [y,.ty T]∧rD1 X.K (gInst T) [y] H Q):=fun pins s σ H xs us Q I rv x__103 => by
  obtain ⟨y,e0,Z,A,st,x,dx,d,e1,S,hA,rx,e,q⟩:=x__103
  subst e0
  cases e1
  obtain ⟨u,u2,rfl,ru,ru2⟩:=vals2 rv
  cases ru2
  unfold gInst at e
  first | refine bnd1 e fun t et e => ?_ | refine mpp1 e fun t et e => ?_
  cases e
  exact TypeIs.isinst I rx ru et hT fun tk => ⟨.bl _,H,I.tok tk,rfl,q _ H (Ext.refl H) S (.bl _)⟩
theorem de_inst {q:Pos} (hT:isTy T = true) (hv:bootBuiltins x = some (.type T)) (hm:X.mg "isinstance" = none) (hm2:X.mg x = none) (ha:DW X e Fa) (hg:Gl X "isinstance":=by rfl) (hg2:Gl X x:=by rfl)
    (hn:x ≠ "__name__":=by decide) (hdb:(x == ("__debug__":Str)) = false:=by decide) (hs:starEach [e,.Name x q] X.env = (false,eval e X.env) :: starEach [.Name x q] X.env:=by rfl):DE X (.Call (.Name "isinstance" p) [e,.Name x q] [] pos) (f1 (gInst T) Fa):=⟨fun Z A => PE.imp (pe_callB (dc_inst hT) hg hm (by first | rfl | decide +kernel) (pa_cons (ha Z A) (pa_cons (pe_bltn (v:=.ty T) hg2 hm2 hv rfl hn hdb) pa_nil rfl) hs) (by decide) (by decide) hs rfl) fun σ H Q h => by
    obtain ⟨B,ow,δ,s,dx,s1,R,S,e1,q⟩:=read1 h
    exact ⟨B,ow,δ,s,dx,s1,R,S,e1,fun v H1 x1 S1 r1 => ⟨v,rfl,q v H1 x1 S1 r1⟩⟩⟩
noncomputable abbrev GF:=List D→Sx→Option (D × Sx)
inductive spD (K:PySem.W.Frag) (g:GF) (vs:List V) (H:Hp) (Q:VK) (_E:XK):Prop
  | mk (Z:Zt) (A:List Addr) (ds:List D) (s:Sx) (d:D) (s':Sx) (h0:Reps K Z H A vs ds) (h1:(∀ q ∈ A,(∃ o,H q = some o)∧NotZ Z q)) (h2:StateAt Z H s) (h3:g ds s = some (d,s')) (h4:∀ v H',Ext Z H H'→StateAt Z H' s'→Rep K Z H' A v d→Q v H')
noncomputable def fCall (g:GF) (FL:FA):FE:=fun δ s => (FL δ s).bind fun p => g p.1 p.2
theorem read_call {gf:GF} {Z:Zt} {A:List Addr} {σ:L2.St} {H:Hp} {Q:VK} {E:XK} (h:tD X Z A (fCall gf FL) σ H Q):tCall (spD X.K gf) [] E (tDA X Z A FL) σ H Q:=by
  obtain ⟨B,ow,δ,s,d,s',R,S,e,q⟩:=h
  unfold fCall at e
  first | refine bnd2 e fun ds s1 e1 e => ?_ | refine mpp2 e fun ds s1 e1 e => ?_
  refine ⟨B,ow,δ,s,ds,s1,R,S,e1,fun vs H1 x1 S1 rs => ?_⟩
  show spD X.K gf (vs ++ []) H1 Q E
  rw [List.append_nil]
  refine ⟨Z,A ++ ow.map (·.2),ds,s1,d,s',rs,fun q hq => ?_,S1,e,fun v H' a b c => q v H' (x1.trans a) b c⟩
  refine ⟨(R.mono x1).all q hq,?_⟩
  rcases List.mem_append.mp hq with h | h
  · exact (R.ok q h).2
  · obtain ⟨⟨i,p⟩,hp,rfl⟩:=List.mem_map.mp h
    exact (R.ows i p hp).2.2.1
theorem de_call {gf:GF} {k:Nat} {f:Addr} {fd:FuncData} {ps:List Str} (G:FnOk X.prog X.w X.K X.mg X.base CX0 k f fd ps (spD X.K gf)) (hr:Room k X.A) (hm:X.mg x = some (.ref f)) (hk:PySem.W.keepIn X.K (.ref f) = true) (hb:Binds X.K fd ps [])
    (ha:DA X (e :: es) FL) (hg:Gl X x:=by rfl) (hdb:(x == ("__debug__":Str)) = false:=by decide) (he:starEach (e :: es) X.env = (false,eval e X.env) :: starEach es X.env:=by rfl) (hpl:(backTo pos (starEach es X.env)).any (·.1) = false:=by rfl) :
    DE X (.Call (.Name x p) (e :: es) [] pos) (fCall gf FL):=⟨fun Z A => PE.imp (pe_call G hr hg hm hk hb .nil pass0 (ha Z A) hdb he hpl) fun σ H Q q => read_call q⟩
theorem de_mod {a:Addr} {vs:List V} {ds:List D} (hm:X.mg x = some (.ref a)) (hT:ModT X.K a vs) (hr:∀ Z H A,Reps X.K Z H A vs ds) (hg:Gl X x:=by rfl) (hdb:(x == ("__debug__":Str)) = false:=by decide):DE X (.Name x pos) (fC (.tuple ds)):=⟨fun Z A => PE.imp (pe_glob (v:=.ref a) hg hm rfl hdb) fun σ H Q x__104 => by
    obtain ⟨B,ow,δ,s,d,s',R,S,e,q⟩:=x__104
    cases e
    exact q _ H (Ext.refl H) S (.mod hT (hr Z H _))⟩
end
end L3

namespace L3
open PySem L2 PySem.Spec PyProof.Rows

inductive Out where
  | next (δ:Sl) | ret (d:D) | brk (δ:Sl) | cnt (δ:Sl) | own (xs:List D)
noncomputable abbrev GS:=Sl→Sx→Option (Out × Sx)
noncomputable def postS (X:Cx) (Z:Zt) (A:List Addr) (ow:Ow) (H:Hp) (s':Sx) (E:Ends):Out→Prop
  | .next δ' => ∀ ow' σ' H',RepS X.K X.H₀ Z A ow' σ' δ' H'→StateAt Z H' s'→Frm Z ow H ow' H'→E.nx σ' H'
  | .ret d => ∀ v H',Ext Z X.H₀ H'→StateAt Z H' s'→Rep X.K Z H' A v d→E.rt v H'
  | .own xs => ∀ p vs H',Ext Z X.H₀ H'→StateAt Z H' s'→X.H₀ p = none→H' p = some (.lst vs)→Reps X.K Z H' (p :: A) vs xs→E.rt (.ref p) H'
  | .brk δ' => ∀ ow' σ' H',RepS X.K X.H₀ Z A ow' σ' δ' H'→StateAt Z H' s'→Frm Z ow H ow' H'→E.bk σ' H'
  | .cnt δ' => ∀ ow' σ' H',RepS X.K X.H₀ Z A ow' σ' δ' H'→StateAt Z H' s'→Frm Z ow H ow' H'→E.ct σ' H'
theorem postS.frm {X:Cx} {Z:Zt} {A:List Addr} {ow ow':Ow} {H H':Hp} {s':Sx} {E:Ends} {o:Out} (h:postS X Z A ow H s' E o) (f:Frm Z ow H ow' H'):postS X Z A ow' H' s' E o:=by
  cases o with
  | next δ => exact fun ow2 σ2 H2 a b c => h ow2 σ2 H2 a b (f.trans c)
  | ret d => exact h
  | own d => exact h
  | brk δ => exact fun ow2 σ2 H2 a b c => h ow2 σ2 H2 a b (f.trans c)
  | cnt δ => exact fun ow2 σ2 H2 a b c => h ow2 σ2 H2 a b (f.trans c)
inductive tDS (X:Cx) (Z:Zt) (A:List Addr) (G:GS) (E:Ends) (σ:L2.St) (H:Hp):Prop
  | mk (ow:Ow) (δ:Sl) (s:Sx) (o:Out) (s':Sx) (h0:RepS X.K X.H₀ Z A ow σ δ H) (h1:StateAt Z H s) (h2:G δ s = some (o,s')) (h3:postS X Z A ow H s' E o)
structure DS (X:Cx) (st:Stmt) (G:GS):Prop where
  go:∀ Z A,PS X st (tDS X Z A G)
instance {X:Cx} {st:Stmt} {G:GS}:CoeFun (DS X st G) (fun _ => ∀ Z A,PS X st (tDS X Z A G)):=⟨fun h => h.go⟩
structure DSs (X:Cx) (st:List Stmt) (G:GS):Prop where
  go:∀ Z A,PSs X st (tDS X Z A G)
instance {X:Cx} {st:List Stmt} {G:GS}:CoeFun (DSs X st G) (fun _ => ∀ Z A,PSs X st (tDS X Z A G)):=⟨fun h => h.go⟩
noncomputable def sNext:GS:=fun δ s => some (.next δ,s)
noncomputable def sSeq (G1 G2:GS):GS:=fun δ s => match G1 δ s with | some (.next δ',s') => G2 δ' s' | r => r
section
variable {X:Cx} {st:Stmt} {sts body a b:List Stmt} {G G1 G2:GS} {e c:Expr} {F:FE} {Ft:FT} {FL:FA} {pos:Pos}
theorem dss_nil:DSs X [] sNext:=⟨fun Z A => PSs.imp pss_nil fun E σ H x__105 => by
  obtain ⟨ow,δ,s,o,s',R,S,e,q⟩:=x__105
  cases e
  exact q ow σ H R S .refl⟩
theorem dss_one (h:DS X st G):DSs X [st] G:=⟨fun Z A => pss_one (h Z A)⟩
theorem dss_cons (h1:DS X st G1) (h2:DSs X sts G2):DSs X (st :: sts) (sSeq G1 G2):=⟨fun Z A => PSs.imp (pss_cons (h1 Z A) (h2 Z A)) fun E σ H x__106 => by
  obtain ⟨ow,δ,s,o,s',R,S,e,q⟩:=x__106
  unfold sSeq at e
  cases e1:G1 δ s with
  | none => rw [e1] at e; cases e
  | some p =>
    obtain ⟨o1,s1⟩:=p
    rw [e1] at e
    cases o1 with
    | next δ1 => exact ⟨ow,δ,s,.next δ1,s1,R,S,e1,fun ow' σ' H' R' S' f => ⟨ow',δ1,s1,o,s',R',S',e,q.frm f⟩⟩
    | ret d => cases e; exact ⟨ow,δ,s,_,_,R,S,e1,q⟩
    | own d => cases e; exact ⟨ow,δ,s,_,_,R,S,e1,q⟩
    | brk d => cases e; exact ⟨ow,δ,s,_,_,R,S,e1,q⟩
    | cnt d => cases e; exact ⟨ow,δ,s,_,_,R,S,e1,q⟩⟩
theorem RepS.set {K:PySem.W.Frag} {B:Hp} {Z:Zt} {A:List Addr} {ow:Ow} {σ:L2.St} {δ:Sl} {H:Hp} {i:Nat} {v:V} {d:D} (R:RepS K B Z A ow σ δ H) (r:Rep K Z H (A ++ ow.map (·.2)) v d) :
    RepS K B Z A (ow.filter fun p => decide (p.1 ≠ i)) (σ.set i (some v)) (δ.set i (.val d)) H∧Frm Z ow H (ow.filter fun p => decide (p.1 ≠ i)) H:=by
  have sub:∀ q ∈ A ++ (ow.filter fun p => decide (p.1 ≠ i)).map (·.2),q ∈ A ++ ow.map (·.2):=fun q hq => by
    rcases List.mem_append.mp hq with h | h
    · exact List.mem_append_left _ h
    · obtain ⟨p,hp,rfl⟩:=List.mem_map.mp h
      exact List.mem_append_right _ (List.mem_map_of_mem (List.mem_filter.mp hp).1)
  refine ⟨⟨R.ok,R.ext,by rw [List.length_set,List.length_set]; exact R.len,fun j d' h => ?_,fun j xs h => ?_,fun j p h => R.ows j p (List.mem_filter.mp h).1,fun j k p h1 h2 => R.inj j k p (List.mem_filter.mp h1).1 (List.mem_filter.mp h2).1⟩,fun b o h n m => ⟨h,fun z => m ?_⟩⟩
  · by_cases hj:i = j
    · subst hj
      have hi:i < δ.length:=by
        have:=(List.getElem?_eq_some_iff.mp h).1
        rwa [List.length_set] at this
      rw [List.getElem?_set_self hi] at h
      cases h
      exact ⟨v,List.getElem?_set_self (by rw [← R.len]; exact hi),r.sub sub⟩
    · rw [List.getElem?_set_ne hj] at h
      obtain ⟨v',h1,h2⟩:=R.val j d' h
      exact ⟨v',by rw [List.getElem?_set_ne hj]; exact h1,h2.sub sub⟩
  · by_cases hj:i = j
    · subst hj
      have hi:i < δ.length:=by
        have:=(List.getElem?_eq_some_iff.mp h).1
        rwa [List.length_set] at this
      rw [List.getElem?_set_self hi] at h
      cases h
    · rw [List.getElem?_set_ne hj] at h
      obtain ⟨p,vs,h1,h2,h3,h4⟩:=R.own j xs h
      exact ⟨p,vs,List.mem_filter.mpr ⟨h1,decide_eq_true (Ne.symm hj)⟩,by rw [List.getElem?_set_ne hj]; exact h2,h3,h4.sub sub⟩
  · obtain ⟨p,hp,e⟩:=List.mem_map.mp z
    exact List.mem_map.mpr ⟨p,(List.mem_filter.mp hp).1,e⟩
noncomputable def sSet (i:Nat) (F:FE):GS:=fun δ s => (F δ s).map fun p => (.next (δ.set i (.val p.1)),p.2)
theorem ds_set {i:Nat} {x:Str} {pos':Pos} (hN:X.N.Nodup) (he:DE X e F) (hi:X.N[i]? = some x:=by rfl) (hx:Loc X.env.scope x:=by first | exact Or.inl rfl | exact Or.inr rfl) (hs:swapsWith e (some (.Name x pos')) pos.line X.env = pure false:=by rfl)
    (hf:X.fn x = true ∨ X.env.scope.names.lookup x = some .local:=by first | exact .inl rfl | exact .inr rfl | assumption):DS X (.Assign [.Name x pos'] e pos) (sSet i F):=⟨fun Z A => PS.imp (ps_set hN hi hx (he Z A) hs hf) fun E σ H x__107 => by
  obtain ⟨ow,δ,s,o,s',R,S,e,q⟩:=x__107
  unfold sSet at e
  cases e1:F δ s with
  | none => rw [e1] at e; cases e
  | some p =>
    rw [e1] at e
    cases e
    refine ⟨_,ow,δ,s,_,_,R,S,e1,fun v H' x1 S1 r => ?_⟩
    obtain ⟨R',f⟩:=(R.mono x1).set (i:=i) r
    exact q _ _ H' R' S1 ((Frm.ext x1).trans f)⟩
noncomputable def sPar (i j:Nat) (FL:FA):GS:=fun δ s => (FL δ s).bind fun p => match p.1 with | [x,y] => some (.next ((δ.set i (.val x)).set j (.val y)),p.2) | _ => none
theorem ds_par {i j:Nat} {x y:Str} {a b:Expr} {px py pt:Pos} {kt k2 pt2} (hN:X.N.Nodup) (hij:i ≠ j) (ha:DA X [a,b] FL) (hw:swappedStores [.Tuple [.Name x px,.Name y py] kt pt] (.Tuple [a,b] k2 pt2) X.env = pure (some [x,y]))
    (hi:X.N[i]? = some x:=by rfl) (hj:X.N[j]? = some y:=by rfl) (hx:X.env.scope.names.lookup x = some .local:=by rfl) (hy:X.env.scope.names.lookup y = some .local:=by rfl) (hc:X.calm = true:=by rfl)
    (hs:swapsWithSole [.Tuple [.Name x px,.Name y py] kt pt] (.Tuple [a,b] k2 pt2) pos.line X.env = pure false:=by rfl):DS X (.Assign [.Tuple [.Name x px,.Name y py] kt pt] (.Tuple [a,b] k2 pt2) pos) (sPar i j FL):=⟨fun Z A => PS.imp (ps_par hc hN hi hj hij hx hy (ha Z A) hw hs) fun E σ H x__108 => by
    obtain ⟨ow,δ,s,o,s',R,S,e,q⟩:=x__108
    unfold sPar at e
    cases e1:FL δ s with
    | none => rw [e1] at e; cases e
    | some p =>
      obtain ⟨ds,s1⟩:=p
      rw [e1] at e
      refine ⟨_,ow,δ,s,ds,s1,R,S,e1,fun vs H' x1 S1 rs => ?_⟩
      rcases ds with _ | ⟨dx,_ | ⟨dy,_ | _⟩⟩
      · cases e
      · cases e
      · cases e
        cases rs with
        | cons r1 rs =>
          cases rs with
          | cons r2 rs =>
            cases rs
            obtain ⟨R1,f1⟩:=(R.mono x1).set (i:=i) r1
            obtain ⟨R2,f2⟩:=R1.set (i:=j) (r2.frm f1)
            exact ⟨_,_,rfl,q _ _ H' R2 S1 (((Frm.ext x1).trans f1).trans f2)⟩
      · cases e⟩
noncomputable def sRet (F:FE):GS:=fun δ s => (F δ s).map fun p => (.ret p.1,p.2)
theorem ds_ret (he:DE X e F):DS X (.Return (some e) pos) (sRet F):=⟨fun Z A => PS.imp (ps_ret (he Z A)) fun E σ H x__109 => by
  obtain ⟨ow,δ,s,o,s',R,S,e,q⟩:=x__109
  unfold sRet at e
  cases e1:F δ s with
  | none => rw [e1] at e; cases e
  | some p =>
    rw [e1] at e
    cases e
    exact ⟨_,ow,δ,s,_,_,R,S,e1,fun v H' x1 S1 r => q v H' (R.ext.trans x1) S1 (r.sub fun q hq => List.mem_append_left _ hq)⟩⟩
noncomputable def sDrop (F:FE):GS:=fun δ s => (F δ s).map fun p => (.next δ,p.2)
theorem ds_expr (he:DE X e F) (hs:swapsWith e none pos.line X.env = pure false:=by rfl):DS X (.Expr e pos) (sDrop F):=⟨fun Z A => PS.imp (ps_expr (he Z A) hs) fun E σ H x__110 => by
  obtain ⟨ow,δ,s,o,s',R,S,e,q⟩:=x__110
  unfold sDrop at e
  cases e1:F δ s with
  | none => rw [e1] at e; cases e
  | some p =>
    rw [e1] at e
    cases e
    exact ⟨_,ow,δ,s,_,_,R,S,e1,fun v H' x1 S1 r => q ow σ H' (R.mono x1) S1 (Frm.ext x1)⟩⟩
noncomputable def sIf (Ft:FT) (G1 G2:GS):GS:=fun δ s => (Ft δ s).bind fun p => if p.1 = true then G1 δ p.2 else G2 δ p.2
theorem ds_if (hc:DT X c Ft) (ha:DSs X a G1) (hb:DSs X b G2):DS X (.If c a b pos) (sIf Ft G1 G2):=⟨fun Z A => PS.imp (ps_if (hc Z A) (ha Z A) (hb Z A)) fun E σ H x__111 => by
  obtain ⟨ow,δ,s,o,s',R,S,e,q⟩:=x__111
  unfold sIf at e
  cases e1:Ft δ s with
  | none => rw [e1] at e; cases e
  | some p =>
    obtain ⟨k,s1⟩:=p
    rw [e1] at e
    refine ⟨_,ow,δ,s,k,s1,R,S,e1,fun H1 x1 S1 => ?_⟩
    cases k with
    | true => exact iteT ⟨ow,δ,s1,o,s',R.mono x1,S1,e,q.frm (Frm.ext x1)⟩
    | false => exact iteF ⟨ow,δ,s1,o,s',R.mono x1,S1,e,q.frm (Frm.ext x1)⟩⟩
noncomputable def whileN (Ft:FT) (G:GS):Nat→GS
  | 0,_,_ => none
  | n + 1,δ,s => (Ft δ s).bind fun p => if p.1 = true then (match G δ p.2 with
      | some (.next δ',s') => whileN Ft G n δ' s'
      | some (.cnt δ',s') => whileN Ft G n δ' s'
      | some (.brk δ',s') => some (.next δ',s')
      | some (.ret d,s') => some (.ret d,s')
      | some (.own d,s') => some (.own d,s')
      | none => none) else some (.next δ,p.2)
noncomputable def fuel:Nat:=1000000000
noncomputable def sWhile (Ft:FT) (G:GS):GS:=whileN Ft G fuel
theorem ds_while (hc:DT X c Ft) (hb:DSs X body G) (hp:PassesOwn (model X.prog X.w) X.A X.env X.xe:=by exact PassesOwn.never):DS X (.While c body [] pos) (sWhile Ft G):=⟨fun Z A => PS.imp (ps_while hp (hc Z A) (hb Z A)) fun E σ H x__112 => by
  obtain ⟨ow,δ,s,o,s',R,S,e,q⟩:=x__112
  refine ⟨fun n σ H => ∃ ow δ s,RepS X.K X.H₀ Z A ow σ δ H∧StateAt Z H s∧whileN Ft G n δ s = some (o,s')∧postS X Z A ow H s' E o,⟨fuel,ow,δ,s,R,S,e,q⟩,?_⟩
  clear e q S R
  rintro n σ H ⟨ow,δ,s,R,S,e,q⟩
  cases n with
  | zero => cases e
  | succ n =>
    unfold whileN at e
    cases e1:Ft δ s with
    | none => rw [e1] at e; cases e
    | some p =>
      obtain ⟨k,s1⟩:=p
      rw [e1] at e
      refine ⟨_,ow,δ,s,k,s1,R,S,e1,fun H1 x1 S1 => ?_⟩
      cases k with
      | false => cases e; exact iteF (q ow σ H1 (R.mono x1) S1 (Frm.ext x1))
      | true =>
        refine iteT ?_
        refine ⟨fun σ' H' => ∃ ow δ s,RepS X.K X.H₀ Z A ow σ' δ H'∧StateAt Z H' s∧whileN Ft G n δ s = some (o,s')∧postS X Z A ow H' s' E o,fun σ' H' h => ⟨n,Nat.lt_succ_self _,h⟩,?_⟩
        replace e:(match G δ s1 with
          | some (.next δ',s') => whileN Ft G n δ' s'
          | some (.cnt δ',s') => whileN Ft G n δ' s'
          | some (.brk δ',s') => some (.next δ',s')
          | some (.ret d,s') => some (.ret d,s')
          | some (.own d,s') => some (.own d,s')
          | none => none) = some (o,s'):=e
        have q1:=q.frm (Frm.ext x1)
        cases e2:G δ s1 with
        | none => rw [e2] at e; cases e
        | some r =>
          obtain ⟨o2,s2⟩:=r
          rw [e2] at e
          refine ⟨ow,δ,s1,o2,s2,R.mono x1,S1,e2,?_⟩
          cases o2 with
          | next δ2 => exact fun ow' σ' H' R' S' f => ⟨ow',δ2,s2,R',S',e,q1.frm f⟩
          | cnt δ2 => exact fun ow' σ' H' R' S' f => ⟨ow',δ2,s2,R',S',e,q1.frm f⟩
          | brk δ2 => cases e; exact q1
          | ret d => cases e; exact q1
          | own d => cases e; exact q1⟩
theorem whileN_mono {Ft:FT} {G:GS}:∀ {n m:Nat} {δ:Sl} {s:Sx} {r:Out × Sx},whileN Ft G n δ s = some r→n ≤ m→whileN Ft G m δ s = some r
  | 0,_,_,_,_,h,_ => by cases h
  | n + 1,0,_,_,_,_,h => absurd h (Nat.not_succ_le_zero _)
  | n + 1,m + 1,δ,s,r,h,hm => by
    unfold whileN at h ⊢
    cases e1:Ft δ s with
    | none => rw [e1] at h; cases h
    | some p =>
      rw [e1] at h
      obtain ⟨k,s1⟩:=p
      cases k with
      | false => exact h
      | true =>
        simp only [Option.bind_some,if_true] at h ⊢
        cases e2:G δ s1 with
        | none => rw [e2] at h; cases h
        | some q =>
          obtain ⟨o2,s2⟩:=q
          rw [e2] at h
          cases o2 with
          | next δ2 => exact whileN_mono h (Nat.le_of_succ_le_succ hm)
          | cnt δ2 => exact whileN_mono h (Nat.le_of_succ_le_succ hm)
          | brk δ2 => exact h
          | ret d => exact h
          | own d => exact h

noncomputable def mkFn (n m:Nat) (G:GS):GF:=fun ds s => if ds.length = n then (match G (ds.map .val ++ List.replicate m .non) s with
  | some (.ret d,s') => some (d,s')
  | some (.next _,s') => some (.none,s')
  | _ => none) else none
theorem reps_val {K:PySem.W.Frag} {Z:Zt} {H:Hp} {A:List Addr} {vs:List V} {ds:List D} (r:Reps K Z H A vs ds) {m i:Nat} {d:D} (h:(ds.map Ce.val ++ List.replicate m Ce.non)[i]? = some (.val d)):∃ v,(vs.map some ++ List.replicate m none)[i]? = some (some v)∧Rep K Z H A v d:=by
  by_cases hi:i < ds.length
  · rw [List.getElem?_append_left (by simpa using hi),List.getElem?_map] at h
    cases e:ds[i]? with
    | none => rw [e] at h; cases h
    | some d' =>
      rw [e] at h
      cases h
      obtain ⟨v,h1,h2⟩:=r.get e
      exact ⟨v,by rw [List.getElem?_append_left (by rw [List.length_map,r.length]; exact hi),List.getElem?_map,h1]; rfl,h2⟩
  · rw [List.getElem?_append_right (by simpa using Nat.not_lt.mp hi),List.getElem?_replicate] at h
    split at h <;> cases h
theorem reps_own {ds:List D} {m i:Nat} {xs:List D} (h:(ds.map Ce.val ++ List.replicate m Ce.non)[i]? = some (.own xs)):False:=by
  by_cases hi:i < ds.length
  · rw [List.getElem?_append_left (by simpa using hi),List.getElem?_map] at h
    cases e:ds[i]? with
    | none => rw [e] at h; cases h
    | some d' => rw [e] at h; cases h
  · rw [List.getElem?_append_right (by simpa using Nat.not_lt.mp hi),List.getElem?_replicate] at h
    split at h <;> cases h
theorem mkFn_len {n m:Nat} {G:GS} {ds:List D} {s:Sx} {r:D × Sx} (h:mkFn n m G ds s = some r):ds.length = n:=by
  unfold mkFn at h
  split at h
  · assumption
  · cases h
theorem fnD {P:Program} {w:World} {K:PySem.W.Frag} {mg:Str→Option Value} {base:Heap} {x qual:Str} {st:Stmt} {f:Addr} {fd:FuncData} {N ps:List Str} {k m:Nat} {G:GS} (Fn:Fun K x qual st f fd) (S:FnScope N ps (defScope st)) (hN:N.length = ps.length + m)
    (hbody:∀ (cdv:Value) (A:Around) (outer:List Env) (s:Shared) (H:Hp) (E:XK),Room k (A.deeper (envOfC qual (defScope st) s.heap.objs.size f cdv))→DSs (cxOf CX0 P w K mg base N qual (defScope st) f cdv A outer s H E).nox (defBody st) G) :
    FnOk P w K mg base CX0 (k + 1) f fd ps (spD K (mkFn ps.length m G)):=by
  refine Fn.ok S (fun vs H Q E x__113 => ?_) (fun cdv A outer s H vs Q E hr x__114 => ?_)
  · obtain ⟨Z,A,ds,s,d,s',r,_,_,e,_⟩:=x__113
    rw [r.length]; exact mkFn_len e
  · obtain ⟨Z,A0,ds,st0,d,st1,r,hA,hS,e,q⟩:=x__114
    have hl:=mkFn_len e
    refine ⟨_,hbody cdv A outer s H E hr Z A0,?_⟩
    unfold mkFn at e
    rw [if_pos hl] at e
    have hst:L2.start N vs = vs.map some ++ List.replicate m none:=by
      unfold L2.start
      rw [hN,r.length,hl,Nat.add_sub_cancel_left]
    rw [hst]
    have R:RepS K H Z A0 [] (vs.map some ++ List.replicate m none) (ds.map .val ++ List.replicate m .non) H:={
      ok:=hA
      ext:=Ext.refl H
      len:=by simp [r.length]
      val:=fun i d h => by
        obtain ⟨v,h1,h2⟩:=reps_val r h
        exact ⟨v,h1,by rw [List.map_nil,List.append_nil]; exact h2⟩
      own:=fun i xs h => (reps_own h).elim
      ows:=fun i p h => nomatch h
      inj:=fun i j p h => nomatch h }
    cases e1:G (ds.map .val ++ List.replicate m .non) st0 with
    | none => rw [e1] at e; cases e
    | some r1 =>
      obtain ⟨o,s1⟩:=r1
      rw [e1] at e
      refine ⟨[],_,st0,o,s1,R,hS,e1,?_⟩
      cases o with
      | ret d' => cases e; exact fun v H' a b c => q v H' a b c
      | next δ' => cases e; exact fun ow' σ' H' R' S' f => q .non H' R'.ext S' .non
      | brk δ' => cases e
      | own d' => cases e
      | cnt δ' => cases e
end
end L3

namespace L3
open PySem L2 PySem.Spec PyProof.Rows

noncomputable def Src (K:PySem.W.Frag) (Z:Zt) (A:List Addr) (ow:Ow) (J:It) (ds:List D) (H:Hp):Prop:=∀ ow' H' st,Frm Z ow H ow' H'→StateAt Z H' st→(∀ q ∈ A ++ ow'.map (·.2),∃ o,H' q = some o)→∀ i,
  (∀ d,ds[i]? = some d→J.go i H'∧∀ x H3,J.yld i H' x H3→Ext Z H' H3∧StateAt Z H3 st∧Rep K Z H3 (A ++ ow'.map (·.2)) x d)∧(ds.length ≤ i→J.stop i H')
noncomputable abbrev FI:=Sl→Sx→Option (List D × Sx)
inductive tDIK (K:PySem.W.Frag) (Z:Zt) (A:List Addr) (F:FI) (σ:L2.St) (H:Hp) (R:It→Hp→Prop):Prop
  | mk (B:Hp) (ow:Ow) (δ:Sl) (s:Sx) (ds:List D) (s':Sx) (h0:RepS K B Z A ow σ δ H) (h1:StateAt Z H s) (h2:F δ s = some (ds,s')) (h3:∀ J H',Ext Z H H'→StateAt Z H' s'→Src K Z A ow J ds H'→R J H')
noncomputable abbrev tDI (X:Cx) (Z:Zt) (A:List Addr) (F:FI):TI:=tDIK X.K Z A F
structure DI (X:Cx) (tg iter:Expr) (F:FI):Prop where
  go:∀ Z A,PI X tg iter (tDI X Z A F)
instance {X:Cx} {tg iter:Expr} {F:FI}:CoeFun (DI X tg iter F) (fun _ => ∀ Z A,PI X tg iter (tDI X Z A F)):=⟨fun h => h.go⟩
theorem PI.imp {X:Cx} {tg iter:Expr} {t t':TI} (h:PI X tg iter t) (hi:∀ σ H R,t' σ H R→t σ H R):PI X tg iter t':=fun pins s σ H R I q => h pins s σ H R I (hi σ H R q)
noncomputable def seqOf:D→Option (List D)
  | .list xs => some xs
  | .tuple xs => some xs
  | _ => none
noncomputable def iSeq (F:FE):FI:=fun δ s => (F δ s).bind fun p => (seqOf p.1).map fun xs => (xs,p.2)
section
variable {X:Cx} {tg iter e e2:Expr} {F Fa Fb:FE} {FL:FA} {p pos:Pos}
theorem src_list {K:PySem.W.Frag} {Z:Zt} {A:List Addr} {ow:Ow} {H:Hp} {a:Addr} {vs:List V} {ds:List D} (h:H a = some (.lst vs)) (m:¬ a ∈ A ++ ow.map (·.2)) (n:NotZ Z a) (r:Reps K Z H (A ++ ow.map (·.2)) vs ds):Src K Z A ow (Itl K a) ds H:=fun ow' H' st f S hA i => by
  have h':=(rd_frm h f n m).1
  have r':=r.frm f
  refine ⟨fun d hd => ?_,fun hi => ⟨vs,.of h',by rw [r.length]; exact hi⟩⟩
  obtain ⟨v,h1,h2⟩:=r'.get hd
  exact ⟨⟨vs,v,.of h',h1⟩,fun x H3 x__115 => by
    obtain ⟨e,y⟩:=x__115
    subst e
    have q:=y vs (.of h')
    rw [h1] at q
    cases q
    exact ⟨Ext.refl _,S,h2⟩⟩
theorem src_tup {K:PySem.W.Frag} {Z:Zt} {A:List Addr} {ow:Ow} {H:Hp} {a:Addr} {vs:List V} {ds:List D} (h:∀ ow' H',Frm Z ow H ow' H'→SqT K H' a vs) (r:Reps K Z H (A ++ ow.map (·.2)) vs ds):Src K Z A ow (Itt K a) ds H:=fun ow' H' st f S hA i => by
  have h':=h ow' H' f
  have r':=r.frm f
  refine ⟨fun d hd => ?_,fun hi => ⟨vs,h',by rw [r.length]; exact hi⟩⟩
  obtain ⟨v,h1,h2⟩:=r'.get hd
  exact ⟨⟨vs,v,h',h1⟩,fun x H3 x__116 => by
    obtain ⟨e,y⟩:=x__116
    subst e
    have q:=y vs h'
    rw [h1] at q
    cases q
    exact ⟨Ext.refl _,S,h2⟩⟩
theorem pi_seq {l:Expr} {tl:TE} (hl:PE X l tl):PI X tg l (fun σ H R => tl σ H fun x H1 => ∃ a,x = .ref a∧(((∃ xs,SqL X.K H1 a xs)∧R (Itl X.K a) H1) ∨ ((∃ xs,SqT X.K H1 a xs)∧R (Itt X.K a) H1))):=fun pins s σ H R I h => by
  refine thn (hl pins s σ H _ I h) fun v s1 x__117 => ?_
  obtain ⟨x,H1,I1,r1,a,e,q⟩:=x__117
  subst e
  obtain rfl:v = Value.ref a:=r1
  rcases q with ⟨⟨xs,hx⟩,q⟩ | ⟨⟨xs,hx⟩,q⟩
  · obtain ⟨its,rv,pl,_⟩:=I1.list hx
    refine wpAny_pyIter_list pl.isList ?_
    have nf:=I1.hok.fresh (Nat.le_refl s1.heap.objs.size)
    exact ⟨_,[s1.heap.objs.size],_,Itl X.K a,H1,rfl,I1.kept (t':=s1.toks) fun b u eb => Heap.get?_push_of_some _ eb,turn_list a _,⟨_,Heap.get?_push_size _ rfl,rfl,rfl⟩,fun b hb => by
      have eb:b = s1.heap.objs.size:=by simpa using hb
      rw [eb]; exact I1.fpOk (Nat.le_refl _) nf,q⟩
  · obtain ⟨its,rv,⟨o,e1,e2,n,e3⟩,_⟩:=I1.tuple hx
    refine wpAny_pyIter_tuple (items:=its.toArray) ⟨o,e1,e2,n,e3⟩ ?_
    have nf:=I1.hok.fresh (Nat.le_refl s1.heap.objs.size)
    exact ⟨_,[s1.heap.objs.size],_,Itt X.K a,H1,rfl,I1.kept (t':=s1.toks) fun b u eb => Heap.get?_push_of_some _ eb,turn_tuple a _,⟨_,Heap.get?_push_size _ rfl,rfl,rfl⟩,fun b hb => by
      have eb:b = s1.heap.objs.size:=by simpa using hb
      rw [eb]; exact I1.fpOk (Nat.le_refl _) nf,q⟩
theorem di_seq (h:DE X e F):DI X tg e (iSeq F):=⟨fun Z A => PI.imp (pi_seq (h Z A)) fun σ H R x__118 => by
  obtain ⟨B,ow,δ,s,ds,s',RS,S,ee,q⟩:=x__118
  unfold iSeq at ee
  first | refine bnd2 ee fun d s1 e1 ee => ?_ | refine mpp2 ee fun d s1 e1 ee => ?_
  replace ee:((seqOf d).map fun xs => (xs,s1)) = some (ds,s'):=ee
  refine ⟨B,ow,δ,s,d,s1,RS,S,e1,fun v H1 x1 S1 r => ?_⟩
  cases r with
  | lst h n z rs => cases ee; exact ⟨_,rfl,.inl ⟨⟨_,.of h⟩,q _ H1 x1 S1 (src_list h n z rs)⟩⟩
  | tup h n z rs => cases ee; exact ⟨_,rfl,.inr ⟨⟨_,.of h⟩,q _ H1 x1 S1 (src_tup (fun ow' H' f => .of (rd_frm h f z n).1) rs)⟩⟩
  | mod h rs => cases ee; exact ⟨_,rfl,.inr ⟨⟨_,.inr h⟩,q _ H1 x1 S1 (src_tup (fun ow' H' f => .inr h) rs)⟩⟩
  | non => cases ee
  | bl _ => cases ee
  | int _ => cases ee
  | str _ => cases ee
  | st _ => cases ee
  | obj _ _ _ _ _ => cases ee⟩
noncomputable def rng (lo:Int) (n:Nat):List D:=(List.range n).map fun (k:Nat) => .int (lo + (k:Int))
noncomputable def rOk (i:Int):Bool:=decide (-(2 ^ 62) ≤ i) && decide (i < 2 ^ 62)
noncomputable def iRange1 (F:FE):FI:=fun δ s => (F δ s).bind fun p => match p.1 with | .int j => if rOk j = true then some (rng 0 j.toNat,p.2) else none | _ => none
theorem src_rng {K:PySem.W.Frag} {Z:Zt} {A:List Addr} {ow:Ow} {H:Hp} (lo:Int) (n:Nat):Src K Z A ow (Itr lo n) (rng lo n) H:=fun ow' H' st f S hA i => by
  refine ⟨fun d hd => ?_,fun hi => (show n ≤ i by simpa [rng] using hi)⟩
  unfold rng at hd
  rw [List.getElem?_map] at hd
  first | refine bnd1 hd fun k e hd => ?_ | refine mpp1 hd fun k e hd => ?_
  cases hd
  have hk:i < n∧k = i:=by
    have h1:=(List.getElem?_eq_some_iff.mp e).1
    rw [List.length_range] at h1
    rw [List.getElem?_range h1] at e
    exact ⟨h1,(Option.some.inj e).symm⟩
  obtain ⟨h1,rfl⟩:=hk
  exact ⟨h1,fun x H3 x__119 => by obtain ⟨e1,e2⟩:=x__119; subst e1 e2; exact ⟨Ext.refl _,S,.int _⟩⟩
theorem di_range1 (hm:X.mg "range" = none) (ha:DE X e F) (hg:Gl X "range":=by rfl) (hs:starEach [e] X.env = [(false,eval e X.env)]:=by rfl):DI X tg (.Call (.Name "range" p) [e] [] pos) (iRange1 F):=⟨fun Z A => PI.imp (pi_range1 hg hm (pa_cons (ha Z A) pa_nil hs) hs) fun σ H R x__120 => by
    obtain ⟨B,ow,δ,s,ds,s',RS,S,ee,q⟩:=x__120
    unfold iRange1 at ee
    first | refine bnd2 ee fun d s1 e1 ee => ?_ | refine mpp2 ee fun d s1 e1 ee => ?_
    refine ⟨B,ow,δ,s,d,s1,RS,S,e1,fun v H1 x1 S1 r => ?_⟩
    cases r with
    | int j =>
      replace ee:(if rOk j = true then some (rng 0 j.toNat,s1) else none) = some (ds,s'):=ee
      split at ee
      · rename_i hj
        cases ee
        unfold rOk at hj
        rw [Bool.and_eq_true] at hj
        exact ⟨j,rfl,of_decide_eq_true hj.1,of_decide_eq_true hj.2,q _ H1 x1 S1 (src_rng 0 j.toNat)⟩
      · cases ee
    | _ => cases ee⟩
noncomputable def iZipF (Fa Fb:FE):FI:=fun δ s => (Fa δ s).bind fun p => (Fb δ p.2).bind fun q => (seqOf p.1).bind fun xs => (seqOf q.1).map fun ys => ((xs.zip ys).map fun z => .tuple [z.1,z.2],q.2)
theorem rep_sq {K:PySem.W.Frag} {Z:Zt} {H:Hp} {A:List Addr} {ow:Ow} {v:V} {d:D} {xs:List D} (r:Rep K Z H (A ++ ow.map (·.2)) v d) (e:seqOf d = some xs) :
    ∃ k a vs,v = .ref a∧SqK k K H a vs∧Reps K Z H (A ++ ow.map (·.2)) vs xs∧∀ ow' H',Frm Z ow H ow' H'→SqK k K H' a vs:=by
  cases r with
  | lst h n z rs => cases e; exact ⟨true,_,_,rfl,SqL.of h,rs,fun ow' H' f => SqL.of (rd_frm h f z n).1⟩
  | tup h n z rs => cases e; exact ⟨false,_,_,rfl,SqT.of h,rs,fun ow' H' f => SqT.of (rd_frm h f z n).1⟩
  | mod h rs => cases e; exact ⟨false,_,_,rfl,.inr h,rs,fun ow' H' f => .inr h⟩
  | non => cases e
  | bl _ => cases e
  | int _ => cases e
  | str _ => cases e
  | st _ => cases e
  | obj _ _ _ _ _ => cases e
theorem di_zip {elts:List Expr} {c:Nat} {tp:Pos} (hm:X.mg "zip" = none) (ha:DE X e Fa) (hb:DE X e2 Fb) (hg:Gl X "zip":=by rfl) (hs:starEach [e,e2] X.env = [(false,eval e X.env),(false,eval e2 X.env)]:=by rfl) (hs2:starEach [e2] X.env = [(false,eval e2 X.env)]:=by rfl) :
    DI X (.Tuple elts c tp) (.Call (.Name "zip" p) [e,e2] [] pos) (iZipF Fa Fb):=⟨fun Z A => PI.imp (pi_zip hg hm (pa_cons (ha Z A) (pa_cons (hb Z A) pa_nil hs2) (by rw [hs,hs2])) hs hs2) fun σ H R x__121 => by
    obtain ⟨B,ow,δ,s,ds,s',RS,S,ee,q⟩:=x__121
    unfold iZipF at ee
    first | refine bnd2 ee fun d s1 e1 ee => ?_ | refine mpp2 ee fun d s1 e1 ee => ?_
    replace ee:((Fb δ s1).bind fun q => (seqOf d).bind fun xs => (seqOf q.1).map fun ys => ((xs.zip ys).map fun z => PyData.tuple [z.1,z.2],q.2)) = some (ds,s'):=ee
    first | refine bnd2 ee fun d2 s2 e2 ee => ?_ | refine mpp2 ee fun d2 s2 e2 ee => ?_
    replace ee:((seqOf d).bind fun xs => (seqOf d2).map fun ys => ((xs.zip ys).map fun z => PyData.tuple [z.1,z.2],s2)) = some (ds,s'):=ee
    first | refine bnd1 ee fun xs e3 ee => ?_ | refine mpp1 ee fun xs e3 ee => ?_
    replace ee:((seqOf d2).map fun ys => ((xs.zip ys).map fun z => PyData.tuple [z.1,z.2],s2)) = some (ds,s'):=ee
    first | refine bnd1 ee fun ys e4 ee => ?_ | refine mpp1 ee fun ys e4 ee => ?_
    cases ee
    refine ⟨B,ow,δ,s,d,s1,RS,S,e1,fun v H1 x1 S1 r => ⟨B,ow,δ,s1,d2,s',RS.mono x1,S1,e2,fun v2 H2 x2 S2 r2 => ?_⟩⟩
    obtain ⟨k1,a1,vs1,rfl,sq1,rs1,st1⟩:=rep_sq (r.ext x2) e3
    obtain ⟨k2,a2,vs2,rfl,sq2,rs2,st2⟩:=rep_sq r2 e4
    refine ⟨k1,k2,a1,a2,vs1,vs2,rfl,sq1,sq2,q _ H2 (x1.trans x2) S2 ?_⟩
    intro ow' H' st f S' hA i
    have g1:=st1 ow' H' f
    have g2:=st2 ow' H' f
    refine ⟨fun dd hd => ?_,fun hi => ⟨vs1,vs2,g1,g2,?_⟩⟩
    · rw [List.getElem?_map] at hd
      first | refine bnd1 hd fun z e5 hd => ?_ | refine mpp1 hd fun z e5 hd => ?_
      cases hd
      rw [List.getElem?_zip_eq_some] at e5
      obtain ⟨u1,h1,q1⟩:=(rs1.frm f).get e5.1
      obtain ⟨u2,h2,q2⟩:=(rs2.frm f).get e5.2
      refine ⟨⟨vs1,vs2,u1,u2,g1,g2,h1,h2⟩,fun x H3 x__122 => ?_⟩
      obtain ⟨p,y1,y2,ex,hp,eH,f1,f2⟩:=x__122
      have z1:=f1 vs1 g1
      have z2:=f2 vs2 g2
      rw [h1] at z1
      rw [h2] at z2
      cases z1
      cases z2
      subst ex eH
      exact ⟨Ext.upd hp,S'.upd hp,.tup upd_same (fresh_not hA hp) (S'.notZ hp) (.cons (q1.ext (Ext.upd hp)) (.cons (q2.ext (Ext.upd hp)) .nil))⟩
    · rw [rs1.length,rs2.length]
      rw [List.length_map,List.length_zip] at hi
      lia⟩
end
end L3

namespace L3
open PySem L2 PySem.Spec PyProof.Rows

inductive Tgt where
  | one (i:Nat) | tup (is:List Nat) | nest (i:Nat) (js:List Nat)
noncomputable def Tgt.slots:Tgt→List Nat
  | .one i => [i]
  | .tup is => is
  | .nest i js => i :: js
noncomputable def setD:List Nat→List D→Sl→Sl
  | i :: is,d :: ds,δ => setD is ds (δ.set i (.val d))
  | _,_,δ => δ
noncomputable def Tgt.run:Tgt→D→Sl→Option Sl
  | .one i,d,δ => some (δ.set i (.val d))
  | .tup is,.tuple ds,δ => if ds.length = is.length then some (setD is ds δ) else none
  | .tup is,.list ds,δ => if ds.length = is.length then some (setD is ds δ) else none
  | .tup _,_,_ => none
  | .nest i js,.tuple [a,b],δ => (seqOf b).bind fun ds => if ds.length = js.length then some (setD js ds (δ.set i (.val a))) else none
  | .nest _ _,_,_ => none
noncomputable def Chg (l:List Nat) (σ σ':L2.St):Prop:=σ'.length = σ.length∧∀ i,¬ i ∈ l→σ'[i]? = σ[i]?
inductive tDG (K:PySem.W.Frag) (Z:Zt) (A:List Addr) (T:Tgt) (v:V) (σ:L2.St) (H:Hp) (Q:L2.St→Hp→Prop):Prop
  | mk (B:Hp) (ow:Ow) (δ:Sl) (d:D) (δ':Sl) (h0:RepS K B Z A ow σ δ H) (h1:Rep K Z H (A ++ ow.map (·.2)) v d) (h2:T.run d δ = some δ') (h3:∀ ow' σ',RepS K B Z A ow' σ' δ' H→Frm Z ow H ow' H→Chg T.slots σ σ'→Q σ' H)
structure DG (X:Cx) (tg:Expr) (T:Tgt):Prop where
  go:∀ Z A,PG X tg (tDG X.K Z A T)
instance {X:Cx} {tg:Expr} {T:Tgt}:CoeFun (DG X tg T) (fun _ => ∀ Z A,PG X tg (tDG X.K Z A T)):=⟨fun h => h.go⟩
theorem PG.imp {X:Cx} {tg:Expr} {t t':TG} (h:PG X tg t) (hi:∀ v σ H Q,t' v σ H Q→t v σ H Q):PG X tg t':=fun pins s σ H v u Q I r q => h pins s σ H v u Q I r (hi v σ H Q q)
theorem RepS.setAll {K:PySem.W.Frag} {B:Hp} {Z:Zt} {A:List Addr} {H:Hp}:∀ {is:List Nat} {vs:List V} {ds:List D} {ow:Ow} {σ:L2.St} {δ:Sl},RepS K B Z A ow σ δ H→Reps K Z H (A ++ ow.map (·.2)) vs ds→ds.length = is.length →
    ∀ {es:List Expr} {X:Cx} (Q:L2.St→Hp→Prop),True→True→(∀ ow' σ',RepS K B Z A ow' σ' (setD is ds δ) H→Frm Z ow H ow' H→Chg is σ σ'→σ' = (is.zip vs).foldl (fun σ p => σ.set p.1 (some p.2)) σ→Q σ' H)→Q ((is.zip vs).foldl (fun σ p => σ.set p.1 (some p.2)) σ) H
  | [],vs,ds,ow,σ,δ,R,rs,hl,es,X,Q,_,_,h => by
    have e:ds = []:=List.eq_nil_of_length_eq_zero hl
    subst e
    exact h ow σ R .refl ⟨rfl,fun _ _ => rfl⟩ rfl
  | i :: is,vs,d :: ds,ow,σ,δ,R,rs,hl,es,X,Q,_,_,h => by
    cases rs with
    | @cons v _ vs' _ r rs =>
      obtain ⟨R1,f1⟩:=R.set (i:=i) r
      refine RepS.setAll (X:=X) (es:=es) R1 (rs.frm f1) (by simpa using hl) Q trivial trivial fun ow' σ' R2 f2 c2 e2 => ?_
      refine h ow' σ' R2 (f1.trans f2) ⟨by rw [c2.1,List.length_set],fun j hj => ?_⟩ e2
      have hj':¬ j = i∧¬ j ∈ is:=by simpa using hj
      rw [c2.2 j hj'.2,List.getElem?_set_ne (Ne.symm hj'.1)]
  | _ :: _,_,[],_,_,_,_,_,hl,_,_,_,_,_,_ => by simp at hl
section
variable {X:Cx} {tg iter elt e:Expr} {es:List Expr} {T:Tgt} {F:FE} {Fi:FI} {Ft:FT} {G:GS} {body:List Stmt} {pos:Pos}
theorem dg_name {i:Nat} {x:Str} (hN:X.N.Nodup) (hi:X.N[i]? = some x:=by rfl) (hx:Loc X.env.scope x:=by first | exact Or.inl rfl | exact Or.inr rfl) (hf:X.fn x = true ∨ X.env.scope.names.lookup x = some .local:=by first | exact .inl rfl | exact .inr rfl | assumption) :
    DG X (.Name x pos) (.one i):=⟨fun Z A => PG.imp (pg_name hN hi hx hf) fun v σ H Q x__123 => by
  obtain ⟨B,ow,δ,d,δ',R,r,e,q⟩:=x__123
  cases e
  obtain ⟨R1,f1⟩:=R.set (i:=i) r
  exact q _ _ R1 f1 ⟨List.length_set,fun j hj => List.getElem?_set_ne (by simpa using Ne.symm (show ¬ j = i by simpa [Tgt.slots] using hj))⟩⟩
noncomputable def gSlots:List Nat→TGs
  | [] => gNil
  | i :: is => gCons (gName i) (gSlots is)
theorem gSlots_of:∀ {is:List Nat} {vs:List V} {σ:L2.St} {H:Hp} {Q:L2.St→Hp→Prop},vs.length = is.length→Q ((is.zip vs).foldl (fun σ p => σ.set p.1 (some p.2)) σ) H→gSlots is vs σ H Q
  | [],vs,σ,H,Q,hl,q => ⟨List.eq_nil_of_length_eq_zero hl,by have e:=List.eq_nil_of_length_eq_zero hl; subst e; exact q⟩
  | i :: is,v :: vs,σ,H,Q,hl,q => ⟨v,vs,rfl,gSlots_of (by simpa using hl) q⟩
  | _ :: _,[],_,_,_,hl,_ => by simp at hl
theorem pgn_nil:PGs X [] (gSlots []):=pgs_nil
theorem pgn_cons {i:Nat} {is:List Nat} {x:Str} (hN:X.N.Nodup) (h2:PGs X es (gSlots is)) (hi:X.N[i]? = some x:=by rfl) (hx:Loc X.env.scope x:=by first | exact Or.inl rfl | exact Or.inr rfl) (hf:X.fn x = true ∨ X.env.scope.names.lookup x = some .local:=by first | exact .inl rfl | exact .inr rfl | assumption)
    (hs:(assignEach (.Name x pos :: es) X.env).map (·.2) = assign (.Name x pos) X.env :: (assignEach es X.env).map (·.2):=by rfl):PGs X (.Name x pos :: es) (gSlots (i :: is)):=pgs_cons (pg_name hN hi hx hf) h2 hs
theorem dg_tup {is:List Nat} {k:Nat} (h:PGs X es (gSlots is)) (hn:(assignEach es X.env).length = is.length:=by rfl) (hst:(assignEach es X.env).findIdx? (·.1) = none:=by rfl) (hc:X.calm = true:=by rfl):DG X (.Tuple es k pos) (.tup is):=⟨fun Z A => PG.imp (pg_seqT hc h hn hst) fun v σ H Q x__124 => by
    obtain ⟨B,ow,δ,d,δ',R,r,e,q⟩:=x__124
    cases d with
    | tuple ds =>
      replace e:(if ds.length = is.length then some (setD is ds δ) else none) = some δ':=e
      split at e
      · rename_i hl
        cases e
        obtain ⟨p,vs,rfl,sq,rs⟩:=r.w.tuple
        refine ⟨p,vs,rfl,.inl sq,by rw [rs.length]; exact hl,gSlots_of (by rw [rs.length]; exact hl) ?_⟩
        exact RepS.setAll (X:=X) (es:=es) R rs hl Q trivial trivial fun ow' σ' R' f' c' _ => q ow' σ' R' f' c'
      · cases e
    | list ds =>
      replace e:(if ds.length = is.length then some (setD is ds δ) else none) = some δ':=e
      split at e
      · rename_i hl
        cases e
        obtain ⟨p,vs,rfl,sq,_,rs⟩:=r.w.list
        refine ⟨p,vs,rfl,.inr sq,by rw [rs.length]; exact hl,gSlots_of (by rw [rs.length]; exact hl) ?_⟩
        exact RepS.setAll (X:=X) (es:=es) R rs hl Q trivial trivial fun ow' σ' R' f' c' _ => q ow' σ' R' f' c'
      · cases e
    | _ => cases e⟩
noncomputable def sUnp (T:Tgt) (F:FE):GS:=fun δ s => (F δ s).bind fun p => (T.run p.1 δ).map fun δ' => (.next δ',p.2)
theorem ds_asg (he:DE X e F) (hg:DG X tg T) (h1:List.map (·.2) (assignEach [tg] X.env) = [assign tg X.env]:=by rfl) (hs:swapsWithSole [tg] e pos.line X.env = pure false:=by rfl) (hw:swappedStores [tg] e X.env = pure none:=by rfl):DS X (.Assign [tg] e pos) (sUnp T F):=⟨fun Z A => PS.imp (ps_asg (he Z A) (hg Z A) hs hw h1) fun E σ H x__125 => by
  obtain ⟨ow,δ,s,o,s',R,S,e,q⟩:=x__125
  unfold sUnp at e
  first | refine bnd2 e fun d s1 e1 e => ?_ | refine mpp2 e fun d s1 e1 e => ?_
  replace e:((T.run d δ).map fun δ' => (Out.next δ',s1)) = some (o,s'):=e
  cases e2:T.run d δ with
  | none => rw [e2] at e; cases e
  | some δ2 =>
    rw [e2] at e
    cases e
    exact ⟨_,ow,δ,s,d,s',R,S,e1,fun v H1 x1 S1 r => ⟨_,ow,δ,d,δ2,R.mono x1,r,e2,fun ow' σ' R' f c => q ow' σ' H1 R' S1 ((Frm.ext x1).trans f)⟩⟩⟩
noncomputable def forD (T:Tgt) (G:GS):List D→GS
  | [],δ,s => some (.next δ,s)
  | d :: ds,δ,s => (T.run d δ).bind fun δ1 => match G δ1 s with
    | some (.next δ',s') => forD T G ds δ' s'
    | some (.cnt δ',s') => forD T G ds δ' s'
    | some (.brk δ',s') => some (.next δ',s')
    | some (.ret r,s') => some (.ret r,s')
    | some (.own r,s') => some (.own r,s')
    | none => none
noncomputable def sFor (Fi:FI) (T:Tgt) (G:GS):GS:=fun δ s => (Fi δ s).bind fun p => forD T G p.1 δ p.2
theorem ds_for (hi:DI X tg iter Fi) (hg:DG X tg T) (hb:DSs X body G) (hp:PassesOwn (model X.prog X.w) X.A X.env X.xe:=by exact PassesOwn.never) (hc:X.calm = true:=by rfl) (hs:∀ x,foldedSetIterable iter X.env x = pure x:=by intro _; rfl) :
    DS X (.For tg iter body [] pos) (sFor Fi T G):=⟨fun Z A => PS.imp (ps_for hp hc (hi Z A) (hg Z A) (hb Z A) hs) fun E σ H x__126 => by
  obtain ⟨ow,δ,s,o,s',R,S,e,q⟩:=x__126
  unfold sFor at e
  first | refine bnd2 e fun ds s1 e1 e => ?_ | refine mpp2 e fun ds s1 e1 e => ?_
  replace e:forD T G ds δ s1 = some (o,s'):=e
  refine ⟨_,ow,δ,s,ds,s1,R,S,e1,fun J H1 x1 S1 src => ?_⟩
  have q1:=q.frm (Frm.ext x1)
  refine ⟨fun i m σ H => ∃ ow' δ s,m = ds.length - i∧i ≤ ds.length∧RepS X.K X.H₀ Z A ow' σ δ H∧StateAt Z H s∧Frm Z ow H1 ow' H∧forD T G (ds.drop i) δ s = some (o,s')∧postS X Z A ow' H s' E o,
    ⟨ds.length,ow,δ,s1,by simp,Nat.zero_le _,R.mono x1,S1,.refl,by simpa using e,q1⟩,?_⟩
  rintro i m σ2 H2 ⟨ow2,δ2,s2,rfl,hi,R2,S2,f2,e2,q2⟩
  have sr:=src ow2 H2 s2 f2 S2 R2.all i
  by_cases hlt:i < ds.length
  · have hd:ds[i]? = some ds[i]:=List.getElem?_eq_getElem hlt
    obtain ⟨go,yl⟩:=sr.1 _ hd
    rw [List.drop_eq_getElem_cons hlt] at e2
    replace e2:((T.run ds[i] δ2).bind fun δ1 => match G δ1 s2 with
      | some (.next δ',s') => forD T G (ds.drop (i + 1)) δ' s'
      | some (.cnt δ',s') => forD T G (ds.drop (i + 1)) δ' s'
      | some (.brk δ',s') => some (.next δ',s')
      | some (.ret r,s') => some (.ret r,s')
      | some (.own r,s') => some (.own r,s')
      | none => none) = some (o,s'):=e2
    refine .inr ⟨go,fun σ' H' => ∃ ow' δ s,RepS X.K X.H₀ Z A ow' σ' δ H'∧StateAt Z H' s∧Frm Z ow H1 ow' H'∧forD T G (ds.drop (i + 1)) δ s = some (o,s')∧postS X Z A ow' H' s' E o,
      fun σ' H' x__127 => (by obtain ⟨ow',δ',s3,a1,a2,a3,a4,a5⟩:=x__127; exact ⟨ds.length - (i + 1),by lia,ow',δ',s3,rfl,hlt,a1,a2,a3,a4,a5⟩),fun x H3 y => ?_⟩
    obtain ⟨x3,S3,r3⟩:=yl x H3 y
    cases e3:T.run ds[i] δ2 with
    | none => rw [e3] at e2; cases e2
    | some δ3 =>
      rw [e3] at e2
      replace e2:(match G δ3 s2 with
        | some (.next δ',s') => forD T G (ds.drop (i + 1)) δ' s'
        | some (.cnt δ',s') => forD T G (ds.drop (i + 1)) δ' s'
        | some (.brk δ',s') => some (.next δ',s')
        | some (.ret r,s') => some (.ret r,s')
        | some (.own r,s') => some (.own r,s')
        | none => none) = some (o,s'):=e2
      refine ⟨X.H₀,ow2,δ2,ds[i],δ3,R2.mono x3,r3,e3,fun ow4 σ4 R4 f4 _ => ?_⟩
      have q4:=(q2.frm (Frm.ext x3)).frm f4
      have f14:Frm Z ow H1 ow4 H3:=(f2.trans (Frm.ext x3)).trans f4
      cases e4:G δ3 s2 with
      | none => rw [e4] at e2; cases e2
      | some r =>
        obtain ⟨o4,s4⟩:=r
        rw [e4] at e2
        refine ⟨ow4,δ3,s2,o4,s4,R4,S3,e4,?_⟩
        cases o4 with
        | next δ5 => exact fun ow' σ' H' R' S' f => ⟨ow',δ5,s4,R',S',f14.trans f,e2,q4.frm f⟩
        | cnt δ5 => exact fun ow' σ' H' R' S' f => ⟨ow',δ5,s4,R',S',f14.trans f,e2,q4.frm f⟩
        | brk δ5 => cases e2; exact q4
        | ret d => cases e2; exact q4
        | own d => cases e2; exact q4
  · have hi':i = ds.length:=by lia
    subst hi'
    rw [List.drop_length] at e2
    cases e2
    exact .inl ⟨sr.2 (Nat.le_refl _),q2 ow2 σ2 H2 R2 S2 .refl⟩⟩
noncomputable def compDl (k:Nat) (fr:List Nat) (δ:Sl):Sl:=List.replicate k .non ++ fr.map fun j => match δ[j]? with | some (.val d) => .val d | _ => .non
noncomputable def compD (T:Tgt) (Ft:FT) (F:FE) (δc:Sl):List D→Sx→Option (List D × Sx)
  | [],s => some ([],s)
  | d :: ds,s => (T.run d δc).bind fun δ1 => (Ft δ1 s).bind fun p => if p.1 = true then (F δ1 p.2).bind fun q => (compD T Ft F δc ds q.2).map fun r => (q.1 :: r.1,r.2) else compD T Ft F δc ds p.2
noncomputable def fTrue:FT:=fun _ s => some (true,s)
structure DIfs (X:Cx) (ifs:List Expr) (F:FT):Prop where
  go:∀ Z A,PIfs X ifs (tDT X Z A F)
instance {X:Cx} {ifs:List Expr} {F:FT}:CoeFun (DIfs X ifs F) (fun _ => ∀ Z A,PIfs X ifs (tDT X Z A F)):=⟨fun h => h.go⟩
theorem difs_nil:DIfs X [] fTrue:=⟨fun Z A pins s σ H Q I x__128 => by
  obtain ⟨B,ow,δ,st,b,st',R,S,e,q⟩:=x__128
  cases e
  exact pifs_nil pins s σ H Q I (q H (Ext.refl H) S)⟩
noncomputable def fComp (k:Nat) (fr:List Nat) (Fi:FI) (T:Tgt) (Ft:FT) (F:FE):FO:=fun δ s => (Fi δ s).bind fun p => if small p.1 = true then compD T Ft F (compDl k fr δ) p.1 p.2 else none
theorem compDl_val {k:Nat} {fr:List Nat} {δ:Sl} {i:Nat} {d:D} (h:(compDl k fr δ)[i]? = some (.val d)):∃ t j,i = k + t∧fr[t]? = some j∧δ[j]? = some (.val d):=by
  unfold compDl at h
  by_cases hi:i < k
  · rw [List.getElem?_append_left (by simpa using hi),List.getElem?_replicate] at h
    split at h <;> cases h
  · rw [List.getElem?_append_right (by simpa using Nat.not_lt.mp hi),List.length_replicate,List.getElem?_map] at h
    refine ⟨i - k,?_⟩
    cases e:fr[i - k]? with
    | none => rw [e] at h; cases h
    | some j =>
      rw [e] at h
      refine ⟨j,by lia,rfl,?_⟩
      simp only [Option.map_some,Option.some.injEq] at h
      split at h
      · rename_i d' e2
        cases h
        exact e2
      · cases h
theorem compDl_own {k:Nat} {fr:List Nat} {δ:Sl} {i:Nat} {xs:List D} (h:(compDl k fr δ)[i]? = some (.own xs)):False:=by
  unfold compDl at h
  by_cases hi:i < k
  · rw [List.getElem?_append_left (by simpa using hi),List.getElem?_replicate] at h
    split at h <;> cases h
  · rw [List.getElem?_append_right (by simpa using Nat.not_lt.mp hi),List.length_replicate,List.getElem?_map] at h
    cases e:fr[i - k]? with
    | none => rw [e] at h; cases h
    | some j =>
      rw [e] at h
      simp only [Option.map_some,Option.some.injEq] at h
      split at h <;> cases h
theorem comp_read {k:Nat} {fr:List Nat} {Z:Zt} {A:List Addr} {ow:Ow} {σ:L2.St} {δ:Sl} {B H1:Hp} {s1 s':Sx} {J:It} {ds rs:List D} {Fin:List V→Hp→Prop} (hT:∀ i ∈ T.slots,i < k) (R:RepS X.K B Z A ow σ δ H1) (S1:StateAt Z H1 s1) (src:Src X.K Z A ow J ds H1) (hsm:small ds = true)
    (e:compD T Ft F (compDl k fr δ) ds s1 = some (rs,s')) (fin:∀ ys H2,Ext Z H1 H2→StateAt Z H2 s'→Reps X.K Z H2 (A ++ ow.map (·.2)) ys rs→ys.length ≤ sizeLine→Fin ys H2) :
    CompW J (tDG X.K Z (A ++ ow.map (·.2)) T) (tDT X Z (A ++ ow.map (·.2)) Ft) (tD X Z (A ++ ow.map (·.2)) F) (compSt k fr σ) H1 Fin:=by
  have hd0:ds.length ≤ sizeLine:=of_decide_eq_true hsm
  have RY:∀ {H2:Hp},Ext Z H1 H2→RepS X.K H1 Z (A ++ ow.map (·.2)) [] (compSt k fr σ) (compDl k fr δ) H2:=fun {H2} x => {
    ok:=fun q hq => by
      refine ⟨(R.mono x).all q hq,?_⟩
      rcases List.mem_append.mp hq with h | h
      · exact (R.ok q h).2
      · obtain ⟨⟨i,p⟩,hp,rfl⟩:=List.mem_map.mp h
        exact (R.ows i p hp).2.2.1
    ext:=x
    len:=by simp [compDl,compSt]
    val:=fun i d h => by
      obtain ⟨t,j,rfl,h1,h2⟩:=compDl_val h
      obtain ⟨v,h3,h4⟩:=(R.mono x).val j d h2
      refine ⟨v,?_,by rw [List.map_nil,List.append_nil]; exact h4⟩
      unfold compSt
      rw [List.getElem?_append_right (by simp),List.length_replicate,Nat.add_sub_cancel_left,List.getElem?_map,h1]
      show some ((σ[j]?).getD none) = _
      rw [h3]; rfl
    own:=fun i xs h => (compDl_own h).elim
    ows:=fun i p h => nomatch h
    inj:=fun i j p h => nomatch h }
  refine ⟨fun i m ys H2 => ∃ s2 r1 r2,m = ds.length - i∧i ≤ ds.length∧ys.length ≤ i∧Ext Z H1 H2∧StateAt Z H2 s2∧Reps X.K Z H2 (A ++ ow.map (·.2)) ys r1∧rs = r1 ++ r2∧compD T Ft F (compDl k fr δ) (ds.drop i) s2 = some (r2,s'),
    ⟨ds.length,s1,[],rs,by simp,Nat.zero_le _,Nat.le_refl _,Ext.refl _,S1,.nil,rfl,by simpa using e⟩,?_⟩
  rintro i m ys H2 ⟨s2,r1,r2,rfl,hi,hy,x2,S2,rep,rfl,e2⟩
  have sr:=src ow H2 s2 (Frm.ext x2) S2 (R.mono x2).all i
  by_cases hlt:i < ds.length
  · have hd:ds[i]? = some ds[i]:=List.getElem?_eq_getElem hlt
    obtain ⟨go,yl⟩:=sr.1 _ hd
    rw [List.drop_eq_getElem_cons hlt] at e2
    replace e2:((T.run ds[i] (compDl k fr δ)).bind fun δ1 => (Ft δ1 s2).bind fun p => if p.1 = true then (F δ1 p.2).bind fun q => (compD T Ft F (compDl k fr δ) (ds.drop (i + 1)) q.2).map fun r => (q.1 :: r.1,r.2) else compD T Ft F (compDl k fr δ) (ds.drop (i + 1)) p.2) = some (r2,s'):=e2
    refine .inr ⟨go,by lia,fun x H3 y => ?_⟩
    obtain ⟨x3,S3,r3⟩:=yl x H3 y
    cases e3:T.run ds[i] (compDl k fr δ) with
    | none => rw [e3] at e2; cases e2
    | some δ3 =>
      rw [e3] at e2
      replace e2:((Ft δ3 s2).bind fun p => if p.1 = true then (F δ3 p.2).bind fun q => (compD T Ft F (compDl k fr δ) (ds.drop (i + 1)) q.2).map fun r => (q.1 :: r.1,r.2) else compD T Ft F (compDl k fr δ) (ds.drop (i + 1)) p.2) = some (r2,s'):=e2
      refine ⟨H1,[],compDl k fr δ,ds[i],δ3,RY (x2.trans x3),by rw [List.map_nil,List.append_nil]; exact r3,e3,fun ow4 σ4 R4 f4 c4 => ⟨⟨c4.1,fun j v hj => ?_⟩,?_⟩⟩
      · by_cases hs:j ∈ T.slots
        · rw [compSt_own (hT j hs)] at hj; cases hj
        · rw [c4.2 j hs]; exact hj
      · cases e4:Ft δ3 s2 with
        | none => rw [e4] at e2; cases e2
        | some p =>
          obtain ⟨b,s4⟩:=p
          rw [e4] at e2
          refine ⟨H1,ow4,δ3,s2,b,s4,R4,S3,e4,fun H5 x5 S5 => ?_⟩
          cases b with
          | false =>
            replace e2:compD T Ft F (compDl k fr δ) (ds.drop (i + 1)) s4 = some (r2,s'):=e2
            exact iteF ⟨ds.length - (i + 1),by omega,s4,r1,r2,rfl,hlt,by lia,(x2.trans x3).trans x5,S5,rep.ext (x3.trans x5),rfl,e2⟩
          | true =>
            replace e2:((F δ3 s4).bind fun q => (compD T Ft F (compDl k fr δ) (ds.drop (i + 1)) q.2).map fun r => (q.1 :: r.1,r.2)) = some (r2,s'):=e2
            refine iteT ?_
            first | refine bnd2 e2 fun dy s5 e5 e2 => ?_ | refine mpp2 e2 fun dy s5 e5 e2 => ?_
            replace e2:((compD T Ft F (compDl k fr δ) (ds.drop (i + 1)) s5).map fun r => (dy :: r.1,r.2)) = some (r2,s'):=e2
            first | refine bnd1 e2 fun r e6 e2 => ?_ | refine mpp1 e2 fun r e6 e2 => ?_
            cases e2
            refine ⟨H1,ow4,δ3,s4,dy,s5,R4.mono x5,S5,e5,fun yv H6 x6 S6 ry => ⟨ds.length - (i + 1),by omega,s5,r1 ++ [dy],r.1,rfl,hlt,by rw [List.length_append,List.length_singleton]; lia,((x2.trans x3).trans x5).trans x6,S6,?_,by simp,e6⟩⟩
            exact (rep.ext ((x3.trans x5).trans x6)).append (.cons (ry.sub fun q hq => List.mem_append_left _ hq) .nil)
  · have hi':i = ds.length:=by lia
    subst hi'
    rw [List.drop_length] at e2
    cases e2
    exact .inl ⟨sr.2 (Nat.le_refl _),fin ys H2 x2 S2 (by rw [List.append_nil]; exact rep) (Nat.le_trans hy hd0)⟩

theorem fresh_move {Z:Zt} {H:Hp} {A:List Addr} {p:Addr} {o:HO} (hp:H p = none):∀ q u,H q = some u→¬ q ∈ A→NotZ Z q→upd H p o q = some u∧¬ q ∈ p :: A:=fun q u h n _ =>
  ⟨by rw [upd_ne (ne_of_none h hp)]; exact h,fun m => (List.mem_cons.mp m).elim (fun e => ne_of_none h hp e) n⟩
theorem Reps.fresh {K:PySem.W.Frag} {Z:Zt} {H:Hp} {A:List Addr} {p:Addr} {o:HO} {vs:List V} {ds:List D} (hp:H p = none) (r:Reps K Z H A vs ds):Reps K Z (upd H p o) (p :: A) vs ds:=r.move (fresh_move hp)
inductive tDFK (K:PySem.W.Frag) (Z:Zt) (A:List Addr) (F:FO) (σ:L2.St) (H:Hp) (Q:VK):Prop
  | mk (B:Hp) (ow:Ow) (δ:Sl) (s:Sx) (ds:List D) (s':Sx) (h0:RepS K B Z A ow σ δ H) (h1:StateAt Z H s) (h2:F δ s = some (ds,s')) (h3:∀ p vs H',Ext Z H H'→StateAt Z H' s'→H p = none→H' p = some (.lst vs)→Reps K Z H' (p :: (A ++ ow.map (·.2))) vs ds→Q (.ref p) H')
noncomputable abbrev tDF (X:Cx) (Z:Zt) (A:List Addr) (F:FO):TE:=tDFK X.K Z A F
structure DF (X:Cx) (e:Expr) (F:FO):Prop where
  go:∀ Z A,PE X e (tDF X Z A F)
instance {X:Cx} {e:Expr} {F:FO}:CoeFun (DF X e F) (fun _ => ∀ Z A,PE X e (tDF X Z A F)):=⟨fun h => h.go⟩
theorem DF.de {Fo:FO} (h:DF X e Fo):DE X e (asL Fo):=⟨fun Z A => PE.imp (h Z A) fun σ H Q x__129 => by
  obtain ⟨B,ow,δ,s,d,s',R,S,ee,q⟩:=x__129
  unfold asL at ee
  first | refine bnd1 ee fun p e1 ee => ?_ | refine mpp1 ee fun p e1 ee => ?_
  cases ee
  exact ⟨B,ow,δ,s,p.1,p.2,R,S,e1,fun p vs H' x1 S1 n h r => q _ H' x1 S1 (.lst h (fresh_not R.all n) (S.notZ n) (r.sub fun q hq => List.mem_cons_of_mem _ hq))⟩⟩
theorem df_comp {k:Nat} {fr:List Nat} {scope:Scope} {cl:List (Str × Addr)} {N:List Str} {ifs:List Expr} (ok:CompOk X scope cl N k fr) (hT:∀ i ∈ T.slots,i < k) (hi:DI X tg iter Fi)
    (hg:∀ C s H ex,DG (compCx X scope cl N C s H ex) tg T) (ht:∀ C s H ex,DIfs (compCx X scope cl N C s H ex) ifs Ft) (he:∀ C s H ex,DE (compCx X scope cl N C s H ex) elt F)
    (hc:X.calm = true:=by rfl) (hs:∀ x,foldedSetIterable iter X.env x = pure x:=by intro _; rfl):DF X (.ListComp elt [⟨tg,iter,ifs,0⟩] scope pos) (fComp k fr Fi T Ft F):=⟨fun Z A pins s σ H Q I x__130 => by
  obtain ⟨B,ow,δ,st,ds,st',R,S,e,q⟩:=x__130
  unfold fComp at e
  first | refine bnd2 e fun src s1 e1 e => ?_ | refine mpp2 e fun src s1 e1 e => ?_
  replace e:(if small src = true then compD T Ft F (compDl k fr δ) src s1 else none) = some (ds,st'):=e
  split at e
  · rename_i hsm
    refine pe_comp (g:=tDG X.K Z (A ++ ow.map (·.2)) T) (tt:=tDT X Z (A ++ ow.map (·.2)) Ft) (te:=tD X Z (A ++ ow.map (·.2)) F) ok hc (hi Z A) (fun C s H ex => hg C s H ex Z _) (fun C s H ex => ht C s H ex Z _) (fun C s H ex => he C s H ex Z _) hs pins s σ H Q I
      ⟨B,ow,δ,st,src,s1,R,S,e1,fun J H1 x1 S1 sr => comp_read hT (R.mono x1) S1 sr hsm e fun ys H2 x2 S2 rs hl => ⟨hl,fun p hp => ?_⟩⟩
    have hp1:H p = none:=by
      cases e9:H p with
      | none => rfl
      | some o =>
        have nz:NotZ Z p:=S2.notZ hp
        rw [(x1.trans x2) p o e9 nz] at hp
        cases hp
    exact q p ys _ ((x1.trans x2).trans (Ext.upd hp)) (S2.upd hp) hp1 upd_same (rs.fresh hp)
  · cases e⟩
noncomputable def sSetL (i:Nat) (F:FO):GS:=fun δ s => (F δ s).map fun p => (.next (δ.set i (.val (.list p.1))),p.2)
theorem ds_comp {i:Nat} {x:Str} {py spos:Pos} {k:Nat} {fr:List Nat} {scope:Scope} {cl:List (Str × Addr)} {N:List Str} {ifs:List Expr} (hN:X.N.Nodup) (ok:CompOk X scope cl N k fr) (hT:∀ i ∈ T.slots,i < k) (hi:DI X tg iter Fi)
    (hg:∀ C s H ex,DG (compCx X scope cl N C s H ex) tg T) (ht:∀ C s H ex,DIfs (compCx X scope cl N C s H ex) ifs Ft) (he:∀ C s H ex,DE (compCx X scope cl N C s H ex) elt F)
    (hsw:swapsWith (.ListComp elt [⟨tg,iter,ifs,0⟩] scope pos) (some (.Name x py)) spos.line X.env = pure true) (hi':X.N[i]? = some x:=by rfl) (hx:Loc X.env.scope x:=by first | exact Or.inl rfl | exact Or.inr rfl)
    (hc:X.calm = true:=by rfl) (hs:∀ x,foldedSetIterable iter X.env x = pure x:=by intro _; rfl) (hf:X.fn x = true ∨ X.env.scope.names.lookup x = some .local:=by first | exact .inl rfl | exact .inr rfl | assumption) :
    DS X (.Assign [.Name x py] (.ListComp elt [⟨tg,iter,ifs,0⟩] scope pos) spos) (sSetL i (fComp k fr Fi T Ft F)):=⟨fun Z A pins s σ H E I x__131 => by
  obtain ⟨ow,δ,st,o,st',R,S,e,q⟩:=x__131
  unfold sSetL at e
  first | refine bnd1 e fun r e0 e => ?_ | refine mpp1 e fun r e0 e => ?_
  cases e
  unfold fComp at e0
  first | refine bnd2 e0 fun src s1 e1 e0 => ?_ | refine mpp2 e0 fun src s1 e1 e0 => ?_
  replace e0:(if small src = true then compD T Ft F (compDl k fr δ) src s1 else none) = some r:=e0
  split at e0
  · rename_i hsm
    refine ps_comp (g:=tDG X.K Z (A ++ ow.map (·.2)) T) (tt:=tDT X Z (A ++ ow.map (·.2)) Ft) (te:=tD X Z (A ++ ow.map (·.2)) F) hN hi' hx ok hc (hi Z A) (fun C s H ex => hg C s H ex Z _) (fun C s H ex => ht C s H ex Z _) (fun C s H ex => he C s H ex Z _) hsw hs hf pins s σ H E I
      ⟨_,ow,δ,st,src,s1,R,S,e1,fun J H1 x1 S1 sr => comp_read (s':=r.2) (rs:=r.1) hT (R.mono x1) S1 sr hsm e0 fun ys H2 x2 S2 rs hl => ⟨hl,fun p hp => ?_⟩⟩
    have R2:=((R.mono x1).mono x2).mono (Ext.upd (o:=.lst ys) hp)
    obtain ⟨R3,f3⟩:=R2.set (i:=i) (v:=.ref p) (d:=.list r.1) (.lst upd_same (fresh_not ((R.mono x1).mono x2).all hp) (S2.notZ hp) (rs.ext (Ext.upd hp)))
    exact q _ _ _ R3 (S2.upd hp) ((Frm.ext ((x1.trans x2).trans (Ext.upd hp))).trans f3)
  · cases e0⟩
end
end L3

namespace L3
open PySem L2 PySem.Spec PyProof.Rows
section
variable {X:Cx} {a b e:Expr} {es:List Expr} {F Fa Fb:FE} {FL:FA} {x:Str} {p pos:Pos}
noncomputable def tru:D→Option Bool
  | .none => some false | .bool k => some k | .int i => some (i != 0) | .list xs => some (!xs.isEmpty) | .tuple xs => some (!xs.isEmpty) | _ => none
noncomputable def asT (F:FE):FT:=fun δ s => (F δ s).bind fun p => (tru p.1).map fun k => (k,p.2)
theorem isEmpty_reps {K:PySem.W.Frag} {Z:Zt} {H:Hp} {A:List Addr} {vs:List V} {ds:List D} (r:Reps K Z H A vs ds):vs.isEmpty = ds.isEmpty:=by
  cases r <;> rfl
theorem dt_tru (ha:DW X a F) (he:∀ whole,isTrue a X.env whole = (do let v ← whole; standAt a.pos; holding [v] (truthy v)):=by intro _; rfl):DT X a (asT F):=⟨fun Z A => PT.imp (pt_truth (ha Z A) he) fun σ H Q x__132 => by
  obtain ⟨B,ow,δ,s,k,s',R,S,e,q⟩:=x__132
  unfold asT at e
  cases e1:F δ s with
  | none => rw [e1] at e; cases e
  | some p =>
    obtain ⟨d,s1⟩:=p
    rw [e1] at e
    refine ⟨B,ow,δ,s,d,s1,R,S,e1,fun v H1 x1 S1 r => ?_⟩
    cases d with
    | none => cases e; rw [r.none]; exact ⟨_,rfl,q H1 x1 S1⟩
    | bool i => cases e; rw [r.bool]; exact ⟨_,rfl,q H1 x1 S1⟩
    | int i => cases e; rw [r.int]; exact ⟨_,rfl,q H1 x1 S1⟩
    | list ds =>
      cases e
      obtain ⟨p,vs,rfl,sq,_,rs⟩:=r.list
      exact ⟨_,.inl ⟨vs,sq,by rw [isEmpty_reps rs]⟩,q H1 x1 S1⟩
    | tuple ds =>
      cases e
      obtain ⟨p,vs,rfl,sq,rs⟩:=r.tuple
      exact ⟨_,.inr (.inl ⟨vs,sq,by rw [isEmpty_reps rs]⟩),q H1 x1 S1⟩
    | str _ => cases e
    | dict _ => cases e⟩
noncomputable def gCatL:G2:=fun a b => match a,b with | .list xs,.list ys => if small (xs ++ ys) = true then some (.list (xs ++ ys)) else none | _,_ => none
theorem RepW.lst {K:PySem.W.Frag} {Z:Zt} {H:Hp} {A:List Addr} {v:V} {ds:List D} (r:RepW K Z H A v (.list ds)):∃ p vs,v = .ref p∧H p = some (.lst vs)∧NotZ Z p∧Reps K Z H A vs ds:=by
  rcases r with r | ⟨p,vs,ds,e1,e2,e3,e4,e5⟩
  · cases r with
    | lst h n z q => exact ⟨_,_,rfl,h,z,q⟩
  · cases e2; exact ⟨p,vs,e1,e3,e4,e5⟩
theorem dcat:DOp X (binaryOp .Add) gCatL:=DOp.of op_cat fun Z A H st x y dx dy d Q S hA rx ry e q => by
  unfold gCatL at e
  split at e
  · split at e
    · rename_i hs
      cases e
      obtain ⟨p1,v1,rfl,h1,_,r1⟩:=rx.lst
      obtain ⟨p2,v2,rfl,h2,_,r2⟩:=ry.lst
      have hl:=of_decide_eq_true hs
      rw [List.length_append] at hl
      refine ⟨p1,p2,v1,v2,rfl,rfl,h1,h2,by rw [r1.length,r2.length]; exact hl,fun p hp => ?_⟩
      exact q _ _ (Ext.upd hp) (S.upd hp) (.lst upd_same (fresh_not hA hp) (S.notZ hp) ((r1.append r2).ext (Ext.upd hp)))
    · cases e
  · cases e
noncomputable def gAdd:G2:=fun a b => (gAddI a b).or (gCatL a b)
theorem dadd:DOp X (binaryOp .Add) gAdd:=DOp.or dadd_int dcat
theorem spD_none {K:PySem.W.Frag} {vs:List V} {H:Hp} {Q:VK} {E:XK} (h:spD K (fun _ _ => none) vs H Q E):False:=by
  obtain ⟨_,_,_,_,_,_,_,_,_,e,_⟩:=h
  cases e
inductive Cal (P:Program) (w:World) (K:PySem.W.Frag) (mg:Str→Option Value) (base:Heap) (x:Str) (ps:List Str) (k:Nat) (g:GF):Prop
  | mk (f:Addr) (fd:FuncData) (h0:FnOk P w K mg base CX0 k f fd ps (spD K g)) (h1:mg x = some (.ref f)) (h2:PySem.W.keepIn K (.ref f) = true) (h3:Binds K fd ps [])
theorem de_cal {gf:GF} {k k':Nat} {ps:List Str} (C:Cal X.prog X.w X.K X.mg X.base x ps k gf) (hr:Room k' X.A) (ha:DA X (e :: es) FL) (hk:k ≤ k':=by decide) (hg:Gl X x:=by rfl) (hdb:(x == ("__debug__":Str)) = false:=by decide)
    (he:starEach (e :: es) X.env = (false,eval e X.env) :: starEach es X.env:=by rfl) (hpl:(backTo pos (starEach es X.env)).any (·.1) = false:=by rfl):DE X (.Call (.Name x p) (e :: es) [] pos) (fCall gf FL):=by
  obtain ⟨f,fd,G,hm,hk',hb⟩:=C
  exact de_call G (hr.mono hk) hm hk' hb ha hg hdb he hpl
theorem lookup_kind {names:List (Str × NameKind)} {x:Str} {k:NameKind} (h:names.lookup x = some k):∃ y ∈ names,y.2 = k:=by
  induction names with
  | nil => cases h
  | cons y r ih =>
    rw [List.lookup_cons] at h
    split at h
    · cases h; exact ⟨y,List.mem_cons_self,rfl⟩
    · obtain ⟨z,hz,e⟩:=ih h
      exact ⟨z,List.mem_cons_of_mem _ hz,e⟩
theorem compOk0 {scope:Scope} {N:List Str} {k:Nat} (kind:scope.kind = .function) (nocell:∀ y ∈ scope.names,y.2 ≠ .cell) (nofree:∀ y ∈ scope.names,y.2 ≠ .free) (names:∀ y ∈ scope.names,y.2 = .local→scope.names.lookup y.1 = some .local) (len:N.length = k):CompOk X scope [] N k [] where
  kind:=kind
  nocell:=nocell
  names:=names
  clos:=closureFor_none nofree
  sub:=fun x c h => nomatch h
  has:=fun x h => by
    have e:(relabel scope X.env).names = scope.names:=by
      unfold relabel
      refine map_eq_self fun y hy => ?_
      obtain ⟨n,kk⟩:=y
      have:=nofree _ hy
      cases kk <;> first | rfl | exact absurd rfl this
    rw [e] at h
    rcases h with h | h
    · obtain ⟨y,hy,ey⟩:=lookup_kind h; exact absurd ey (nocell y hy)
    · obtain ⟨y,hy,ey⟩:=lookup_kind h; exact absurd ey (nofree y hy)
  len:=by rw [len]; rfl
  free:=fun t j x h => nomatch h
end
end L3

namespace L3
open PySem L2 PySem.Spec PyProof.Rows
theorem ct_ne:¬ (("cells":Str) = "turn"):=by decide +kernel
theorem key_ne:¬ ((Sum.inr ("cells":Str):Key) = Sum.inr ("turn":Str)):=fun e => ct_ne (Sum.inr.inj e)
theorem st_turn (c:Addr) (t:Int):valV (stDict c t) (Sum.inr "turn":Key) = some (.int t):=by
  unfold stDict
  rw [valV_neg key_ne,valV_pos rfl]
theorem st_cells (c:Addr) (t:Int):valV (stDict c t) (Sum.inr "cells":Key) = some (.ref c):=by
  unfold stDict
  rw [valV_pos rfl]
theorem st_put (c:Addr) (t u:Int):putK (stDict c t) (Sum.inr "turn":Key) (.int u) = stDict c u:=by
  have e:((stDict c t).any fun kv => decide (kv.1 = (Sum.inr "turn":Key))) = true:=by rw [valV_any,st_turn]; rfl
  unfold putK
  rw [if_pos e]
  unfold stDict
  simp only [List.map_cons,List.map_nil,if_neg key_ne,if_true]
section
variable {X:Cx}
theorem call_divmodB:CallR X (.builtin "divmod") (fun xs H Q => ∃ i j,xs = [.int i,.int j]∧divOk i j = true∧∀ p,H p = none→Q (.ref p) (upd H p (.tup [.int (i.fdiv j),.int (i.fmod j)]))):=by
  intro pins s σ H xs us Q I r h
  obtain ⟨i,j,rfl,hd,q⟩:=h
  obtain ⟨u,w',rfl,⟨t,rfl⟩,⟨t',rfl⟩⟩:=vals2 r
  have hd':(decide (j ≠ 0) && decide (j.natAbs.log2 < 9000)) = true:=hd
  rw [Bool.and_eq_true] at hd'
  refine divmod_int (of_decide_eq_true hd'.1) ?_ (.inl (PyProof.noPylong_of_log2 (of_decide_eq_true hd'.2)))
  have hn:H s.heap.objs.size = none:=I.hok.fresh (Nat.le_refl _)
  refine ⟨.ref s.heap.objs.size,_,?_,rfl,q _ hn⟩
  refine I.laid (fun b o e => Heap.get?_push_of_some _ e) (Nat.le_refl _) ⟨by show 2 ≤ sizeLine; decide,[.int (i.fdiv j) s.toks,.int (i.fmod j) (s.toks + 1)],.cons ⟨_,rfl⟩ (.cons ⟨_,rfl⟩ .nil),?_⟩
  exact ⟨_,Heap.get?_push_size s.heap rfl,rfl,0,rfl⟩
end
noncomputable def mix1 (cell t:Int):Int:=((cell.fmod 2147483629 + t * t * 7919 + 11) * 48271).fmod 2147483647
noncomputable def mix2 (cell t:Int):Int:=(mix1 cell t * mix1 cell t).fmod 2147483587
noncomputable def mix (cell t many:Int):Int:=((((mix2 cell t + t * 104729) * 39373).fmod 2147483629).fdiv 64).fmod many
noncomputable def takeOk (s:Sx) (many:Int):Bool:=decide (0 < many) && decide (many.natAbs.log2 < 9000) && decide (0 ≤ s.2) && decide (s.2 < 1000000) && decide (0 < s.1.length) && decide (s.1.length ≤ 1000)
noncomputable def plcOf (s:Sx):Nat:=((s.2 + 1).fmod s.1.length).toNat
noncomputable def celOf (s:Sx):Int:=s.1.getD (plcOf s) 0
noncomputable def takeF (s:Sx) (many:Int):D × Sx :=
  if 1000000000000000000 ≤ celOf s then (.int ((celOf s).fmod many),(s.1.set (plcOf s) ((celOf s).fdiv many),s.2 + 1))
  else (.int (mix (celOf s) (s.2 + 1) many),(s.1,s.2 + 1))
noncomputable def g__law_take:GF:=fun ds s => match ds with
  | [.dict [],.int many] => if takeOk s many = true then some (takeF s many) else none
  | _ => none
noncomputable def Good (n:Nat) (s:Sx):Prop:=0 < s.1.length∧s.1.length ≤ 63∧0 ≤ s.2∧s.2 + n < 1000000
theorem Good.mono {n m:Nat} {s:Sx} (h:Good n s) (hm:m ≤ n):Good m s:=⟨h.1,h.2.1,h.2.2.1,by have:=h.2.2.2; lia⟩
theorem take_spec {s:Sx} {many:Int} {n:Nat} (h:Good (n + 1) s) (h1:0 < many) (h2:many < 2 ^ 100):∃ r s',g__law_take [.dict [],.int many] s = some (.int r,s')∧0 ≤ r∧r < many∧Good n s':=by
  obtain ⟨a,b,c,d⟩:=h
  have e:takeOk s many = true:=by
    unfold takeOk
    have:many.natAbs.log2 < 9000:=by
      have hm:many.natAbs ≠ 0:=by lia
      rw [Nat.log2_lt hm]
      calc many.natAbs < 2 ^ 100:=by omega
        _ ≤ 2 ^ 9000:=Nat.pow_le_pow_right (by decide) (by decide)
    simp only [Bool.and_eq_true,decide_eq_true_eq]
    exact ⟨⟨⟨⟨⟨h1,this⟩,c⟩,by lia⟩,a⟩,by lia⟩
  have e2:g__law_take [.dict [],.int many] s = some (takeF s many):=by
    show (if takeOk s many = true then some (takeF s many) else none) = _
    rw [if_pos e]
  rw [e2]
  unfold takeF
  split
  · refine ⟨_,_,rfl,?_,?_,?_⟩
    · rw [Int.fmod_eq_emod_of_nonneg _ (Int.le_of_lt h1)]; exact Int.emod_nonneg _ (by lia)
    · rw [Int.fmod_eq_emod_of_nonneg _ (Int.le_of_lt h1)]; exact Int.emod_lt_of_pos _ h1
    · exact ⟨by simpa using a,by simpa using b,by show 0 ≤ s.2 + 1; lia,by show s.2 + 1 + (n:Int) < 1000000; lia⟩
  · refine ⟨_,_,rfl,?_,?_,?_⟩
    · unfold mix; rw [Int.fmod_eq_emod_of_nonneg _ (Int.le_of_lt h1)]; exact Int.emod_nonneg _ (by lia)
    · unfold mix; rw [Int.fmod_eq_emod_of_nonneg _ (Int.le_of_lt h1)]; exact Int.emod_lt_of_pos _ h1
    · exact ⟨a,b,by show 0 ≤ s.2 + 1; lia,by show s.2 + 1 + (n:Int) < 1000000; lia⟩
noncomputable def Bt (n:Nat) (i:Int):Prop:=i.natAbs < 2 ^ n
theorem Bt.mono {n m:Nat} {i:Int} (h:Bt n i) (hm:n ≤ m):Bt m i:=Nat.lt_of_lt_of_le h (Nat.pow_le_pow_right (by decide) hm)
theorem Bt.mul {n m:Nat} {i j:Int} (h:Bt n i) (h2:Bt m j):Bt (n + m) (i * j):=by
  unfold Bt at *
  rw [Int.natAbs_mul,Nat.pow_add]
  exact Nat.mul_lt_mul'' h h2
theorem Bt.add {n m:Nat} {i j:Int} (h:Bt n i) (h2:Bt m j):Bt (max n m + 1) (i + j):=by
  have h1':=h.mono (Nat.le_max_left n m)
  have h2':=h2.mono (Nat.le_max_right n m)
  unfold Bt at *
  have:=Int.natAbs_add_le i j
  rw [Nat.pow_succ]; lia
theorem Bt.neg {n:Nat} {i:Int} (h:Bt n i):Bt n (-i):=by unfold Bt at *; rwa [Int.natAbs_neg]
theorem Bt.sub {n m:Nat} {i j:Int} (h:Bt n i) (h2:Bt m j):Bt (max n m + 1) (i - j):=by rw [Int.sub_eq_add_neg]; exact h.add h2.neg
theorem Bt.lit {n:Nat} {i:Int} (h:decide (i.natAbs < 2 ^ n) = true):Bt n i:=by unfold Bt; exact of_decide_eq_true h
theorem Bt.fmod {n:Nat} {i j:Int} (hj:0 < j) (h:Bt n j):Bt n (i.fmod j):=by
  unfold Bt at *
  rw [Int.fmod_eq_emod_of_nonneg _ (Int.le_of_lt hj)]
  have:=Int.emod_nonneg i (show j ≠ 0 by lia)
  have:=Int.emod_lt_of_pos i hj
  omega
theorem Bt.ok {n m:Nat} {i j:Int} (h:Bt n i) (h2:Bt m j) (hs:n + m ≤ 134217728):mulOk i j = true:=by
  refine decide_eq_true (Nat.le_trans (Nat.add_le_add ?_ ?_) hs)
  · exact PySem.intBits_le_iff.mpr h
  · exact PySem.intBits_le_iff.mpr h2
theorem Bt.div {n:Nat} {i j:Int} (h:Bt n j) (h0:j ≠ 0) (hn:n ≤ 9000):divOk i j = true:=by
  unfold divOk
  simp only [Bool.and_eq_true,decide_eq_true_eq]
  refine ⟨h0,?_⟩
  rw [Nat.log2_lt (by lia)]
  exact Nat.lt_of_lt_of_le h (Nat.pow_le_pow_right (by decide) hn)
noncomputable def G_mixed:GS:=sSeq (sSet 6 (f2 gModI (f2 gMulI (f2 gAddI (f2 gAddI (f2 gModI (fVar 4) (fC (.int 2147483629))) (f2 gMulI (f2 gMulI (fVar 2) (fVar 2)) (fC (.int 7919)))) (fC (.int 11))) (fC (.int 48271))) (fC (.int 2147483647))))
  (sSeq (sSet 6 (f2 gModI (f2 gMulI (fVar 6) (fVar 6)) (fC (.int 2147483587))))
  (sRet (f2 gModI (f2 gDivI (f2 gModI (f2 gMulI (f2 gAddI (fVar 6) (f2 gMulI (fVar 2) (fC (.int 104729)))) (fC (.int 39373))) (fC (.int 2147483629))) (fC (.int 64))) (fVar 1))))
theorem mixed_run {cell t many:Int} {s:Sx} (h0:0 ≤ t) (h1:t ≤ 1000000) (hm:0 < many):G_mixed [.non,.val (.int many),.val (.int t),.non,.val (.int cell),.non,.non] s = some (.ret (.int (mix cell t many)),s):=by
  have b1:Bt 20 t:=by unfold Bt; lia
  have b2:Bt 31 (cell.fmod 2147483629):=Bt.fmod (by decide) (.lit (by decide))
  have b3:Bt 31 (mix1 cell t):=Bt.fmod (by decide) (.lit (by decide))
  have b4:Bt 31 (mix2 cell t):=Bt.fmod (by decide) (.lit (by decide))
  have m1:mulOk t t = true:=b1.ok b1 (by decide)
  have m2:mulOk (t * t) 7919 = true:=(b1.mul b1).ok (n:=40) (m:=13) (.lit (by decide)) (by decide)
  have b5:Bt 60 (cell.fmod 2147483629 + t * t * 7919 + 11):=((b2.add ((b1.mul b1).mul (.lit (n:=13) (by decide)))).add (.lit (n:=4) (by decide))).mono (by decide)
  have m3:mulOk (cell.fmod 2147483629 + t * t * 7919 + 11) 48271 = true:=b5.ok (m:=16) (.lit (by decide)) (by decide)
  have m4:mulOk (mix1 cell t) (mix1 cell t) = true:=b3.ok b3 (by decide)
  have m5:mulOk t 104729 = true:=b1.ok (m:=17) (.lit (by decide)) (by decide)
  have m6:mulOk (mix2 cell t + t * 104729) 39373 = true:=(b4.add (b1.mul (.lit (n:=17) (by decide)))).ok (m:=16) (.lit (by decide)) (by decide)
  have d1:divOk (((mix2 cell t + t * 104729) * 39373).fmod 2147483629) 64 = true:=Bt.div (n:=7) (.lit (by decide)) (by decide) (by decide)
  have n1:decide (many ≠ 0) = true:=decide_eq_true (by lia)
  have e1:∀ (δ:Sl),δ[4]? = some (.val (.int cell))→δ[2]? = some (.val (.int t))→sSet 6 (f2 gModI (f2 gMulI (f2 gAddI (f2 gAddI (f2 gModI (fVar 4) (fC (.int 2147483629))) (f2 gMulI (f2 gMulI (fVar 2) (fVar 2)) (fC (.int 7919)))) (fC (.int 11))) (fC (.int 48271))) (fC (.int 2147483647))) δ s = some (.next (δ.set 6 (.val (.int (mix1 cell t)))),s):=fun δ h4 h2 => by
    simp [sSet,f2,fVar,fC,h4,h2,gModI,gMulI,gAddI,gI,m1,m2,m3,mix1]
  have e2:∀ (δ:Sl),δ[6]? = some (.val (.int (mix1 cell t)))→sSet 6 (f2 gModI (f2 gMulI (fVar 6) (fVar 6)) (fC (.int 2147483587))) δ s = some (.next (δ.set 6 (.val (.int (mix2 cell t)))),s):=fun δ h6 => by
    simp [sSet,f2,fVar,fC,h6,gModI,gMulI,gI,m4,mix2]
  have e3:∀ (δ:Sl),δ[6]? = some (.val (.int (mix2 cell t)))→δ[2]? = some (.val (.int t))→δ[1]? = some (.val (.int many))→sRet (f2 gModI (f2 gDivI (f2 gModI (f2 gMulI (f2 gAddI (fVar 6) (f2 gMulI (fVar 2) (fC (.int 104729)))) (fC (.int 39373))) (fC (.int 2147483629))) (fC (.int 64))) (fVar 1)) δ s = some (.ret (.int (mix cell t many)),s):=fun δ h6 h2 h1 => by
    have n2:¬ many = 0:=by lia
    simp [sRet,f2,fVar,fC,h6,h2,h1,gModI,gMulI,gAddI,gDivI,gI,m5,m6,d1,n2,mix]
  unfold G_mixed sSeq
  rw [e1 _ rfl rfl]
  show (match sSet 6 _ _ s with | some (.next δ',s') => _ | r => r) = _
  rw [e2 _ rfl]
  exact e3 _ rfl rfl rfl
noncomputable def beginCells (ns:List Int):List Int:=if ns = [] then [7] else ns
noncomputable def spBegin (K:PySem.W.Frag):Sp:=fun vs H Q _ => ∃ a ns,vs = [.ref a]∧SqL K H a (ns.map V.int)∧ns.length ≤ 63 ∧
  ∀ st c H',(∀ b o,H b = some o→H' b = some o)→H' st = some (.dK (stDict c 0))→H' c = some (.lst ((beginCells ns).map V.int))→Q (.ref st) H'
end L3
namespace L3
open PySem L2 PySem.Spec PyProof.Rows
theorem DSs.any {X:Cx} {sts:List Stmt} {G:GS} (h:DSs X sts G):PSs X sts (fun E σ H => ∃ Z A,tDS X Z A G E σ H):=fun pins s σ H D I x__133 => (by obtain ⟨Z,A,q⟩:=x__133; exact h Z A pins s σ H D I q)
theorem DS.at0 {X:Cx} {st:Stmt} {G:GS} (h:DS X st G):PS X st (tDS X none [] G):=h none []
theorem reps_ints (K:PySem.W.Frag) (Z:Zt) (H:Hp) (A:List Addr):∀ ns:List Int,Reps K Z H A (ns.map V.int) (ns.map PyData.int)
  | [] => .nil
  | n :: r => .cons (.int n) (reps_ints K Z H A r)
theorem ints_of_reps {K:PySem.W.Frag} {Z:Zt} {H:Hp} {A:List Addr}:∀ {ns:List Int} {vs:List V},Reps K Z H A vs (ns.map PyData.int)→vs = ns.map V.int
  | [],_,.nil => rfl
  | n :: r,_,.cons h t => by cases h; rw [ints_of_reps t]; rfl
theorem lay_ints:∀ ns:List Int,PyData.canLayAll0 (ns.map PyData.int) = true
  | [] => by simp [PyData.canLayAll0]
  | n :: r => by simp [PyData.canLayAll0,PyData.canLay0,lay_ints r]
theorem depth_ints:∀ ns:List Int,PyData.depthAll (ns.map PyData.int) = 0
  | [] => by simp [PyData.depthAll]
  | n :: r => by simp [PyData.depthAll,PyData.depth,depth_ints r]
theorem shaped_ints (ns:List Int):SeqAt.shaped (.list (ns.map PyData.int)) = true:=by
  simp [SeqAt.shaped,PyData.canLay0,PyData.depth,lay_ints,depth_ints]
theorem shaped_nil:SeqAt.shaped (.list []) = true:=by simp [SeqAt.shaped,PyData.canLay0,PyData.depth,PyData.canLayAll0,PyData.depthAll]
theorem eqv_nil (ns:List Int):PyData.eqv (.list (ns.map PyData.int)) (.list []) = decide (ns = []):=by
  cases ns <;> simp [PyData.eqv,PyData.eqvAll]
noncomputable def G_seven:GS:=sIf (asB (f2 gEq (fVar 1) (eLst aNil))) (sSet 1 (eLst (aCons (fC (.int 7)) aNil))) sNext
theorem seven_run (ns:List Int) (s:Sx) (c:Ce):G_seven [c,.val (.list (ns.map PyData.int))] s = some (.next [c,.val (.list ((beginCells ns).map PyData.int))],s):=by
  have e1:small [] = true:=by decide
  have e2:small [PyData.int 7] = true:=by decide
  simp only [G_seven,sIf,asB,f2,fVar,eLst,aNil,aCons,fC,List.getElem?_cons_succ,List.getElem?_cons_zero,Option.bind_some,Option.map_some,e1,if_true,gEq,shaped_ints,shaped_nil,Bool.and_self,eqv_nil]
  by_cases h:ns = []
  · subst h
    simp [sSet,eLst,aCons,aNil,fC,e2,beginCells]
  · simp [h,sNext,beginCells]
end L3
namespace L3
open PySem L2 PySem.Spec PyProof.Rows
noncomputable def spLaw (K:PySem.W.Frag):Sp:=fun vs H Q _ => ∃ (a:Addr) (ns:List Int),vs = [.ref a]∧SqL K H a (ns.map V.int)∧ns.length ≤ 63∧∀ H',Q (.bl true) H'
theorem begin_len (ns:List Int) (h:ns.length ≤ 63):0 < (beginCells ns).length∧(beginCells ns).length ≤ 63:=by
  unfold beginCells
  split
  · exact ⟨by decide,by decide⟩
  · rename_i hn
    exact ⟨by cases ns with | nil => exact absurd rfl hn | cons a r => simp,h⟩
end L3

namespace L3
open PySem L2 PySem.Spec PyProof.Rows
theorem forD_run {T:Tgt} {G:GS} (I:Nat→Sl→Sx→Prop):∀ (ds:List D) (δ:Sl) (s:Sx),I ds.length δ s →
    (∀ k d δ s,d ∈ ds→I (k + 1) δ s→∃ δ1 δ' s',T.run d δ = some δ1∧G δ1 s = some (.next δ',s')∧I k δ' s')→∃ δ' s',forD T G ds δ s = some (.next δ',s')∧I 0 δ' s'
  | [],δ,s,h,_ => ⟨δ,s,rfl,h⟩
  | d :: ds,δ,s,h,step => by
    obtain ⟨δ1,δ2,s2,e1,e2,h2⟩:=step ds.length d δ s List.mem_cons_self h
    obtain ⟨δ3,s3,e3,h3⟩:=forD_run I ds δ2 s2 h2 fun k d' δ s hd => step k d' δ s (List.mem_cons_of_mem _ hd)
    refine ⟨δ3,s3,?_,h3⟩
    show ((T.run d δ).bind fun δ1 => _) = _
    rw [e1]
    show (match G δ1 s with | some (.next δ',s') => forD T G ds δ' s' | some (.cnt δ',s') => forD T G ds δ' s' | some (.brk δ',s') => some (.next δ',s') | some (.ret r,s') => some (.ret r,s') | some (.own r,s') => some (.own r,s') | none => none) = _
    rw [e2]
    exact e3
theorem euclid {Ft:FT} {G:GS} {s:Sx} (mk:Nat→Nat→Sl) (t0:∀ a,Ft (mk a 0) s = some (false,s)) (t1:∀ a b,0 < b→Ft (mk a b) s = some (true,s)) (g:∀ a b,0 < b→G (mk a b) s = some (.next (mk b (a % b)),s)) :
    ∀ (k a b:Nat),b < 2 ^ k→whileN Ft G (2 * k + 1) (mk a b) s = some (.next (mk (Nat.gcd a b) 0),s):=by
  have zero:∀ n a,whileN Ft G (n + 1) (mk a 0) s = some (.next (mk a 0),s):=fun n a => by
    unfold whileN
    rw [t0]; rfl
  have one:∀ n a b,0 < b→whileN Ft G (n + 1) (mk a b) s = whileN Ft G n (mk b (a % b)) s:=fun n a b hb => by
    rw [whileN.eq_2,t1 a b hb]
    show (match G (mk a b) s with | some (.next δ',s') => whileN Ft G n δ' s' | some (.cnt δ',s') => whileN Ft G n δ' s' | some (.brk δ',s') => some (.next δ',s') | some (.ret d,s') => some (.ret d,s') | some (.own d,s') => some (.own d,s') | none => none) = _
    rw [g a b hb]
  intro k
  induction k with
  | zero =>
    intro a b hb
    have e:b = 0:=by simpa using hb
    subst e
    rw [zero,Nat.gcd_zero_right]
  | succ k ih =>
    intro a b hb
    by_cases h0:b = 0
    · subst h0; rw [show 2 * (k + 1) + 1 = (2 * k + 2) + 1 by lia,zero,Nat.gcd_zero_right]
    · have hb0:0 < b:=by lia
      rw [show 2 * (k + 1) + 1 = (2 * k + 2) + 1 by lia,one _ _ _ hb0]
      by_cases h1:a % b = 0
      · rw [h1,show 2 * k + 2 = (2 * k + 1) + 1 by lia,zero]
        have:Nat.gcd a b = b:=by rw [Nat.gcd_comm,Nat.gcd_rec,h1,Nat.gcd_zero_left]
        rw [this]
      · have hr:0 < a % b:=by lia
        rw [show 2 * k + 2 = (2 * k + 1) + 1 by lia,one _ _ _ hr,ih]
        · have e1:Nat.gcd a b = Nat.gcd b (a % b):=by rw [Nat.gcd_comm a b,Nat.gcd_rec b a,Nat.gcd_comm]
          have e2:Nat.gcd b (a % b) = Nat.gcd (a % b) (b % (a % b)):=by rw [Nat.gcd_comm b (a % b),Nat.gcd_rec (a % b) b,Nat.gcd_comm]
          rw [e1,e2]
        · have l1:a % b < b:=Nat.mod_lt _ hb0
          have l2:b % (a % b) < a % b:=Nat.mod_lt _ hr
          have l3:a % b + b % (a % b) ≤ b:=by
            have:=Nat.div_add_mod b (a % b)
            have h1:1 ≤ b / (a % b):=Nat.div_pos (Nat.le_of_lt l1) hr
            have h2:a % b * 1 ≤ a % b * (b / (a % b)):=Nat.mul_le_mul_left _ h1
            lia
          rw [Nat.pow_succ] at hb
          lia
theorem euclidF {Ft:FT} {G:GS} {s:Sx} (mk:Nat→Nat→Sl) (t0:∀ a,Ft (mk a 0) s = some (false,s)) (t1:∀ a b,0 < b→Ft (mk a b) s = some (true,s)) (g:∀ a b,0 < b→G (mk a b) s = some (.next (mk b (a % b)),s))
    {k a b:Nat} (hb:b < 2 ^ k) (hk:k ≤ 100000):sWhile Ft G (mk a b) s = some (.next (mk (Nat.gcd a b) 0),s):=whileN_mono (euclid mk t0 t1 g k a b hb) (by unfold fuel; lia)

noncomputable def sgn (b:Int):Int:=if b < 0 then -1 else 1
noncomputable def numT (t b:Int):Int:=(sgn b * t).fdiv (Int.gcd t b)
noncomputable def numB (t b:Int):Int:=(sgn b * b).fdiv (Int.gcd t b)
noncomputable def num (t b:Int):D:=.tuple [.int (numT t b),.int (numB t b)]
theorem fdiv_neg_sgn (t g:Int):t.fdiv (-g) = (-t).fdiv g:=by
  have:=Int.neg_fdiv_neg (-t) g
  rw [Int.neg_neg] at this
  exact this
theorem gcd_pos {t b:Int} (hb:b ≠ 0):0 < (Int.gcd t b:Int):=by
  have:0 < Int.gcd t b:=Int.gcd_pos_of_ne_zero_right t hb
  lia
theorem num_parts {t b:Int} (hb:b ≠ 0):∃ t' b',t = (Int.gcd t b:Int) * t'∧b = (Int.gcd t b:Int) * b'∧numT t b = sgn b * t'∧numB t b = sgn b * b'∧Int.gcd t' b' = 1:=by
  obtain ⟨t',e1⟩:=Int.gcd_dvd_left (a:=t) (b:=b)
  obtain ⟨b',e2⟩:=Int.gcd_dvd_right (a:=t) (b:=b)
  have hg:=gcd_pos (t:=t) hb
  refine ⟨t',b',e1,e2,?_,?_,?_⟩
  · unfold numT
    have:sgn b * t = (Int.gcd t b:Int) * (sgn b * t'):=by
      calc sgn b * t = sgn b * ((Int.gcd t b:Int) * t'):=by rw [← e1]
        _ = (Int.gcd t b:Int) * (sgn b * t'):=by rw [← Int.mul_assoc,← Int.mul_assoc,Int.mul_comm (sgn b)]
    rw [this,Int.mul_fdiv_cancel_left _ (by lia)]
  · unfold numB
    have:sgn b * b = (Int.gcd t b:Int) * (sgn b * b'):=by
      calc sgn b * b = sgn b * ((Int.gcd t b:Int) * b'):=by rw [← e2]
        _ = (Int.gcd t b:Int) * (sgn b * b'):=by rw [← Int.mul_assoc,← Int.mul_assoc,Int.mul_comm (sgn b)]
    rw [this,Int.mul_fdiv_cancel_left _ (by lia)]
  · have h:=Int.gcd_mul_left (Int.gcd t b:Int) t' b'
    rw [← e1,← e2] at h
    have hgn:0 < Int.gcd t b:=by lia
    have h2:((Int.gcd t b:Int)).natAbs = Int.gcd t b:=by lia
    rw [h2] at h
    exact Nat.eq_of_mul_eq_mul_left hgn (by rw [Nat.mul_one]; exact h.symm)
end L3
namespace L3
open PySem L2 PySem.Spec PyProof.Rows
theorem sgn_abs (b:Int):(sgn b).natAbs = 1:=by unfold sgn; split <;> rfl
theorem numB_pos {t b:Int} (hb:b ≠ 0):0 < numB t b:=by
  obtain ⟨t',b',e1,e2,e3,e4,e5⟩:=num_parts (t:=t) hb
  have hg:=gcd_pos (t:=t) hb
  rw [e4]
  generalize (Int.gcd t b:Int) = g at *
  subst e2
  unfold sgn
  split
  · rename_i h
    have:b' < 0:=by
      by_cases q:b' < 0
      · exact q
      · exact absurd h (Int.not_lt.mpr (Int.mul_nonneg (Int.le_of_lt hg) (Int.not_lt.mp q)))
    lia
  · rename_i h
    have:b' ≠ 0:=fun z => by subst z; exact hb (Int.mul_zero _)
    have:0 ≤ b':=by
      by_cases q:b' < 0
      · exact absurd (Int.mul_neg_of_pos_of_neg hg q) h
      · exact Int.not_lt.mp q
    lia
theorem num_gcd {t b:Int} (hb:b ≠ 0):Int.gcd (numT t b) (numB t b) = 1:=by
  obtain ⟨t',b',e1,e2,e3,e4,e5⟩:=num_parts (t:=t) hb
  rw [e3,e4,Int.gcd_mul_left,e5,sgn_abs]
theorem abs_if (i:Int):(if i < 0 then -i else i) = (i.natAbs:Int):=by split <;> lia
theorem fmod_nat (a b:Nat):((a:Int)).fmod (b:Int) = ((a % b:Nat):Int):=by
  rw [Int.fmod_eq_emod_of_nonneg _ (Int.natCast_nonneg b)]; rfl
theorem Bt.gcd {n:Nat} {a b:Int} (h:Bt n b) (hb:b ≠ 0):Bt n (Int.gcd a b:Int):=by
  unfold Bt at *
  have h1:Int.gcd a b ∣ b.natAbs:=Nat.gcd_dvd_right a.natAbs b.natAbs
  have:=Nat.le_of_dvd (by lia) h1
  omega
theorem Bt.fdiv {n:Nat} {a b:Int} (h:Bt n a):Bt n (a.fdiv b):=Nat.lt_of_le_of_lt (PySem.natAbs_fdiv_le a b) h
theorem Bt.sgn {n:Nat} {a b:Int} (h:Bt n a):Bt n (L3.sgn b * a):=by unfold Bt at *; rw [Int.natAbs_mul,sgn_abs,Nat.one_mul]; exact h
theorem Bt.numT {n:Nat} {t b:Int} (h:Bt n t):Bt n (L3.numT t b):=Bt.fdiv h.sgn
theorem Bt.numB {n:Nat} {t b:Int} (h:Bt n b):Bt n (L3.numB t b):=Bt.fdiv h.sgn
end L3

namespace L3
open PySem L2 PySem.Spec PyProof.Rows
section
variable {X:Cx} {e:Expr} {Fa F:FE} {x:Str} {p pos apos cpos:Pos}
noncomputable def bitsOf (i:Int):Int:=(Builtin.Int.intBits i:Int)
noncomputable def gBits:G1:=fun d => match d with | .int i => some (.int (bitsOf i)) | _ => none
theorem mt_bits:MtR X "int.bit_length" (fun x xs H Q => ∃ i,x = .int i∧xs = []∧Q (.int (bitsOf i)) H):=by
  intro pins s σ H x xs v us Q I rx rv ⟨i,e1,e2,q⟩
  subst e1 e2
  cases rv
  obtain ⟨t,rfl⟩:=rx
  exact call_int_bit_length ⟨.int _,H,I.tok _,⟨_,rfl⟩,q⟩
theorem de_bits (ha:DW X e Fa) (hbase:attributeBase e "bit_length" X.env (eval e X.env) = eval e X.env:=by rfl) (hline:(apos.endLine == cpos.line) = true:=by rfl):DE X (.Call (.Attribute e "bit_length" apos) [] [] cpos) (f1 gBits Fa):=⟨fun Z A => PE.imp (pe_bm0 PySem.F.plainAttrs_int slot_int_bit_length type_int_bit_length mt_bits (ha Z A) hbase hline) fun σ H Q x__134 => by
    obtain ⟨B,ow,δ,s,d,s',R,S,e,q⟩:=x__134
    unfold f1 at e
    first | refine bnd2 e fun dx s1 e1 e => ?_ | refine mpp2 e fun dx s1 e1 e => ?_
    cases dx <;> first | (cases e; done) | skip
    cases e
    refine ⟨B,ow,δ,s,_,_,R,S,e1,fun v H' x1 S1 r => ?_⟩
    cases r.int
    exact ⟨rfl,_,rfl,rfl,q _ H' x1 S1 (.int _)⟩⟩
theorem de_modI {i:Int} {t:Nat} (hm:X.mg x = some (.int i t)) (hg:Gl X x:=by rfl) (hdb:(x == ("__debug__":Str)) = false:=by decide):DE X (.Name x pos) (fC (.int i)) :=
  de_const (pe_glob (v:=.int i) hg hm ⟨t,rfl⟩ hdb) fun _ _ _ _ => .int i
end
end L3

namespace L3
open PySem L2 PySem.Spec PyProof.Rows
theorem dvd_of_cop {a b c:Int} (h:a ∣ b * c) (hc:Int.gcd a b = 1):a ∣ c:=by
  have h':a.natAbs ∣ b.natAbs * c.natAbs:=by rw [← Int.natAbs_mul]; exact Int.natAbs_dvd_natAbs.mpr h
  exact Int.natAbs_dvd_natAbs.mp (Nat.Coprime.dvd_of_dvd_mul_left hc h')
theorem num_unique {T B p q:Int} (hB:B ≠ 0) (hq:0 < q) (hc:Int.gcd p q = 1) (h:p * B = T * q):numT T B = p∧numB T B = q:=by
  obtain ⟨t',b',e1,e2,e3,e4,e5⟩:=num_parts (t:=T) hB
  have hg:=gcd_pos (t:=T) hB
  have hp:=numB_pos (t:=T) hB
  have hn:=num_gcd (t:=T) hB
  -- p * numB = numT * q
  have hx:p * numB T B = numT T B * q:=by
    rw [e3,e4]
    have hgz:(Int.gcd T B:Int) ≠ 0:=by lia
    have h1:(Int.gcd T B:Int) * (p * b') = (Int.gcd T B:Int) * (t' * q):=by
      have:p * ((Int.gcd T B:Int) * b') = ((Int.gcd T B:Int) * t') * q:=by rw [← e1,← e2]; exact h
      rw [Int.mul_left_comm,this,Int.mul_assoc]
    have h2:=Int.eq_of_mul_eq_mul_left hgz h1
    rw [Int.mul_left_comm,h2,Int.mul_assoc]
  have d1:numB T B ∣ q:=by
    have hd:numB T B ∣ numT T B * q:=⟨p,by rw [← hx,Int.mul_comm]⟩
    exact dvd_of_cop hd (by rw [Int.gcd_comm]; exact hn)
  have d2:q ∣ numB T B:=by
    have hd:q ∣ p * numB T B:=⟨numT T B,by rw [hx,Int.mul_comm]⟩
    exact dvd_of_cop hd (by rw [Int.gcd_comm]; exact hc)
  have eq:numB T B = q:=Int.dvd_antisymm (Int.le_of_lt hp) (Int.le_of_lt hq) d1 d2
  refine ⟨?_,eq⟩
  rw [eq] at hx
  exact (Int.eq_of_mul_eq_mul_right (by lia) hx).symm
theorem num_eq {T B p q:Int} (hB:B ≠ 0) (hq:0 < q) (hc:Int.gcd p q = 1) (h:p * B = T * q):num T B = .tuple [.int p,.int q]:=by
  obtain ⟨e1,e2⟩:=num_unique hB hq hc h
  unfold num; rw [e1,e2]
theorem num_cross {T B:Int} (hB:B ≠ 0):numT T B * B = T * numB T B:=by
  obtain ⟨t',b',e1,e2,e3,e4,e5⟩:=num_parts (t:=T) hB
  rw [e3,e4]
  generalize (Int.gcd T B:Int) = g at *
  subst e1 e2
  simp only [Int.mul_assoc,Int.mul_comm,Int.mul_left_comm]
theorem gcd1_mul {a b c:Int} (h1:Int.gcd a b = 1) (h2:Int.gcd a c = 1):Int.gcd a (b * c) = 1:=by
  unfold Int.gcd at *
  rw [Int.natAbs_mul]
  exact Nat.Coprime.mul_right h1 h2
theorem gcd1_mul_left {a b c:Int} (h1:Int.gcd a c = 1) (h2:Int.gcd b c = 1):Int.gcd (a * b) c = 1:=by
  rw [Int.gcd_comm]; exact gcd1_mul (by rw [Int.gcd_comm]; exact h1) (by rw [Int.gcd_comm]; exact h2)
theorem gcd1_dvd {a b a' b':Int} (h:Int.gcd a b = 1) (ha:a' ∣ a) (hb:b' ∣ b):Int.gcd a' b' = 1:=by
  unfold Int.gcd at *
  exact Nat.Coprime.coprime_dvd_left (Int.natAbs_dvd_natAbs.mpr ha) (Nat.Coprime.coprime_dvd_right (Int.natAbs_dvd_natAbs.mpr hb) h)
theorem numT_dvd {t b:Int} (hb:b ≠ 0):numT t b ∣ t:=by
  obtain ⟨t',b',e1,e2,e3,e4,e5⟩:=num_parts (t:=t) hb
  rw [e3]
  refine ⟨(Int.gcd t b:Int) * sgn b,?_⟩
  have:sgn b * sgn b = 1:=by unfold sgn; split <;> rfl
  calc t = (Int.gcd t b:Int) * t':=e1
    _ = (sgn b * sgn b) * ((Int.gcd t b:Int) * t'):=by rw [this,Int.one_mul]
    _ = sgn b * t' * ((Int.gcd t b:Int) * sgn b):=by simp only [Int.mul_assoc,Int.mul_comm,Int.mul_left_comm]
theorem numB_dvd {t b:Int} (hb:b ≠ 0):numB t b ∣ b:=by
  obtain ⟨t',b',e1,e2,e3,e4,e5⟩:=num_parts (t:=t) hb
  rw [e4]
  refine ⟨(Int.gcd t b:Int) * sgn b,?_⟩
  have:sgn b * sgn b = 1:=by unfold sgn; split <;> rfl
  calc b = (Int.gcd t b:Int) * b':=e2
    _ = (sgn b * sgn b) * ((Int.gcd t b:Int) * b'):=by rw [this,Int.one_mul]
    _ = sgn b * b' * ((Int.gcd t b:Int) * sgn b):=by simp only [Int.mul_assoc,Int.mul_comm,Int.mul_left_comm]
theorem sum_num {a b c d:Int} (hb:0 < b) (hd:0 < d) (h1:Int.gcd a b = 1) (h2:Int.gcd c d = 1) :
    numT (a * (d.fdiv (Int.gcd b d)) + c * (b.fdiv (Int.gcd b d))) (Int.gcd b d) = numT (a * d + c * b) (b * d) ∧
    b.fdiv (Int.gcd b d) * (d.fdiv (Int.gcd b d)) * numB (a * (d.fdiv (Int.gcd b d)) + c * (b.fdiv (Int.gcd b d))) (Int.gcd b d) = numB (a * d + c * b) (b * d):=by
  have hg:0 < (Int.gcd b d:Int):=gcd_pos (by lia)
  obtain ⟨b',e1⟩:=Int.gcd_dvd_left (a:=b) (b:=d)
  obtain ⟨d',e2⟩:=Int.gcd_dvd_right (a:=b) (b:=d)
  have f1:b.fdiv (Int.gcd b d) = b':=by
    conv => lhs; arg 1; rw [e1]
    exact Int.mul_fdiv_cancel_left _ (by lia)
  have f2:d.fdiv (Int.gcd b d) = d':=by
    conv => lhs; arg 1; rw [e2]
    exact Int.mul_fdiv_cancel_left _ (by lia)
  have cop:Int.gcd b' d' = 1:=by
    have h:=Int.gcd_mul_left (Int.gcd b d:Int) b' d'
    rw [← e1,← e2] at h
    have h3:((Int.gcd b d:Int)).natAbs = Int.gcd b d:=by lia
    rw [h3] at h
    have hgn:0 < Int.gcd b d:=by lia
    exact Nat.eq_of_mul_eq_mul_left hgn (by rw [Nat.mul_one]; exact h.symm)
  rw [f1,f2]
  generalize hgg:(Int.gcd b d:Int) = g at *
  have hbp:0 < b':=by
    rw [e1] at hb
    exact Int.pos_of_mul_pos_right hb hg
  have hdp:0 < d':=by
    rw [e2] at hd
    exact Int.pos_of_mul_pos_right hd hg
  have hgn:g ≠ 0:=by lia
  have nb:=numB_pos (t:=a * d' + c * b') hgn
  have nc:=num_gcd (t:=a * d' + c * b') hgn
  have nx:=num_cross (T:=a * d' + c * b') hgn
  have ab':Int.gcd a b' = 1:=gcd1_dvd h1 (Int.dvd_refl _) ⟨g,by rw [e1,Int.mul_comm]⟩
  have cd':Int.gcd c d' = 1:=gcd1_dvd h2 (Int.dvd_refl _) ⟨g,by rw [e2,Int.mul_comm]⟩
  have tb:Int.gcd (a * d' + c * b') b' = 1:=by
    rw [Int.gcd_add_mul_right_left]
    exact gcd1_mul_left ab' (by rw [Int.gcd_comm]; exact cop)
  have td:Int.gcd (a * d' + c * b') d' = 1:=by
    rw [Int.add_comm,Int.gcd_add_mul_right_left]
    exact gcd1_mul_left cd' cop
  have tdv:numT (a * d' + c * b') g ∣ a * d' + c * b':=numT_dvd hgn
  have res:=num_unique (T:=a * d + c * b) (B:=b * d) (p:=numT (a * d' + c * b') g) (q:=b' * d' * numB (a * d' + c * b') g)
    (Int.mul_ne_zero (by lia) (by lia)) (Int.mul_pos (Int.mul_pos hbp hdp) nb)
    (gcd1_mul (gcd1_mul (gcd1_dvd tb tdv (Int.dvd_refl _)) (gcd1_dvd td tdv (Int.dvd_refl _))) nc) (by
      have hT:a * d + c * b = g * (a * d' + c * b'):=by
        rw [e1,e2,Int.mul_add]
        simp only [Int.mul_assoc,Int.mul_comm,Int.mul_left_comm]
      have hB:b * d = g * (g * (b' * d')):=by
        rw [e1,e2]
        simp only [Int.mul_assoc,Int.mul_comm,Int.mul_left_comm]
      rw [hT,hB]
      generalize a * d' + c * b' = t at *
      calc numT t g * (g * (g * (b' * d'))) = (numT t g * g) * (g * (b' * d')):=by rw [Int.mul_assoc]
        _ = (t * numB t g) * (g * (b' * d')):=by rw [nx]
        _ = g * t * (b' * d' * numB t g):=by simp only [Int.mul_assoc,Int.mul_comm,Int.mul_left_comm])
  exact ⟨res.1.symm,res.2.symm⟩
theorem mul_num {a b c d:Int} (hb:0 < b) (hd:d ≠ 0) (h1:Int.gcd a b = 1) (h2:Int.gcd c d = 1) :
    numT a d * numT c b = numT (a * c) (b * d)∧numB a d * numB c b = numB (a * c) (b * d):=by
  have hb0:b ≠ 0:=by lia
  have p1:=numB_pos (t:=a) hd
  have p2:=numB_pos (t:=c) hb0
  have c1:=num_gcd (t:=a) hd
  have c2:=num_gcd (t:=c) hb0
  have x1:=num_cross (T:=a) hd
  have x2:=num_cross (T:=c) hb0
  have k1:Int.gcd (numT a d) (numB c b) = 1:=gcd1_dvd h1 (numT_dvd hd) (numB_dvd hb0)
  have k2:Int.gcd (numT c b) (numB a d) = 1:=gcd1_dvd h2 (numT_dvd hb0) (numB_dvd hd)
  have res:=num_unique (T:=a * c) (B:=b * d) (p:=numT a d * numT c b) (q:=numB a d * numB c b)
    (Int.mul_ne_zero hb0 hd) (Int.mul_pos p1 p2) (gcd1_mul_left (gcd1_mul c1 k1) (gcd1_mul k2 c2)) (by
      calc numT a d * numT c b * (b * d) = (numT a d * d) * (numT c b * b):=by simp only [Int.mul_assoc,Int.mul_comm,Int.mul_left_comm]
        _ = (a * numB a d) * (c * numB c b):=by rw [x1,x2]
        _ = a * c * (numB a d * numB c b):=by simp only [Int.mul_assoc,Int.mul_comm,Int.mul_left_comm])
  exact ⟨res.1.symm,res.2.symm⟩
theorem gEq_int (i j:Int):gEq (.int i) (.int j) = some (.bool (decide (i = j))):=by
  simp [gEq,SeqAt.shaped,PyData.canLay0,PyData.depth,PyData.eqv,Bool.beq_eq_decide_eq]
theorem gNe_int (i j:Int):gNe (.int i) (.int j) = some (.bool (!decide (i = j))):=by
  simp [gNe,SeqAt.shaped,PyData.canLay0,PyData.depth,PyData.eqv,Bool.beq_eq_decide_eq]
theorem gNe_bool (i j:Bool):gNe (.bool i) (.bool j) = some (.bool (!(i == j))):=by
  simp [gNe,SeqAt.shaped,PyData.canLay0,PyData.depth,PyData.eqv]
theorem small2 (a b:D):small [a,b] = true:=decide_eq_true (by show 2 ≤ sizeLine; decide)
theorem atI0 (a:D) (l:List D):L2.atI (a :: l) 0 = some a:=by
  simp [L2.atI,ixN]
theorem atI1 (a b:D) (l:List D):L2.atI (a :: b :: l) 1 = some b:=by
  have:(1:Int) < ((a :: b :: l).length:Int):=by simp only [List.length_cons]; lia
  unfold L2.atI ixN
  rw [if_pos (by decide),if_pos this]; rfl
theorem bt_lt {n:Nat} {i:Int} (h0:-(2 ^ n) < i) (h1:i < 2 ^ n):Bt n i:=by
  unfold Bt
  have:((2 ^ n:Nat):Int) = 2 ^ n:=by simp
  omega
theorem sSeq_next {G1 G2:GS} {δ δ':Sl} {s s':Sx} (h:G1 δ s = some (.next δ',s')):sSeq G1 G2 δ s = G2 δ' s':=by unfold sSeq; rw [h]
theorem sWhile_done {Ft:FT} {G:GS} {δ:Sl} {s s':Sx} (h:Ft δ s = some (false,s')):sWhile Ft G δ s = some (.next δ,s') :=
  whileN_mono (n:=1) (by unfold whileN; rw [h]; rfl) (by unfold fuel; lia)
theorem bits_le {n:Nat} {i:Int} (h:Bt n i):bitsOf i ≤ n:=by
  unfold bitsOf
  have:=PySem.intBits_le_iff.mpr h
  lia
noncomputable def Num (n:Nat) (d:D) (p q:Int):Prop:=d = .tuple [.int p,.int q]∧0 < q∧Int.gcd p q = 1∧Bt n p∧Bt n q
theorem Num.mono {n m:Nat} {d:D} {p q:Int} (h:Num n d p q) (hm:n ≤ m):Num m d p q:=⟨h.1,h.2.1,h.2.2.1,h.2.2.2.1.mono hm,h.2.2.2.2.mono hm⟩
theorem Num.num {n:Nat} {T B:Int} (hB:B ≠ 0) (h1:Bt n T) (h2:Bt n B):Num n (num T B) (numT T B) (numB T B):=⟨rfl,numB_pos hB,num_gcd hB,h1.numT,h2.numB⟩
end L3

namespace L3
open PySem L2 PySem.Spec PyProof.Rows

section
variable {K:PySem.W.Frag} {B:Hp} {Z:Zt} {A:List Addr} {ow:Ow} {σ:L2.St} {δ:Sl} {H H':Hp} {i:Nat} {p:Addr}
theorem RepS.setOwn {s:Sx} {vs:List V} {ds:List D} (R:RepS K B Z A ow σ δ H) (S:StateAt Z H s) (x:Ext Z H H') (hp:H p = none) (h:H' p = some (.lst vs)) (r:Reps K Z H' (p :: (A ++ ow.map (·.2))) vs ds) :
    RepS K B Z A ((i,p) :: ow.filter fun q => decide (q.1 ≠ i)) (σ.set i (some (.ref p))) (δ.set i (.own ds)) H'∧Frm Z ow H ((i,p) :: ow.filter fun q => decide (q.1 ≠ i)) H':=by
  have nz:NotZ Z p:=S.notZ hp
  have bp:B p = none:=by
    cases e:B p with
    | none => rfl
    | some o => rw [R.ext p o e nz] at hp; cases hp
  have pA:¬ p ∈ A:=fun m => by obtain ⟨⟨o,e⟩,_⟩:=R.ok p m; rw [hp] at e; cases e
  have pO:¬ p ∈ ow.map (·.2):=fun m => by
    obtain ⟨⟨j,q⟩,hq,rfl⟩:=List.mem_map.mp m
    obtain ⟨_,⟨o,e⟩,_⟩:=R.ows j q hq
    rw [hp] at e; cases e
  have F:Frm Z ow H ((i,p) :: ow.filter fun q => decide (q.1 ≠ i)) H':=fun b o e n m => ⟨x b o e n,fun z => by
    rcases List.mem_cons.mp z with z | z
    · rw [z] at e; simp only at e; rw [hp] at e; cases e
    · obtain ⟨q,hq,e2⟩:=List.mem_map.mp z
      exact m (List.mem_map.mpr ⟨q,(List.mem_filter.mp hq).1,e2⟩)⟩
  refine ⟨⟨fun q hq => ⟨let ⟨o,e⟩:=(R.ok q hq).1; ⟨o,x q o e (R.ok q hq).2⟩,(R.ok q hq).2⟩,R.ext.trans x,by rw [List.length_set,List.length_set]; exact R.len,fun j d' e => ?_,fun j xs e => ?_,fun j q hq => ?_,fun j k q h1 h2 => ?_⟩,F⟩
  · by_cases hj:i = j
    · subst hj
      have hi:i < δ.length:=by have:=(List.getElem?_eq_some_iff.mp e).1; rwa [List.length_set] at this
      rw [List.getElem?_set_self hi] at e; cases e
    · rw [List.getElem?_set_ne hj] at e
      obtain ⟨v',h1,h2⟩:=R.val j d' e
      exact ⟨v',by rw [List.getElem?_set_ne hj]; exact h1,h2.frm F⟩
  · by_cases hj:i = j
    · subst hj
      have hi:i < δ.length:=by have:=(List.getElem?_eq_some_iff.mp e).1; rwa [List.length_set] at this
      rw [List.getElem?_set_self hi] at e; cases e
      refine ⟨p,vs,List.mem_cons_self,List.getElem?_set_self (by rw [← R.len]; exact hi),h,r.sub fun q hq => ?_⟩
      rcases List.mem_append.mp hq with hq | hq
      · exact List.mem_cons_of_mem _ (List.mem_append_left _ hq)
      · rcases List.mem_cons.mp hq with hq | hq
        · rw [hq]; exact List.mem_cons_self
        · obtain ⟨q',hq',e2⟩:=List.mem_map.mp hq
          exact List.mem_cons_of_mem _ (List.mem_append_right _ (List.mem_map.mpr ⟨q',(List.mem_filter.mp hq').1,e2⟩))
    · rw [List.getElem?_set_ne hj] at e
      obtain ⟨q,ws,h1,h2,h3,h4⟩:=R.own j xs e
      exact ⟨q,ws,List.mem_cons_of_mem _ (List.mem_filter.mpr ⟨h1,decide_eq_true (Ne.symm hj)⟩),by rw [List.getElem?_set_ne hj]; exact h2,x q _ h3 (R.ows j q h1).2.2.1,h4.frm F⟩
  · rcases List.mem_cons.mp hq with hq | hq
    · cases hq; exact ⟨bp,⟨_,h⟩,nz,pA⟩
    · obtain ⟨a,⟨o,b⟩,c,d⟩:=R.ows j q (List.mem_filter.mp hq).1
      exact ⟨a,⟨o,x q _ b c⟩,c,d⟩
  · rcases List.mem_cons.mp h1 with h1 | h1 <;> rcases List.mem_cons.mp h2 with h2 | h2
    · cases h1; cases h2; rfl
    · cases h1; exact absurd (List.mem_map.mpr ⟨(k,p),(List.mem_filter.mp h2).1,rfl⟩) pO
    · cases h2; exact absurd (List.mem_map.mpr ⟨(j,p),(List.mem_filter.mp h1).1,rfl⟩) pO
    · exact R.inj j k q (List.mem_filter.mp h1).1 (List.mem_filter.mp h2).1
theorem RepS.change {vs:List V} {xs ds:List D} (R:RepS K B Z A ow σ δ H) (ho:δ[i]? = some (.own xs)) (hi:(i,p) ∈ ow) (hs:σ[i]? = some (some (.ref p))) (r:Reps K Z H (A ++ ow.map (·.2)) vs ds) :
    RepS K B Z A ow σ (δ.set i (.own ds)) (upd H p (.lst vs))∧Frm Z ow H ow (upd H p (.lst vs)):=by
  obtain ⟨bp,_,nz,pA⟩:=R.ows i p hi
  have F:Frm Z ow H ow (upd H p (.lst vs)):=fun b o e n m => ⟨by
    rw [upd_ne (fun z => m (by rw [z]; exact List.mem_map.mpr ⟨(i,p),hi,rfl⟩))]; exact e,m⟩
  refine ⟨⟨fun q hq => ⟨?_,(R.ok q hq).2⟩,fun b o e n => ?_,by rw [List.length_set]; exact R.len,fun j d' e => ?_,fun j ys e => ?_,fun j q hq => ?_,R.inj⟩,F⟩
  · obtain ⟨o,e⟩:=(R.ok q hq).1
    exact ⟨o,by rw [upd_ne (fun z => pA (by rw [← z]; exact hq))]; exact e⟩
  · have:b ≠ p:=fun z => by rw [z,bp] at e; cases e
    rw [upd_ne this]; exact R.ext b o e n
  · by_cases hj:i = j
    · subst hj
      rw [List.getElem?_set_self (List.getElem?_eq_some_iff.mp ho).1] at e; cases e
    · rw [List.getElem?_set_ne hj] at e
      obtain ⟨v',h1,h2⟩:=R.val j d' e
      exact ⟨v',h1,h2.frm F⟩
  · by_cases hj:i = j
    · subst hj
      rw [List.getElem?_set_self (List.getElem?_eq_some_iff.mp ho).1] at e; cases e
      exact ⟨p,vs,hi,hs,upd_same,r.frm F⟩
    · rw [List.getElem?_set_ne hj] at e
      obtain ⟨q,ws,h1,h2,h3,h4⟩:=R.own j ys e
      have:q ≠ p:=fun z => hj (R.inj i j p hi (z ▸ h1))
      exact ⟨q,ws,h1,h2,by rw [upd_ne this]; exact h3,h4.frm F⟩
  · obtain ⟨a,⟨o,b⟩,c,d⟩:=R.ows j q hq
    refine ⟨a,?_,c,d⟩
    by_cases z:q = p
    · rw [z]; exact ⟨_,upd_same⟩
    · exact ⟨o,by rw [upd_ne z]; exact b⟩
theorem StateAt.chg {s:Sx} {o:HO} (S:StateAt Z H s) (n:NotZ Z p):StateAt Z (L2.upd H p o) s:=fun a c e =>
  ⟨by rw [upd_ne (Ne.symm (n a c e).1)]; exact (S a c e).1,by rw [upd_ne (Ne.symm (n a c e).2)]; exact (S a c e).2⟩
theorem RepS.freeze {xs:List D} (R:RepS K B Z A ow σ δ H) (ho:δ[i]? = some (.own xs)) :
    ∃ ow',RepS K B Z A ow' σ (δ.set i (.val (.list xs))) H∧Frm Z ow H ow' H:=by
  obtain ⟨p,vs,h1,h2,h3,h4⟩:=R.own i xs ho
  have r:Rep K Z H (A ++ (ow.filter fun q => decide (q.1 ≠ i)).map (·.2)) (.ref p) (.list xs):=by
    refine .lst h3 (fun m => ?_) (R.ows i p h1).2.2.1 (h4.sub fun q hq => ?_)
    · rcases List.mem_append.mp m with m | m
      · exact (R.ows i p h1).2.2.2 m
      · obtain ⟨⟨j,q⟩,hq,e⟩:=List.mem_map.mp m
        have hq':=List.mem_filter.mp hq
        cases e
        exact of_decide_eq_true hq'.2 (R.inj j i q hq'.1 h1)
    · rcases List.mem_append.mp hq with m | m
      · exact List.mem_append_left _ m
      · obtain ⟨q',hq',e⟩:=List.mem_map.mp m
        exact List.mem_append_right _ (List.mem_map.mpr ⟨q',(List.mem_filter.mp hq').1,e⟩)
  have sub:∀ q ∈ A ++ (ow.filter fun p => decide (p.1 ≠ i)).map (·.2),q ∈ A ++ ow.map (·.2):=fun q hq => by
    rcases List.mem_append.mp hq with h | h
    · exact List.mem_append_left _ h
    · obtain ⟨p,hp,rfl⟩:=List.mem_map.mp h
      exact List.mem_append_right _ (List.mem_map_of_mem (List.mem_filter.mp hp).1)
  refine ⟨ow.filter fun q => decide (q.1 ≠ i),⟨R.ok,R.ext,by rw [List.length_set]; exact R.len,fun j d' e => ?_,fun j ys e => ?_,fun j q hq => R.ows j q (List.mem_filter.mp hq).1,fun j k q a b => R.inj j k q (List.mem_filter.mp a).1 (List.mem_filter.mp b).1⟩,fun b o h n m => ⟨h,fun z => m ?_⟩⟩
  · by_cases hj:i = j
    · subst hj
      rw [List.getElem?_set_self (List.getElem?_eq_some_iff.mp ho).1] at e; cases e
      exact ⟨_,h2,r⟩
    · rw [List.getElem?_set_ne hj] at e
      obtain ⟨v',a,b⟩:=R.val j d' e
      exact ⟨v',a,b.sub sub⟩
  · by_cases hj:i = j
    · subst hj
      rw [List.getElem?_set_self (List.getElem?_eq_some_iff.mp ho).1] at e; cases e
    · rw [List.getElem?_set_ne hj] at e
      obtain ⟨q,ws,a,b,c,d⟩:=R.own j ys e
      exact ⟨q,ws,List.mem_filter.mpr ⟨a,decide_eq_true (Ne.symm hj)⟩,b,c,d.sub sub⟩
  · obtain ⟨q,hq,e⟩:=List.mem_map.mp z
    exact List.mem_map.mpr ⟨q,(List.mem_filter.mp hq).1,e⟩
end

section
variable {X:Cx} {st:Stmt} {sts:List Stmt} {e e2 ie:Expr} {es:List Expr} {F Fa Fb Fi:FE} {Fo Fo2:FO} {FL:FA} {G:GS} {x:Str} {i j:Nat} {p pos px apos cpos tpos:Pos}
theorem df_lst (h:DA X es FL):DF X (.List es pos) (fun δ s => (FL δ s).bind fun p => if small p.1 = true then some (p.1,p.2) else none):=⟨fun Z A => PE.imp (pe_lst (h Z A)) fun σ H Q x__135 => by
  obtain ⟨B,ow,δ,s,d,s',R,S,e,q⟩:=x__135
  first | refine bnd1 e fun p e1 e => ?_ | refine mpp1 e fun p e1 e => ?_
  replace e:(if small p.1 = true then some (p.1,p.2) else none) = some (d,s'):=e
  split at e
  · rename_i hs
    cases e
    refine ⟨B,ow,δ,s,_,_,R,S,e1,fun vs H1 x1 S1 rs => ⟨?_,fun p hp => q p vs _ (x1.trans (Ext.upd hp)) (S1.upd hp) ?_ upd_same (rs.fresh hp)⟩⟩
    · rw [rs.length]; exact of_decide_eq_true hs
    · cases e9:H p with
      | none => rfl
      | some o => rw [x1 p o e9 (S1.notZ hp)] at hp; cases hp
  · cases e⟩
noncomputable def oLst (FL:FA):FO:=fun δ s => (FL δ s).bind fun p => if small p.1 = true then some (p.1,p.2) else none
theorem none_of_ext {Z:Zt} {H H1:Hp} {s:Sx} {p:Addr} (x1:Ext Z H H1) (S1:StateAt Z H1 s) (hp:H1 p = none):H p = none:=by
  cases e9:H p with
  | none => rfl
  | some o => rw [x1 p o e9 (S1.notZ hp)] at hp; cases hp
theorem df_lst' (h:DA X es FL):DF X (.List es pos) (oLst FL):=df_lst h
noncomputable def oList (Fa:FE):FO:=fun δ s => (Fa δ s).bind fun p => (seqOf p.1).map fun xs => (xs,p.2)
theorem df_list (hv:bootBuiltins x = some (.type "list")) (hm:X.mg x = none) (ha:DW X e Fa) (hg:Gl X x:=by rfl) (hn:x ≠ "__name__":=by decide) (hdb:(x == ("__debug__":Str)) = false:=by decide)
    (hs:starEach [e] X.env = (false,eval e X.env) :: starEach [] X.env:=by rfl):DF X (.Call (.Name x p) [e] [] pos) (oList Fa):=⟨fun Z A => PE.imp (pe_callTy call_list_of hg hm hv (pa_cons (ha Z A) pa_nil hs) hn hdb hs rfl) fun σ H Q x__136 => by
    obtain ⟨B,ow,δ,s,ds,s',R,S,e,q⟩:=x__136
    unfold oList at e
    first | refine bnd2 e fun d s1 e1 e => ?_ | refine mpp2 e fun d s1 e1 e => ?_
    replace e:((seqOf d).map fun xs => (xs,s1)) = some (ds,s'):=e
    refine ⟨B,ow,δ,s,d,s1,R,S,e1,fun v H1 x1 S1 r => ?_⟩
    cases d with
    | list xs =>
      cases e
      obtain ⟨p,vs,ev,sq,_,rs⟩:=r.list
      exact ⟨p,vs,by rw [ev],.inl sq,fun l hl => q l vs _ (x1.trans (Ext.upd hl)) (S1.upd hl) (none_of_ext x1 S1 hl) upd_same (rs.fresh hl)⟩
    | tuple xs =>
      cases e
      obtain ⟨p,vs,ev,sq,rs⟩:=r.tuple
      exact ⟨p,vs,by rw [ev],.inr sq,fun l hl => q l vs _ (x1.trans (Ext.upd hl)) (S1.upd hl) (none_of_ext x1 S1 hl) upd_same (rs.fresh hl)⟩
    | _ => cases e⟩
noncomputable def o2 (g:D→D→Option (List D)) (Fa Fb:FE):FO:=fun δ s => (Fa δ s).bind fun p => (Fb δ p.2).bind fun q => (g p.1 q.1).map fun d => (d,q.2)
theorem df_op {op:Operator} {r:R2} {g:D→D→Option (List D)} (ho:OpR X (binaryOp op) r) (ha:DW X e Fa) (hb:DW X e2 Fb)
    (hr:∀ (Z:Zt) (A:List Addr) (H:Hp) (x y:V) (dx dy:D) (ds:List D) (Q:VK),RepW X.K Z H A x dx→RepW X.K Z H A y dy→g dx dy = some ds→(∀ p vs,H p = none→Reps X.K Z H A vs ds→Q (.ref p) (upd H p (.lst vs)))→r x y H Q) :
    DF X (.BinOp e op e2 pos) (o2 g Fa Fb):=⟨fun Z A => PE.imp (pe_op ho (ha Z A) (hb Z A)) fun σ H Q x__137 => by
  obtain ⟨B,ow,δ,s,ds,s',R,S,e,q⟩:=x__137
  unfold o2 at e
  first | refine bnd2 e fun dx s1 e1 e => ?_ | refine mpp2 e fun dx s1 e1 e => ?_
  replace e:((Fb δ s1).bind fun q => (g dx q.1).map fun d => (d,q.2)) = some (ds,s'):=e
  first | refine bnd2 e fun dy s2 e2 e => ?_ | refine mpp2 e fun dy s2 e2 e => ?_
  replace e:((g dx dy).map fun d => (d,s2)) = some (ds,s'):=e
  cases e3:g dx dy with
  | none => rw [e3] at e; cases e
  | some d' =>
    rw [e3] at e
    cases e
    refine ⟨B,ow,δ,s,dx,s1,R,S,e1,fun v H1 x1 S1 r1 => ⟨B,ow,δ,s1,dy,s',R.mono x1,S1,e2,fun u H2 x2 S2 r2 => ?_⟩⟩
    exact hr Z _ H2 v u dx dy ds Q (r1.ext x2) r2 e3 fun p vs hp rs => q p vs _ ((x1.trans x2).trans (Ext.upd hp)) (S2.upd hp) (none_of_ext (x1.trans x2) S2 hp) upd_same (rs.fresh hp)⟩
noncomputable def lRep:D→D→Option (List D):=fun a b => match a,b with
  | .list xs,.int k => if (decide (-(2 ^ 63) ≤ k) && decide (k < 2 ^ 63) && decide (xs.length * k.toNat ≤ sizeLine)) = true then some (List.replicate k.toNat xs).flatten else none
  | _,_ => none
theorem df_rep (ha:DW X e Fa) (hb:DW X e2 Fb):DF X (.BinOp e .Mult e2 pos) (o2 lRep Fa Fb):=df_op op_rep ha hb fun Z A H x y dx dy ds Q rx ry e q => by
  unfold lRep at e
  split at e
  · split at e
    · rename_i hs
      cases e
      simp only [Bool.and_eq_true,decide_eq_true_eq] at hs
      obtain ⟨p1,v1,rfl,h1,_,r1⟩:=rx.lst
      have ey:=ry.int
      exact ⟨p1,_,v1,rfl,ey,h1,hs.1.1,hs.1.2,by rw [r1.length]; exact hs.2,fun p hp => q p _ hp (r1.rep _)⟩
    · cases e
  · cases e
noncomputable def cutD (xs:List D) (lo hi:Option Int):List D:=(xs.drop (HT.sIx xs.length 0 lo)).take (HT.sIx xs.length xs.length hi - HT.sIx xs.length 0 lo)
theorem Reps.cut {K:PySem.W.Frag} {Z:Zt} {H:Hp} {A:List Addr} {vs:List V} {ds:List D} {lo hi:Option Int} (r:Reps K Z H A vs ds):Reps K Z H A (cutV vs lo hi) (cutD ds lo hi):=by
  unfold cutV cutD
  rw [r.length]
  exact (r.drop _).take _
noncomputable abbrev FP:=Sl→Sx→Option (Option Int × Sx)
noncomputable def pNo:FP:=fun _ s => some (none,s)
noncomputable def pInt (F:FE):FP:=fun δ s => (F δ s).bind fun p => match p.1 with | .int i => some (some i,p.2) | _ => none
inductive tDPK (K:PySem.W.Frag) (Z:Zt) (A:List Addr) (F:FP) (σ:L2.St) (H:Hp) (Q:Option Int→Hp→Prop):Prop
  | mk (B:Hp) (ow:Ow) (δ:Sl) (s:Sx) (o:Option Int) (s':Sx) (h0:RepS K B Z A ow σ δ H) (h1:StateAt Z H s) (h2:F δ s = some (o,s')) (h3:∀ H',Ext Z H H'→StateAt Z H' s'→Q o H')
noncomputable abbrev tDP (X:Cx) (Z:Zt) (A:List Addr) (F:FP):TO:=tDPK X.K Z A F
structure DP (X:Cx) (e:Option Expr) (F:FP):Prop where
  go:∀ Z A,PO X e (tDP X Z A F)
instance {X:Cx} {e:Option Expr} {F:FP}:CoeFun (DP X e F) (fun _ => ∀ Z A,PO X e (tDP X Z A F)):=⟨fun h => h.go⟩
theorem PO.imp {e:Option Expr} {t t':TO} (h:PO X e t) (hi:∀ σ H Q,t' σ H Q→t σ H Q):PO X e t':=fun pins s σ H Q I q => h pins s σ H Q I (hi σ H Q q)
theorem dp_no:DP X none pNo:=⟨fun Z A => PO.imp po_none fun σ H Q x__138 => by
  obtain ⟨B,ow,δ,s,o,s',R,S,e,q⟩:=x__138
  cases e; exact q H (Ext.refl H) S⟩
theorem dp_int (h:DW X e F):DP X (some e) (pInt F):=⟨fun Z A => PO.imp (po_some (h Z A)) fun σ H Q x__139 => by
  obtain ⟨B,ow,δ,s,o,s',R,S,e,q⟩:=x__139
  unfold pInt at e
  first | refine bnd2 e fun d s1 e1 e => ?_ | refine mpp2 e fun d s1 e1 e => ?_
  cases d with
  | int k =>
    cases e
    exact ⟨B,ow,δ,s,_,_,R,S,e1,fun v H1 x1 S1 r => ⟨k,r.int,q H1 x1 S1⟩⟩
  | _ => cases e⟩
noncomputable def sSetO (i:Nat) (Fo:FO):GS:=fun δ s => (Fo δ s).map fun p => (.next (δ.set i (.own p.1)),p.2)
theorem ds_setO {pos':Pos} (hN:X.N.Nodup) (he:DF X e Fo) (hi:X.N[i]? = some x:=by rfl) (hx:Loc X.env.scope x:=by first | exact Or.inl rfl | exact Or.inr rfl) (hs:swapsWith e (some (.Name x pos')) pos.line X.env = pure false:=by rfl)
    (hf:X.fn x = true ∨ X.env.scope.names.lookup x = some .local:=by first | exact .inl rfl | exact .inr rfl | assumption):DS X (.Assign [.Name x pos'] e pos) (sSetO i Fo):=⟨fun Z A => PS.imp (ps_set hN hi hx (he Z A) hs hf) fun E σ H x__140 => by
  obtain ⟨ow,δ,s,o,s',R,S,e,q⟩:=x__140
  unfold sSetO at e
  first | refine bnd1 e fun p e1 e => ?_ | refine mpp1 e fun p e1 e => ?_
  cases e
  refine ⟨_,ow,δ,s,_,_,R,S,e1,fun p vs H' x1 S1 n h r => ?_⟩
  obtain ⟨R',f⟩:=R.setOwn (i:=i) S x1 n h r
  exact q _ _ H' R' S1 f⟩
noncomputable def sFrz (i:Nat):GS:=fun δ s => match δ[i]? with | some (.own xs) => some (.next (δ.set i (.val (.list xs))),s) | _ => some (.next δ,s)
theorem ds_frz (i:Nat) (h:DS X st G):DS X st (sSeq (sFrz i) G):=⟨fun Z A => PS.imp (h Z A) fun E σ H x__141 => by
  obtain ⟨ow,δ,s,o,s',R,S,e,q⟩:=x__141
  unfold sSeq sFrz at e
  cases e1:δ[i]? with
  | none => rw [e1] at e; exact ⟨ow,δ,s,o,s',R,S,e,q⟩
  | some c =>
    rw [e1] at e
    cases c with
    | own xs =>
      obtain ⟨ow',R',f⟩:=R.freeze e1
      exact ⟨ow',_,s,o,s',R',S,e,q.frm f⟩
    | non => exact ⟨ow,δ,s,o,s',R,S,e,q⟩
    | val d => exact ⟨ow,δ,s,o,s',R,S,e,q⟩⟩
noncomputable def sApp (i:Nat) (F:FE):GS:=fun δ s => (F δ s).bind fun q => match δ[i]? with | some (.own xs) => if decide (xs.length < sizeLine) = true then some (.next (δ.set i (.own (xs ++ [q.1]))),q.2) else none | _ => none
theorem ds_app (hv:PE X (.Name x px) (tVar i)) (he:DE X e F) (hbase:attributeBase (.Name x px) "append" X.env (eval (.Name x px) X.env) = eval (.Name x px) X.env:=by rfl)
    (hfew:((backTo cpos (starEach [e] X.env)).all (fun x => !x.1) && (backToKw cpos (keywordEach [] X.env)).all (fun x => x.1.isSome) && decide ([e].length + ([]:List Keyword).length + (if ([]:List Keyword).isEmpty then 0 else 1) < 30)) = true:=by rfl)
    (hline:(apos.endLine == cpos.line) = true:=by rfl) (hs:starEach [e] X.env = (false,eval e X.env) :: starEach [] X.env:=by rfl)
    (hsw:swapsWith (.Call (.Attribute (.Name x px) "append" apos) [e] [] cpos) none pos.line X.env = pure false:=by rfl):DS X (.Expr (.Call (.Attribute (.Name x px) "append" apos) [e] [] cpos) pos) (sApp i F):=⟨fun Z A => PS.imp (ps_expr (pe_bm PySem.F.plainAttrs_list PySem.F.slot_list_append PySem.F.type_list_append mt_append hv (pa_cons (he Z A) pa_nil hs) hbase hfew hline hs rfl) hsw) fun E σ H x__142 => by
    obtain ⟨ow,δ,s,o,s',R,S,e,q⟩:=x__142
    unfold sApp at e
    first | refine bnd2 e fun d s1 e1 e => ?_ | refine mpp2 e fun d s1 e1 e => ?_
    try simp only [Option.bind_some] at e
    split at e
    · rename_i xs ho
      split at e
      · rename_i hl
        cases e
        obtain ⟨a,vs,h1,h2,h3,h4⟩:=R.own i xs ho
        refine ⟨_,h2,.inl ⟨rfl,_,SqL.of h3⟩,⟨_,ow,δ,s,d,_,R,S,e1,fun v H1 x1 S1 r => ?_⟩⟩
        have h3':=x1 _ _ h3 (R.ows i a h1).2.2.1
        refine ⟨a,vs,v,rfl,rfl,h3',by rw [h4.length]; exact of_decide_eq_true hl,?_⟩
        obtain ⟨R',f⟩:=(R.mono x1).change ho h1 h2 ((h4.ext x1).append (.cons r .nil))
        exact q _ _ _ R' (S1.chg (R.ows i a h1).2.2.1) ((Frm.ext x1).trans f)
      · cases e
    · cases e⟩
noncomputable def sPop (i:Nat):GS:=fun δ s => match δ[i]? with | some (.own xs) => if xs.isEmpty = true then none else some (.next (δ.set i (.own xs.dropLast)),s) | _ => none
theorem pop_read {Z:Zt} {A:List Addr} {ow:Ow} {σ:L2.St} {δ:Sl} {B H:Hp} {s:Sx} {xs:List D} {Q:VK} (R:RepS X.K B Z A ow σ δ H) (S:StateAt Z H s) (ho:δ[i]? = some (.own xs)) (hne:¬ xs.isEmpty = true)
    (q:∀ v d H',xs.getLast? = some d→Rep X.K Z H' (A ++ ow.map (·.2)) v d→RepS X.K B Z A ow σ (δ.set i (.own xs.dropLast)) H'→StateAt Z H' s→Frm Z ow H ow H'→Q v H'):tBM0 X.K "list" rPop (tVar i) σ H Q:=by
  obtain ⟨a,vs,h1,h2,h3,h4⟩:=R.own i xs ho
  refine ⟨_,h2,.inl ⟨rfl,_,SqL.of h3⟩,?_⟩
  have hlen:=h4.length
  have hx:xs.length ≠ 0:=fun z => hne (by simpa using z)
  obtain ⟨d,hd⟩:∃ d,xs[xs.length - 1]? = some d:=⟨_,List.getElem?_eq_getElem (by lia)⟩
  obtain ⟨v,hv,rv⟩:=h4.get hd
  obtain ⟨R',f⟩:=R.change ho h1 h2 h4.dropLast
  exact ⟨a,vs,v,rfl,rfl,h3,by rw [hlen]; exact hv,q v d _ (by rw [List.getLast?_eq_getElem?]; exact hd) (rv.frm f) R' (S.chg (R.ows i a h1).2.2.1) f⟩
theorem ds_pop (hv:PE X (.Name x px) (tVar i)) (hbase:attributeBase (.Name x px) "pop" X.env (eval (.Name x px) X.env) = eval (.Name x px) X.env:=by rfl) (hline:(apos.endLine == cpos.line) = true:=by rfl)
    (hsw:swapsWith (.Call (.Attribute (.Name x px) "pop" apos) [] [] cpos) none pos.line X.env = pure false:=by rfl):DS X (.Expr (.Call (.Attribute (.Name x px) "pop" apos) [] [] cpos) pos) (sPop i):=⟨fun Z A => PS.imp (ps_expr (pe_bm0 PySem.F.plainAttrs_list PySem.F.slot_list_pop PySem.F.type_list_pop mt_pop hv hbase hline) hsw) fun E σ H x__143 => by
    obtain ⟨ow,δ,s,o,s',R,S,e,q⟩:=x__143
    unfold sPop at e
    split at e
    · rename_i xs ho
      split at e
      · cases e
      · rename_i hne
        cases e
        exact pop_read R S ho hne fun v d H' _ _ R' S' f => q _ _ _ R' S' f
    · cases e⟩
noncomputable def putAt (xs:List D) (d v:D):Option (List D):=match d with | .int k => (ixN xs.length k).map fun j => xs.set j v | _ => none
noncomputable def sPut (i:Nat) (Fi F:FE):GS:=fun δ s => (F δ s).bind fun v => (Fi δ v.2).bind fun d => match δ[i]? with | some (.own xs) => (putAt xs d.1 v.1).map fun ys => (.next (δ.set i (.own ys)),d.2) | _ => none
theorem ds_put (hv:PE X (.Name x px) (tVar i)) (hi:DW X ie Fi) (he:DE X e F)
    (ha:∀ v,assign (.Subscript (.Name x px) ie tpos) X.env v = (do
      let ov ← holding [v] (eval (.Name x px) X.env)
      let iv ← holding [v,ov] (eval ie X.env)
      standAt tpos
      holding [v,ov,iv] (setItem ov iv v)
      release [v,ov,iv] []):=by intros; rfl)
    (hs:swapsWithSole [.Subscript (.Name x px) ie tpos] e pos.line X.env = pure false:=by rfl) (hw:swappedStores [.Subscript (.Name x px) ie tpos] e X.env = pure none:=by rfl)
    (h1:(assignEach [.Subscript (.Name x px) ie tpos] X.env).map (·.2) = [assign (.Subscript (.Name x px) ie tpos) X.env]:=by rfl):DS X (.Assign [.Subscript (.Name x px) ie tpos] e pos) (sPut i Fi F):=⟨fun Z A => PS.imp (ps_asg (he Z A) (pg_sub hv (hi Z A) set_list ha) hs hw h1) fun E σ H x__144 => by
    obtain ⟨ow,δ,s,o,s',R,S,e,q⟩:=x__144
    unfold sPut at e
    first | refine bnd2 e fun d s1 e1 e => ?_ | refine mpp2 e fun d s1 e1 e => ?_
    try simp only [Option.bind_some] at e
    first | refine bnd2 e fun k s2 e2 e => ?_ | refine mpp2 e fun k s2 e2 e => ?_
    try simp only [Option.bind_some] at e
    split at e
    · rename_i xs ho
      first | refine bnd1 e fun ys e3 e => ?_ | refine mpp1 e fun ys e3 e => ?_
      cases e
      obtain ⟨a,vs,h1,h2,h3,h4⟩:=R.own i xs ho
      have nz:=(R.ows i a h1).2.2.1
      refine ⟨_,ow,δ,s,d,s1,R,S,e1,fun v H1 x1 S1 r => ⟨_,h2,⟨_,ow,δ,s1,k,_,R.mono x1,S1,e2,fun u H2 x2 S2 r2 => ?_⟩⟩⟩
      unfold putAt at e3
      split at e3
      · rename_i kk
        cases e4:ixN xs.length kk with
        | none => rw [e4] at e3; cases e3
        | some j =>
          rw [e4] at e3
          cases e3
          have eu:=r2.int
          obtain ⟨R',f⟩:=((R.mono x1).mono x2).change ho h1 h2 (((h4.ext x1).ext x2).set (r.ext x2) j)
          exact ⟨a,vs,kk,j,rfl,eu,x2 _ _ (x1 _ _ h3 nz) nz,by rw [h4.length]; exact e4,q _ _ _ R' (S2.chg nz) ((Frm.ext (x1.trans x2)).trans f)⟩
      · cases e3
    · cases e⟩
end
end L3

namespace HT
open PySem PySem.Spec PyProof.Rows L2
section
variable {prog:Program} {w:World} {A:Around} {E:Value→Shared→Prop} {s:Shared}
end
end HT

namespace L3
open PySem L2 PySem.Spec PyProof.Rows
section
variable {X:Cx} {e e2 e3 ie:Expr} {F Fa Fb Fc Fi:FE} {Fo:FO} {x:Str} {i j:Nat} {p pos px apos cpos tpos:Pos}
noncomputable def gSlL (d:D) (lo hi:Option Int):Option D:=match d with | .list xs => some (.list (cutD xs lo hi)) | _ => none
theorem gSlL_inv {d r:D} {lo hi:Option Int} (h:gSlL d lo hi = some r):∃ xs,d = .list xs∧r = .list (cutD xs lo hi):=by
  unfold gSlL at h
  split at h
  · exact ⟨_,rfl,(Option.some.inj h).symm⟩
  · cases h
noncomputable def fSlL (Fa:FE) (Fl Fh:FP):FE:=fun δ s => (Fa δ s).bind fun p => (Fl δ p.2).bind fun l => (Fh δ l.2).bind fun h => (gSlL p.1 l.1 h.1).map fun d => (d,h.2)
theorem de_sliceL {lo hi:Option Expr} {Fl Fh:FP} (ha:DE X e Fa) (hl:DP X lo Fl) (hh:DP X hi Fh):DE X (.Subscript e (.Slice lo hi none p) pos) (fSlL Fa Fl Fh):=⟨fun Z A => PE.imp (pe_slice sl_list (ha Z A) (hl Z A) (hh Z A)) fun σ H Q x__145 => by
  obtain ⟨B,ow,δ,s,d,s',R,S,ee,q⟩:=x__145
  unfold fSlL at ee
  first | refine bnd2 ee fun dx s1 e1 ee => ?_ | refine mpp2 ee fun dx s1 e1 ee => ?_
  replace ee:((Fl δ s1).bind fun l => (Fh δ l.2).bind fun h => (gSlL dx l.1 h.1).map fun d => (d,h.2)) = some (d,s'):=ee
  first | refine bnd2 ee fun l s2 e2 ee => ?_ | refine mpp2 ee fun l s2 e2 ee => ?_
  replace ee:((Fh δ s2).bind fun h => (gSlL dx l h.1).map fun d => (d,h.2)) = some (d,s'):=ee
  first | refine bnd2 ee fun h s3 e3 ee => ?_ | refine mpp2 ee fun h s3 e3 ee => ?_
  replace ee:((gSlL dx l h).map fun d => (d,s3)) = some (d,s'):=ee
  cases e4:gSlL dx l h with
  | none => rw [e4] at ee; cases ee
  | some d' =>
    rw [e4] at ee
    cases ee
    obtain ⟨xs,rfl,rfl⟩:=gSlL_inv e4
    refine ⟨B,ow,δ,s,_,s1,R,S,e1,fun v H1 x1 S1 r1 => ⟨B,ow,δ,s1,l,s2,R.mono x1,S1,e2,fun H2 x2 S2 => ⟨B,ow,δ,s2,h,s',(R.mono x1).mono x2,S2,e3,fun H3 x3 S3 => ?_⟩⟩⟩
    have x13:=(x1.trans x2).trans x3
    cases (r1.ext x2).ext x3 with
    | lst hh n z rs => exact ⟨_,_,rfl,.of hh,fun q' hq => q _ _ (x13.trans (Ext.upd hq)) (S3.upd hq) (.lst upd_same (fresh_not (R.mono x13).all hq) (S3.notZ hq) (rs.cut.ext (Ext.upd hq)))⟩⟩
noncomputable def gMulA:G2:=fun a b => (gMulI a b).or ((lRep a b).map PyData.list)
theorem drep:DOp X (binaryOp .Mult) (fun a b => (lRep a b).map PyData.list):=DOp.of op_rep fun Z A H st x y dx dy d Q S hA rx ry e q => by
  replace e:(lRep dx dy).map PyData.list = some d:=e
  first | refine bnd1 e fun ds e1 e => ?_ | refine mpp1 e fun ds e1 e => ?_
  cases e
  unfold lRep at e1
  split at e1
  · split at e1
    · rename_i hs
      cases e1
      simp only [Bool.and_eq_true,decide_eq_true_eq] at hs
      obtain ⟨p1,v1,rfl,h1,_,r1⟩:=rx.lst
      have ey:=ry.int
      exact ⟨p1,_,v1,rfl,ey,h1,hs.1.1,hs.1.2,by rw [r1.length]; exact hs.2,fun p hp => q _ _ (Ext.upd hp) (S.upd hp) (.lst upd_same (fresh_not hA hp) (S.notZ hp) ((r1.rep _).ext (Ext.upd hp)))⟩
    · cases e1
  · cases e1
theorem dmula:DOp X (binaryOp .Mult) gMulA:=DOp.or dmul_int drep
theorem isub_d:DOp X (inplaceOp .Sub) gSubI:=dop_int (rI0_of iop_sub) (fun _ _ _ => trivial) fun i j _ _ _ _ => .int _
noncomputable def sAug (i:Nat) (g:G2) (F:FE):GS:=fun δ s => match δ[i]? with | some (.val d) => (F δ s).bind fun q => (g d q.1).map fun r => (.next (δ.set i (.val r)),q.2) | _ => none
theorem ds_aug {op:Operator} {g:G2} {pos':Pos} (hN:X.N.Nodup) (ho:DOp X (inplaceOp op) g) (he:DE X e F) (hi:X.N[i]? = some x:=by rfl) (hx:Loc X.env.scope x:=by first | exact Or.inl rfl | exact Or.inr rfl)
    (hf:X.fn x = true ∨ X.env.scope.names.lookup x = some .local:=by first | exact .inl rfl | exact .inr rfl | assumption):DS X (.AugAssign (.Name x pos') op e pos) (sAug i g F):=⟨fun Z A pins s σ H E I x__146 => by
  obtain ⟨ow,δ,st,o,st',R,S,ee,q⟩:=x__146
  unfold sAug at ee
  split at ee
  · rename_i d hd
    first | refine bnd2 ee fun dy s1 e1 ee => ?_ | refine mpp2 ee fun dy s1 e1 ee => ?_
    replace ee:((g d dy).map fun r => (Out.next (δ.set i (.val r)),s1)) = some (o,st'):=ee
    first | refine bnd1 ee fun r e2 ee => ?_ | refine mpp1 ee fun r e2 ee => ?_
    cases ee
    obtain ⟨v,h1,h2⟩:=R.val i d hd
    let T:TIp:=fun x y H1 Q => x = v∧∃ H0,Ext Z H H1∧H0 = H1∧StateAt Z H1 st'∧Rep X.K Z H1 (A ++ ow.map (·.2)) y dy∧∀ v' H',Ext Z H1 H'→StateAt Z H' st'→Rep X.K Z H' (A ++ ow.map (·.2)) v' r→Q v' H'
    have hT:PIp X op T:=fun pins s σ H1 x y u w Q I1 rx ry x__147 => by
      obtain ⟨ex,H0,x1,_,S1,r1,q1⟩:=x__147
      subst ex
      exact ho Z (A ++ ow.map (·.2)) pins s σ H1 st' _ y u w d dy r Q I1 S1 (R.mono x1).all (h2.ext x1).w r1.w rx ry e2 q1
    refine ps_aug (ti:=T) hN hi hx (he Z A) hT hf pins s σ H E I ⟨v,h1,_,ow,δ,st,dy,_,R,S,e1,fun y H1 x1 S1 r1 => ⟨rfl,H1,x1,rfl,S1,r1,fun v' H' x2 S2 r2 => ?_⟩⟩
    obtain ⟨R',f⟩:=(R.mono (x1.trans x2)).set (i:=i) r2
    exact q _ _ H' R' S2 ((Frm.ext (x1.trans x2)).trans f)
  · cases ee⟩
end
end L3

namespace L3
open PySem L2 PySem.Spec PyProof.Rows
noncomputable def clOf (cells:List (Str × Addr)):List (Str × NameKind)→List (Str × Addr)→List (Str × Addr)
  | [],cs => cs
  | y :: r,cs => clOf cells r (if y.2 == NameKind.free then (y.1,(cells.lookup y.1).getD 0) :: cs else cs)
theorem closureFor_cl {env:Env} {scope:Scope} (h:∀ y ∈ scope.names,y.2 = .free→∃ c,env.cells.lookup y.1 = some c):closureFor scope env = pure (clOf env.cells scope.names []):=by
  unfold closureFor
  generalize scope.names = names at h
  have key:∀ (names:List (Str × NameKind)) (cs:List (Str × Addr)),(∀ y ∈ names,y.2 = .free→∃ c,env.cells.lookup y.1 = some c) →
      (forIn names cs fun (x:Str × NameKind) (r:List (Str × Addr)) => (if (x.2 == NameKind.free) = true then do let a ← cellOf env x.1; pure (ForInStep.yield ((x.1,a) :: r)) else pure (ForInStep.yield r):Sem _)) = pure (clOf env.cells names cs):=by
    intro names
    induction names with
    | nil => intro cs _; rfl
    | cons y r ih =>
      intro cs hy
      rw [List.forIn_cons]
      obtain ⟨n,k⟩:=y
      by_cases hk:k = .free
      · subst hk
        obtain ⟨c,hc⟩:=hy (n,.free) List.mem_cons_self rfl
        have e:cellOf env n = pure c:=by unfold cellOf; simp only at hc; rw [hc]
        simp only [beq_self_eq_true,if_true,e,pure_bind]
        rw [ih _ fun y hm => hy y (List.mem_cons_of_mem _ hm)]
        simp only at hc
        simp [clOf,hc]
      · have hb:(k == NameKind.free) = false:=by simpa using hk
        simp only [hb,Bool.false_eq_true,if_false,pure_bind]
        rw [ih _ fun y hm => hy y (List.mem_cons_of_mem _ hm)]
        simp [clOf,hb]
  have:=key names [] h
  simpa using this
theorem clOf_mem {cells:List (Str × Addr)}:∀ {names:List (Str × NameKind)} {cs:List (Str × Addr)} {n:Str} {c:Addr},(n,c) ∈ clOf cells names cs→(n,c) ∈ cs ∨ ((n,NameKind.free) ∈ names∧c = (cells.lookup n).getD 0)
  | [],_,_,_,h => .inl h
  | y :: r,cs,n,c,h => by
    unfold clOf at h
    rcases clOf_mem h with h1 | ⟨h1,h2⟩
    · split at h1
      · rename_i hk
        rcases List.mem_cons.mp h1 with e | h1
        · obtain ⟨y1,y2⟩:=y
          cases e
          have:y2 = .free:=by simpa using hk
          subst this
          exact .inr ⟨List.mem_cons_self,rfl⟩
        · exact .inl h1
      · exact .inl h1
    · exact .inr ⟨List.mem_cons_of_mem _ h1,h2⟩
theorem clOf_keep {cells:List (Str × Addr)}:∀ {names:List (Str × NameKind)} {cs:List (Str × Addr)} {q:Str × Addr},q ∈ cs→q ∈ clOf cells names cs
  | [],_,_,h => h
  | y :: r,cs,q,h => by
    unfold clOf
    refine clOf_keep ?_
    split
    · exact List.mem_cons_of_mem _ h
    · exact h
theorem clOf_has {cells:List (Str × Addr)}:∀ {names:List (Str × NameKind)} {cs:List (Str × Addr)} {n:Str},(n,NameKind.free) ∈ names→∃ c,(n,c) ∈ clOf cells names cs
  | [],_,_,h => nomatch h
  | y :: r,cs,n,h => by
    rcases List.mem_cons.mp h with e | h
    · subst e
      unfold clOf
      exact ⟨(cells.lookup n).getD 0,clOf_keep (by simp)⟩
    · unfold clOf
      exact clOf_has h
theorem lookup_mem {α:Type}:∀ {l:List (Str × α)} {x:Str} {c:α},l.lookup x = some c→(x,c) ∈ l
  | [],_,_,h => nomatch h
  | (y,d) :: r,x,c,h => by
    rw [List.lookup_cons] at h
    split at h
    · rename_i e
      cases h
      rw [eq_of_beq e]; exact List.mem_cons_self
    · exact List.mem_cons_of_mem _ (lookup_mem h)
theorem lookup_some_of_mem {α:Type}:∀ {l:List (Str × α)} {x:Str} {c:α},(x,c) ∈ l→∃ d,l.lookup x = some d
  | [],_,_,h => nomatch h
  | (y,d) :: r,x,c,h => by
    rw [List.lookup_cons]
    split
    · exact ⟨_,rfl⟩
    · rename_i e
      rcases List.mem_cons.mp h with z | z
      · cases z; simp at e
      · exact lookup_some_of_mem z
noncomputable def compChk (sc:Scope) (N0:List Str) (scope:Scope) (N:List Str) (k:Nat) (fr:List Nat):Bool :=
  decide (scope.kind = .function) && decide (sc.kind = .function) && scope.names.all (fun y => decide (y.2 ≠ .cell)) && scope.names.all (fun y => !decide (y.2 = .local) || decide (scope.names.lookup y.1 = some .local)) &&
  scope.names.all (fun y => !decide (y.2 = .free) || decide (sc.names.lookup y.1 = some .cell)) && decide (N.length = k + fr.length) &&
  (List.range fr.length).all fun t => match fr[t]?,N[k + t]? with | some j,some x => decide (N0[j]? = some x) && decide (scope.names.lookup x = some .free) | _,_ => false
theorem relabel_lookup {scope:Scope} {env:Env}:∀ {names:List (Str × NameKind)} {x:Str} {k:NameKind},(∀ y ∈ names,y.2 = .free→env.scope.kind = .function∧env.scope.names.lookup y.1 = some .cell)→names.lookup x = some k →
    (names.map fun (n,k) => if (k == .free && env.scope.kind == .function && env.kindOf n == some .cell) then (n,NameKind.cell) else (n,k)).lookup x = some (if k = .free then .cell else k)
  | [],_,_,_,h => nomatch h
  | (n,k') :: r,x,k,hf,h => by
    rw [List.lookup_cons] at h
    rw [List.map_cons]
    by_cases hk:k' = .free
    · subst hk
      obtain ⟨h1,h2⟩:=hf (n,.free) List.mem_cons_self rfl
      have e:(NameKind.free == NameKind.free && env.scope.kind == .function && env.kindOf n == some .cell) = true:=by
        simp only [beq_self_eq_true,Bool.true_and,Bool.and_eq_true,beq_iff_eq]
        exact ⟨h1,h2⟩
      simp only [e,if_true]
      rw [List.lookup_cons]
      cases ex:x == n with
      | true => rw [ex] at h; cases h; rfl
      | false => rw [ex] at h; exact relabel_lookup (scope:=scope) (fun y hy => hf y (List.mem_cons_of_mem _ hy)) h
    · have e:(k' == NameKind.free && env.scope.kind == .function && env.kindOf n == some .cell) = false:=by simp [hk]
      simp only [e,Bool.false_eq_true,if_false]
      rw [List.lookup_cons]
      cases ex:x == n with
      | true => rw [ex] at h; cases h; simp [hk]
      | false => rw [ex] at h; exact relabel_lookup (scope:=scope) (fun y hy => hf y (List.mem_cons_of_mem _ hy)) h
theorem relabel_none {env:Env}:∀ {names:List (Str × NameKind)} {x:Str},names.lookup x = none →
    (names.map fun (n,k) => if (k == .free && env.scope.kind == .function && env.kindOf n == some .cell) then (n,NameKind.cell) else (n,k)).lookup x = none
  | [],_,_ => rfl
  | (n,k') :: r,x,h => by
    rw [List.lookup_cons] at h
    rw [List.map_cons]
    cases ex:x == n with
    | true => rw [ex] at h; cases h
    | false =>
      rw [ex] at h
      have ih:=relabel_none (env:=env) (names:=r) h
      by_cases hk:(k' == NameKind.free && env.scope.kind == .function && env.kindOf n == some .cell) = true
      · simp only [hk,if_true,List.lookup_cons,ex]; exact ih
      · simp only [hk,Bool.false_eq_true,if_false,List.lookup_cons,ex]; exact ih
theorem compOkC {X:Cx} {sc:Scope} {N0:List Str} {scope:Scope} {N:List Str} {k:Nat} {fr:List Nat} (hsc:X.env.scope = sc) (hN:X.N = N0) (h:compChk sc N0 scope N k fr = true) (hc:∀ x,X.env.scope.names.lookup x = some .cell→∃ c,X.env.cells.lookup x = some c) :
    CompOk X scope (clOf X.env.cells scope.names []) N k fr:=by
  subst hsc hN
  simp only [compChk,Bool.and_eq_true,decide_eq_true_eq,List.all_eq_true,Bool.or_eq_true,Bool.not_eq_true',decide_eq_false_iff_not] at h
  obtain ⟨⟨⟨⟨⟨⟨h1,h2⟩,h3⟩,h4⟩,h5⟩,h6⟩,h7⟩:=h
  have hfree:∀ y ∈ scope.names,y.2 = .free→X.env.scope.names.lookup y.1 = some .cell:=fun y hy e => (h5 y hy).elim (fun z => absurd e z) id
  have hcl:∀ y ∈ scope.names,y.2 = .free→∃ c,X.env.cells.lookup y.1 = some c:=fun y hy e => hc _ (hfree y hy e)
  have hmem:∀ x,(x,NameKind.free) ∈ scope.names→∃ c,(clOf X.env.cells scope.names []).lookup x = some c:=fun x hx => by
    obtain ⟨c,h⟩:=clOf_has (cells:=X.env.cells) (cs:=[]) hx
    exact lookup_some_of_mem h
  have lab:∀ x kd,scope.names.lookup x = some kd→(relabel scope X.env).names.lookup x = some (if kd = .free then .cell else kd):=fun x kd hx =>
    relabel_lookup (scope:=scope) (env:=X.env) (fun y hy e => ⟨h2,hfree y hy e⟩) hx
  refine ⟨h1,h3,fun y hy e => (h4 y hy).elim (fun z => absurd e z) id,closureFor_cl hcl,fun x c hx => ?_,fun x hx => ?_,h6,fun t j x ht hx => ?_⟩
  · rcases clOf_mem (lookup_mem hx) with h | ⟨h,e⟩
    · exact nomatch h
    · obtain ⟨c',hc'⟩:=hcl _ h rfl
      simp only at hc'
      rw [e,hc']; rfl
  · cases e:scope.names.lookup x with
    | none =>
      have:=relabel_none (env:=X.env) e
      rcases hx with hx | hx
      · rw [show (relabel scope X.env).names.lookup x = none from this] at hx; cases hx
      · rw [show (relabel scope X.env).names.lookup x = none from this] at hx; cases hx
    | some kd =>
      have hl:=lab x kd e
      have hm:=lookup_mem e
      by_cases hk:kd = .free
      · subst hk; exact hmem x hm
      · rw [if_neg hk] at hl
        have nc:=h3 _ hm
        rcases hx with hx | hx
        · rw [hl] at hx; cases hx; exact absurd rfl nc
        · rw [hl] at hx; cases hx; exact absurd rfl hk
  · have htl:t < fr.length:=(List.getElem?_eq_some_iff.mp ht).1
    have h8:=h7 t (List.mem_range.mpr htl)
    rw [ht,hx] at h8
    simp only [Bool.and_eq_true,decide_eq_true_eq] at h8
    obtain ⟨h9,h10⟩:=h8
    have hm:=lookup_mem h10
    have hcell:=hfree _ hm rfl
    simp only at hcell
    refine ⟨h9,.inr (.inl hcell),hmem x hm,.inl ?_,fun z => by rw [hcell] at z; cases z⟩
    have:=lab x _ h10
    rw [if_pos rfl] at this
    exact this
mutual
noncomputable def noList:D→Bool
  | .list _ => false
  | .dict _ => false
  | .tuple ds => noLists ds
  | _ => true
noncomputable def noLists:List D→Bool
  | [] => true
  | d :: ds => noList d && noLists ds
end
inductive tDVK (K:PySem.W.Frag) (Z:Zt) (A:List Addr) (F:FE) (σ:L2.St) (H:Hp) (Q:VK):Prop
  | mk (B:Hp) (ow:Ow) (δ:Sl) (s:Sx) (d:D) (s':Sx) (h0:RepS K B Z A ow σ δ H) (h1:StateAt Z H s) (h2:F δ s = some (d,s')) (h3:∀ v H',Ext Z H H'→StateAt Z H' s'→Rep K Z H' A v d→Q v H')
noncomputable abbrev tDV (X:Cx) (Z:Zt) (A:List Addr) (F:FE):TE:=tDVK X.K Z A F
structure DV (X:Cx) (e:Expr) (F:FE):Prop where
  go:∀ Z A,PE X e (tDV X Z A F)
instance {X:Cx} {e:Expr} {F:FE}:CoeFun (DV X e F) (fun _ => ∀ Z A,PE X e (tDV X Z A F)):=⟨fun h => h.go⟩
inductive tDVAK (K:PySem.W.Frag) (Z:Zt) (A:List Addr) (F:FA) (σ:L2.St) (H:Hp) (Q:List V→Hp→Prop):Prop
  | mk (B:Hp) (ow:Ow) (δ:Sl) (s:Sx) (ds:List D) (s':Sx) (h0:RepS K B Z A ow σ δ H) (h1:StateAt Z H s) (h2:F δ s = some (ds,s')) (h3:∀ vs H',Ext Z H H'→StateAt Z H' s'→Reps K Z H' A vs ds→Q vs H')
noncomputable abbrev tDVA (X:Cx) (Z:Zt) (A:List Addr) (F:FA):TA:=tDVAK X.K Z A F
structure DVA (X:Cx) (es:List Expr) (F:FA):Prop where
  go:∀ Z A,PA X es (tDVA X Z A F)
instance {X:Cx} {es:List Expr} {F:FA}:CoeFun (DVA X es F) (fun _ => ∀ Z A,PA X es (tDVA X Z A F)):=⟨fun h => h.go⟩
section
variable {X:Cx} {e e2 ie:Expr} {es:List Expr} {F Fa Fi:FE} {FL:FA} {x:Str} {i:Nat} {p pos px tpos:Pos}
noncomputable def fVarW (i:Nat):FE:=fun δ s => match δ[i]? with | some (.val d) => some (d,s) | some (.own xs) => some (.list xs,s) | _ => none
theorem dw_of {e:Expr} (h:PE X e (tVar i)):DW X e (fVarW i):=⟨fun Z A => PE.imp h fun σ H Q x__148 => by
  obtain ⟨B,ow,δ,s,d,s',R,S,ee,q⟩:=x__148
  unfold fVarW at ee
  split at ee
  · rename_i d' hd
    cases ee
    obtain ⟨v,h1,h2⟩:=R.val i _ hd
    exact ⟨v,h1,q v H (Ext.refl H) S h2.w⟩
  · rename_i xs hd
    cases ee
    obtain ⟨p,vs,h1,h2,h3,h4⟩:=R.own i xs hd
    exact ⟨_,h2,q _ H (Ext.refl H) S (.inr ⟨p,vs,_,rfl,rfl,h3,(R.ows i p h1).2.2.1,h4⟩)⟩
  · cases ee⟩
theorem dvw (i:Nat) {x:Str} (hN:X.N[i]? = some x:=by rfl) (hv:Vis X.env.scope x:=by first | exact Or.inl rfl | exact Or.inr (Or.inl rfl) | exact Or.inr (Or.inr rfl)) (hd:(x == ("__debug__":Str)) = false:=by decide)
    (hcd:(x == ("__classdict__":Str)) = false:=by decide):DW X (.Name x pos) (fVarW i):=dw_of (pv i hN hv hd hcd)
end
end L3

namespace L3
open PySem L2 PySem.Spec PyProof.Rows
mutual
inductive Cn:Expr→D→Prop
  | int {i:Int} {j:Nat} {p:Pos}:Cn (.Constant (.int i) j p) (.int i)
  | bl {b:Bool} {j:Nat} {p:Pos}:Cn (.Constant (.bool b) j p) (.bool b)
  | non {j:Nat} {p:Pos}:Cn (.Constant .none j p) .none
  | str {x:Str} {j:Nat} {p:Pos}:Cn (.Constant (.str x) j p) (.str x)
  | neg {a:Expr} {i:Int} {p:Pos}:Cn a (.int i)→Cn (.UnaryOp .USub a p) (.int (-i))
  | tup {es:List Expr} {ds:List D} {c:Nat} {p:Pos}:small ds = true→Cns es ds→Cn (.Tuple es c p) (.tuple ds)
  | lst {es:List Expr} {ds:List D} {p:Pos}:small ds = true→Cns es ds→Cn (.List es p) (.list ds)
inductive Cns:List Expr→List D→Prop
  | nil:Cns [] []
  | cons {e:Expr} {d:D} {es:List Expr} {ds:List D}:Cn e d→Cns es ds→Cns (e :: es) (d :: ds)
end
structure Cst (K:PySem.W.Frag) (mg:Str→Option Value) (x:Str) (d:D):Prop where
  de:∀ {X:Cx} {pos:Pos},X.K = K→X.mg = mg→Gl X x→DE X (.Name x pos) (fC d)
theorem de_con {X:Cx} {x:Str} {d:D} {pos:Pos} (c:Cst X.K X.mg x d) (hg:Gl X x:=by rfl):DE X (.Name x pos) (fC d):=c.de rfl rfl hg
theorem star_cst {e:Expr} {d:D} {es:List Expr} {env:Env} (h:Cn e d):starEach (e :: es) env = (false,eval e env) :: starEach es env:=by
  cases h <;> rfl
section
variable {X:Cx}
theorem DE.as {e:Expr} {F G:FE} (h:DE X e F) (he:∀ δ s r,G δ s = some r→F δ s = some r):DE X e G:=⟨fun Z A => PE.imp (h Z A) fun σ H Q x__149 => (by obtain ⟨B,ow,δ,s,d,s',R,S,ee,q⟩:=x__149; exact ⟨B,ow,δ,s,d,s',R,S,he _ _ _ ee,q⟩)⟩
theorem de_cst {e:Expr} {d:D} (h:Cn e d):DE X e (fC d) :=
  Cn.rec (motive_1:=fun e d _ => DE X e (fC d)) (motive_2:=fun es ds _ => DA X es (fun _ s => some (ds,s))) de_int de_bl de_non de_str
    (fun _ h => (de_neg h.w).as fun δ s r hr => by cases hr; rfl) (fun hs _ h => (de_tup h).as fun δ s r hr => by cases hr; unfold eTup; simp [hs]) (fun hs _ h => (de_lst h).as fun δ s r hr => by cases hr; unfold eLst; simp [hs])
    da_nil (fun h _ d t => da_cons d t (star_cst h)) h
end
end L3

namespace L3
open PySem L2 PySem.Spec PyProof.Rows
theorem compD_pure {T:Tgt} {Ft:FT} {F:FE} {δc:Sl} {f:D→D} {s:Sx}:∀ (ds:List D),(∀ d ∈ ds,∃ δ1,T.run d δc = some δ1∧Ft δ1 s = some (true,s)∧F δ1 s = some (f d,s))→compD T Ft F δc ds s = some (ds.map f,s)
  | [],_ => rfl
  | d :: ds,h => by
    obtain ⟨δ1,e1,e2,e3⟩:=h d List.mem_cons_self
    have ih:=compD_pure ds fun d hd => h d (List.mem_cons_of_mem _ hd)
    unfold compD
    rw [e1]
    simp only [Option.bind_some,e2,if_true,e3,ih,Option.map_some,List.map_cons]
theorem compD_gen {T:Tgt} {Ft:FT} {F:FE} {δc:Sl} (P:D→Prop) (c:Nat) (step:∀ n s d,Good (n + c) s→∃ δ1 x s',T.run d δc = some δ1∧Ft δ1 s = some (true,s)∧F δ1 s = some (x,s')∧P x∧Good n s') :
    ∀ (ds:List D) (n:Nat) (s:Sx),Good (n + c * ds.length) s→∃ xs s',compD T Ft F δc ds s = some (xs,s')∧(∀ x ∈ xs,P x)∧xs.length = ds.length∧Good n s'
  | [],n,s,h => ⟨[],s,rfl,(fun _ z => nomatch z),rfl,by simpa using h⟩
  | d :: ds,n,s,h => by
    obtain ⟨δ1,x,s1,e1,e2,e3,hx,g1⟩:=step (n + c * ds.length) s d (h.mono (by rw [List.length_cons,Nat.mul_add]; lia))
    obtain ⟨xs,s2,e4,hxs,hl,g2⟩:=compD_gen P c step ds n s1 g1
    refine ⟨x :: xs,s2,?_,?_,by simp [hl],g2⟩
    · unfold compD
      rw [e1]
      simp only [Option.bind_some,e2,if_true,e3,e4,Option.map_some]
    · intro y hy
      rcases List.mem_cons.mp hy with rfl | hy
      · exact hx
      · exact hxs y hy
theorem bools_map (l:List D) (f:D→Bool):bools (l.map fun d => .bool (f d)) = some (l.map f):=by
  induction l with
  | nil => rfl
  | cons a r ih => simp [bools,ih]
theorem small_le {l:List D} (h:l.length ≤ 1000):small l = true:=decide_eq_true (Nat.le_trans h (by decide))
theorem atI_nat {l:List D} {n:Nat} {d:D} (h:l[n]? = some d):L2.atI l (n:Int) = some d:=by
  have hl:=(List.getElem?_eq_some_iff.mp h).1
  unfold L2.atI ixN
  rw [if_pos (by lia),if_pos (by lia),Int.toNat_natCast]
  exact h
theorem atI_last {l:List D} (h:l ≠ []):L2.atI l (-1) = some (l.getLast h):=by
  have hl:0 < l.length:=List.length_pos_iff.mpr h
  unfold L2.atI ixN
  rw [if_neg (by decide),if_pos (by lia)]
  show l[(-1 + (l.length:Int)).toNat]? = _
  rw [show (-1 + (l.length:Int)).toNat = l.length - 1 by lia,List.getElem?_eq_getElem (by omega),List.getLast_eq_getElem]
noncomputable def IsN (n:Nat) (d:D):Prop:=∃ p q,Num n d p q
noncomputable def zD:D:=.tuple [.int 0,.int 1]
noncomputable def isZ:D→Bool
  | .tuple [.int p,.int _] => decide (p = 0)
  | _ => false
theorem isZ_num {n:Nat} {d:D} {p q:Int} (h:Num n d p q):isZ d = decide (p = 0):=by obtain ⟨rfl,_⟩:=h; rfl
theorem gEq_pair (a b c d:Int):gEq (.tuple [.int a,.int b]) (.tuple [.int c,.int d]) = some (.bool (decide (a = c) && decide (b = d))):=by
  simp [gEq,SeqAt.shaped,PyData.canLay0,PyData.canLayAll0,PyData.depth,PyData.depthAll,PyData.eqv,PyData.eqvAll,Bool.beq_eq_decide_eq]
theorem isZ_eq {n:Nat} {d:D} (h:IsN n d):gEq d zD = some (.bool (isZ d)):=by
  obtain ⟨p,q,rfl,hq,hg,_⟩:=h
  unfold zD
  rw [gEq_pair]
  have:(decide (p = 0) && decide (q = 1)) = decide (p = 0):=by
    by_cases hp:p = 0
    · subst hp
      have:q = 1:=by rw [Int.gcd_zero_left] at hg; lia
      simp [this]
    · simp [hp]
  rw [this]; rfl
theorem num_ix0 {n:Nat} {d:D} {p q:Int} (h:Num n d p q):gIx d (.int 0) = some (.int p):=by obtain ⟨rfl,_⟩:=h; simp [gIx,atI0]
noncomputable def AllN (n:Nat) (l:List D):Prop:=∀ d ∈ l,IsN n d
theorem lay_nums {n:Nat}:∀ {l:List D},AllN n l→PyData.canLayAll0 l = true∧PyData.depthAll l ≤ 1
  | [],_ => by simp [PyData.canLayAll0,PyData.depthAll]
  | d :: l,h => by
    obtain ⟨h1,h2⟩:=lay_nums (l:=l) fun x hx => h x (List.mem_cons_of_mem _ hx)
    obtain ⟨p,q,rfl,_⟩:=h d List.mem_cons_self
    refine ⟨by simp [PyData.canLayAll0,PyData.canLay0,h1],?_⟩
    simp [PyData.depthAll,PyData.depth]
    lia
theorem shaped_list {n:Nat} {l:List D} (h:AllN n l):SeqAt.shaped (.list l) = true:=by
  obtain ⟨h1,h2⟩:=lay_nums h
  simp [SeqAt.shaped,PyData.canLay0,PyData.depth,h1]
  lia
theorem shaped_tuple {n:Nat} {l:List D} (h:AllN n l):SeqAt.shaped (.tuple l) = true:=by
  obtain ⟨h1,h2⟩:=lay_nums h
  simp [SeqAt.shaped,PyData.canLay0,PyData.depth,h1]
  lia
theorem eqv_nums {n:Nat}:∀ {l:List D},AllN n l→PyData.eqvAll l l = true
  | [],_ => by simp [PyData.eqvAll]
  | d :: l,h => by
    have ih:=eqv_nums (l:=l) fun x hx => h x (List.mem_cons_of_mem _ hx)
    obtain ⟨p,q,rfl,_⟩:=h d List.mem_cons_self
    simp [PyData.eqvAll,PyData.eqv,ih]
theorem gNe_tuple_self {n:Nat} {l:List D} (h:AllN n l):gNe (.tuple l) (.tuple l) = some (.bool false):=by
  simp [gNe,shaped_tuple h,PyData.eqv,eqv_nums h]
theorem eqvAll_nil (l:List D):PyData.eqvAll l [] = l.isEmpty:=by cases l <;> simp [PyData.eqvAll]
theorem gNe_list_nil {n:Nat} {l:List D} (h:AllN n l):gNe (.list l) (.list []) = some (.bool (!l.isEmpty)):=by
  simp [gNe,shaped_list h,shaped_nil,PyData.eqv,eqvAll_nil]
noncomputable def trimLen (l:List D):Nat→Nat
  | 0 => 0
  | n + 1 => if isZ (l.getD n zD) then trimLen l n else n + 1
noncomputable def trimD (l:List D):List D:=l.take (trimLen l l.length)
theorem trimLen_le (l:List D):∀ n,trimLen l n ≤ n
  | 0 => Nat.le_refl _
  | n + 1 => by
    unfold trimLen
    split
    · exact Nat.le_trans (trimLen_le l n) (Nat.le_succ n)
    · exact Nat.le_refl _
theorem AllN.take {n:Nat} {l:List D} (h:AllN n l) (k:Nat):AllN n (l.take k):=fun d hd => h d (List.mem_of_mem_take hd)
end L3

namespace L3
open PySem L2 PySem.Spec PyProof.Rows
noncomputable def lookF (f:Str):List (D × D)→Option D
  | (.str n,d) :: r => if f = n then some d else lookF f r
  | _ => none
theorem Reps.field {K:PySem.W.Frag} {Z:Zt} {H:Hp} {A:List Addr} {f:Str} {d:D}:∀ {ns:List Str} {vs:List V} {ds:List D},Reps K Z H A vs ds→lookF f ((ns.map PyData.str).zip ds) = some d→∃ v,(ns.zip vs).lookup f = some v∧Rep K Z H A v d
  | [],_,_,_,h => by simp [lookF] at h
  | n :: ns,_,_,.nil,h => by simp [lookF] at h
  | n :: ns,_,_,.cons (v:=v) r t,h => by
    simp only [List.map_cons,List.zip_cons_cons,lookF] at h
    rw [List.zip_cons_cons,List.lookup_cons]
    split at h
    · rename_i e
      cases h
      subst e
      exact ⟨v,by simp,r⟩
    · rename_i e
      obtain ⟨v',h1,h2⟩:=Reps.field t h
      have:(f == n) = false:=by simpa using e
      exact ⟨v',by rw [this]; exact h1,h2⟩
theorem Reps.nofield {K:PySem.W.Frag} {Z:Zt} {H:Hp} {A:List Addr} {f:Str}:∀ {ns:List Str} {vs:List V} {ds:List D},Reps K Z H A vs ds→lookF f ((ns.map PyData.str).zip ds) = none→(ns.zip vs).lookup f = none
  | [],_,_,_,_ => rfl
  | n :: ns,_,_,.nil,_ => rfl
  | n :: ns,_,_,.cons r t,h => by
    simp only [List.map_cons,List.zip_cons_cons,lookF] at h
    rw [List.zip_cons_cons,List.lookup_cons]
    split at h
    · cases h
    · rename_i e
      have:(f == n) = false:=by simpa using e
      rw [this]
      exact Reps.nofield t h
theorem RepW.object {K:PySem.W.Frag} {Z:Zt} {H:Hp} {A:List Addr} {v:V} {e c:Str} {fs:List (D × D)} (r:RepW K Z H A v (.dict ((.str e,.str c) :: fs))) :
    ∃ (p C dx:Addr) (ns:List Str) (vs:List V) (ds:List D),v = .ref p∧PySem.W.nsIn K mainGlobals c = some (some (.ref C))∧H p = some (.ins C dx (ns.zip vs))∧Reps K Z H A vs ds∧fs = (ns.map PyData.str).zip ds:=by
  rcases r with r | ⟨_,_,_,_,e2,_⟩
  · cases r with
    | obj k h n z q => exact ⟨_,_,_,_,_,_,rfl,k,h,q,rfl⟩
  · cases e2
inductive CstV (K:PySem.W.Frag) (mg:Str→Option Value) (x:Str) (d:D):Prop
  | mk (v:V) (u:Value) (h0:mg x = some u) (h1:RelV v u) (h2:∀ Z H A,Rep K Z H A v d)
inductive IsM (K:PySem.W.Frag) (c m q:Str) (st:Stmt):Prop
  | mk (C:Addr) (f:Addr) (fd:FuncData) (h0:PySem.W.nsIn K mainGlobals c = some (some (.ref C))) (h1:Cls K C) (h2:Meth K C m f) (h3:Fun K m q st f fd)
inductive IsI (K:PySem.W.Frag) (mg:Str→Option Value) (c q:Str) (st:Stmt) (fs:List Str):Prop
  | mk (C:Addr) (f:Addr) (fd:FuncData) (h0:PySem.W.nsIn K mainGlobals c = some (some (.ref C))) (h1:mg c = some (.ref C)) (h2:Mk K C f) (h3:Cls K C) (h4:(∀ x ∈ fs,NoAttr K C x)) (h5:Fun K "__init__" q st f fd)
section
variable {X:Cx} {e o:Expr} {es:List Expr} {Fa Fo:FE} {FL:FA} {f x m:Str} {p pos apos:Pos}
inductive FCal (K:PySem.W.Frag) (c f:Str):Prop
  | mk (C:Addr) (h0:PySem.W.nsIn K mainGlobals c = some (some (.ref C))) (h1:Cls K C) (h2:NoAttr K C f)
noncomputable def gFld (cs:List Str) (f:Str):G1:=fun d => match d with | .dict ((.str _,.str c) :: fs) => if c ∈ cs then lookF f fs else none | _ => none
theorem de_fld {cs:List Str} (hc:∀ c ∈ cs,FCal X.K c f) (ha:DW X e Fa) (hb:attributeBase e f X.env (eval e X.env) = eval e X.env:=by rfl):DE X (.Attribute e f pos) (f1 (gFld cs f) Fa):=⟨fun Z A => PE.imp (pe_fld (ha Z A) hb) fun σ H Q x__150 => by
  obtain ⟨B,ow,δ,s,d,s',R,S,ee,q⟩:=x__150
  unfold f1 at ee
  first | refine bnd2 ee fun dx s1 e1 ee => ?_ | refine mpp2 ee fun dx s1 e1 ee => ?_
  replace ee:((gFld cs f dx).map fun d => (d,s1)) = some (d,s'):=ee
  cases e3:gFld cs f dx with
  | none => rw [e3] at ee; cases ee
  | some d' =>
    rw [e3] at ee
    cases ee
    refine ⟨B,ow,δ,s,dx,_,R,S,e1,fun v H1 x1 S1 r => ?_⟩
    unfold gFld at e3
    split at e3
    · rename_i e0 c fs
      split at e3
      · rename_i hin
        obtain ⟨p,C,dxx,ns,vs,ds,rfl,k,h,rs,rfl⟩:=r.object
        obtain ⟨C',k',cl,na⟩:=(hc c hin)
        rw [k] at k'
        cases k'
        obtain ⟨v',h1,h2⟩:=rs.field e3
        exact ⟨p,C,dxx,_,v',rfl,h,cl,na,h1,q v' H1 x1 S1 h2⟩
      · cases e3
    · cases e3⟩
inductive MCal (P:Program) (w:World) (K:PySem.W.Frag) (mg:Str→Option Value) (base:Heap) (c m:Str) (k:Nat) (g:GF):Prop
  | mk (C:Addr) (f:Addr) (fd:FuncData) (ps:List Str) (h0:PySem.W.nsIn K mainGlobals c = some (some (.ref C))) (h1:Cls K C) (h2:Meth K C m f) (h3:FnOk P w K mg base CX0 k f fd ps (spD K g)) (h4:Binds K fd ps [])
noncomputable def fMeth (tab:List (Str × GF)) (m:Str) (Fo:FE) (FL:FA):FE:=fun δ s => (Fo δ s).bind fun p => match p.1 with
  | .dict ((.str e,.str c) :: fs) => if (lookF m fs).isNone = true then (tab.lookup c).bind fun g => (FL δ p.2).bind fun q => g (.dict ((.str e,.str c) :: fs) :: q.1) q.2 else none
  | _ => none
theorem de_meth {tab:List (Str × GF)} {k':Nat} {pl:Sem Bool} (ht:∀ c g,tab.lookup c = some g→∃ k,k ≤ k'∧MCal X.prog X.w X.K X.mg X.base c m k g) (hr:Room k' X.A) (ho:DE X o Fo) (ha:DA X (e :: es) FL)
    (hst:starEach (e :: es) X.env = (false,eval e X.env) :: starEach es X.env:=by rfl) (hpl:(backTo pos (starEach es X.env)).any (·.1) = false:=by rfl)
    (hev:eval (.Call (.Attribute o m apos) (e :: es) [] pos) X.env = (do
      let ov ← eval o X.env
      standAt apos.atName
      let (f,first) ← holding [ov] (getMethod ov m pl)
      callWith pos f first (backTo pos (starEach (e :: es) X.env)) (backToKw pos (keywordEach [] X.env))):=by rfl) :
    DE X (.Call (.Attribute o m apos) (e :: es) [] pos) (fMeth tab m Fo FL):=⟨fun Z A pins s σ H Q I x__151 => by
  obtain ⟨B,ow,δ,st,d,st',R,S,ee,q⟩:=x__151
  unfold fMeth at ee
  first | refine bnd2 ee fun dx s1 e1 ee => ?_ | refine mpp2 ee fun dx s1 e1 ee => ?_
  try simp only [Option.bind_some] at ee
  split at ee
  · rename_i e0 c fs
    split at ee
    · rename_i hno
      first | refine bnd1 ee fun g e2 ee => ?_ | refine mpp1 ee fun g e2 ee => ?_
      try simp only [Option.bind_some] at ee
      first | refine bnd2 ee fun ds s2 e3 ee => ?_ | refine mpp2 ee fun ds s2 e3 ee => ?_
      try simp only [Option.bind_some] at ee
      obtain ⟨k,hk,mc⟩:=ht c g e2
      obtain ⟨C,f,fd,ps,kC,cl,me,G,hb⟩:=mc
      refine pe_meth (pl:=pl) (E:=E0) (ho Z A) cl me G (hr.mono hk) hb .nil pass0 (ha Z A) hst hpl hev pins s σ H Q I ⟨B,ow,δ,st,_,s1,R,S,e1,fun v H1 x1 S1 r => ?_⟩
      obtain ⟨p,C',dxx,ns,vs,fds,rfl,kC',h,rs,efs⟩:=r.w.object
      rw [kC] at kC'
      cases kC'
      have hnone:lookF m ((ns.map PyData.str).zip fds) = none:=by rw [← efs]; simpa using hno
      refine ⟨p,dxx,_,rfl,h,rs.nofield hnone,⟨B,ow,δ,s1,ds,s2,R.mono x1,S1,e3,fun us H2 x2 S2 rus => ?_⟩⟩
      show spD X.K g (V.ref p :: (us ++ [])) H2 Q E0
      rw [List.append_nil]
      refine ⟨Z,A ++ ow.map (·.2),_ :: ds,s2,d,st',.cons (r.ext x2) rus,fun q hq => ?_,S2,ee,fun v H' a b c => q v H' ((x1.trans x2).trans a) b c⟩
      refine ⟨(R.mono (x1.trans x2)).all q hq,?_⟩
      rcases List.mem_append.mp hq with h | h
      · exact (R.ok q h).2
      · obtain ⟨⟨i,p⟩,hp,rfl⟩:=List.mem_map.mp h
        exact (R.ows i p hp).2.2.1
    · cases ee
  · cases ee⟩
noncomputable def spI (K:PySem.W.Frag) (C:Addr) (ns:List Str) (gI:List D→Option (List D)):Sp:=fun vs H Q _ => ∃ Z A p dx ws ds fds,vs = .ref p :: ws∧H p = some (.ins C dx [])∧NotZ Z p∧Reps K Z H (p :: A) ws ds∧gI ds = some fds ∧
  ∀ fvs H',(∀ b o,H b = some o→b ≠ p→H' b = some o)→H' p = some (.ins C dx (ns.zip fvs))→Reps K Z H' (p :: A) fvs fds→Q .non H'
inductive KCal (P:Program) (w:World) (K:PySem.W.Frag) (mg:Str→Option Value) (base:Heap) (c:Str) (k:Nat) (ns:List Str) (gI:List D→Option (List D)):Prop
  | mk (C:Addr) (f:Addr) (fd:FuncData) (ps:List Str) (h0:PySem.W.nsIn K mainGlobals c = some (some (.ref C))) (h1:mg c = some (.ref C)) (h2:Mk K C f) (h3:FnOk P w K mg base CX0 k f fd ps (spI K C ns gI)) (h4:Binds K fd ps [])
noncomputable def fMake (c:Str) (ns:List Str) (gI:List D→Option (List D)) (FL:FA):FE:=fun δ s => (FL δ s).bind fun p => (gI p.1).map fun fds => (.dict ((.str "",.str c) :: (ns.map PyData.str).zip fds),p.2)
theorem read_make {C:Addr} {c:Str} {ns:List Str} {gI:List D→Option (List D)} {Z:Zt} {A:List Addr} {σ:L2.St} {H:Hp} {Q:VK} {E:XK} {FL:FA} (kC:PySem.W.nsIn X.K mainGlobals c = some (some (.ref C))) (h:tD X Z A (fMake c ns gI FL) σ H Q):tMake C (spI X.K C ns gI) [] E (tDA X Z A FL) σ H Q:=by
  obtain ⟨B,ow,δ,s,d,s',R,S,ee,q⟩:=h
  unfold fMake at ee
  first | refine bnd2 ee fun ds s1 e1 ee => ?_ | refine mpp2 ee fun ds s1 e1 ee => ?_
  replace ee:((gI ds).map fun fds => (PyData.dict ((.str "",.str c) :: (ns.map PyData.str).zip fds),s1)) = some (d,s'):=ee
  first | refine bnd1 ee fun fds e2 ee => ?_ | refine mpp1 ee fun fds e2 ee => ?_
  cases ee
  refine ⟨B,ow,δ,s,ds,_,R,S,e1,fun vs H1 x1 S1 rs => fun x dx nx ndx nex => ?_⟩
  rw [List.append_nil]
  have keep:∀ b o,H1 b = some o→(upd (upd H1 dx (.own x)) x (.ins C dx [])) b = some o:=fun b o e => by rw [upd_ne (ne_of_none e nx),upd_ne (ne_of_none e ndx)]; exact e
  have rs2:Reps X.K Z (upd (upd H1 dx (.own x)) x (.ins C dx [])) (x :: (A ++ ow.map (·.2))) vs ds:=((rs.fresh (o:=.own x) ndx).fresh (o:=.ins C dx []) (by rw [upd_ne (Ne.symm nex)]; exact nx)).sub fun q hq => by
    rcases List.mem_cons.mp hq with h | h
    · rw [h]; exact List.mem_cons_self
    · exact List.mem_cons_of_mem _ (List.mem_cons_of_mem _ h)
  refine ⟨Z,A ++ ow.map (·.2),x,dx,vs,ds,fds,rfl,upd_same,S1.notZ nx,rs2,e2,fun fvs H' hk hp rf => ⟨rfl,?_⟩⟩
  have xx:Ext Z H1 H':=fun b o e _ => hk b o (keep b o e) (ne_of_none e nx)
  exact q _ H' (x1.trans xx) (fun a c e => ⟨hk _ _ (keep _ _ (S1 a c e).1) (ne_of_none (S1 a c e).1 nx),hk _ _ (keep _ _ (S1 a c e).2) (ne_of_none (S1 a c e).2 nx)⟩) (.obj kC hp (fresh_not (R.mono x1).all nx) (S1.notZ nx) (rf.sub fun q hq => List.mem_cons_of_mem _ hq))
theorem de_make0 {c:Str} {k k':Nat} {ns:List Str} {gI:List D→Option (List D)} (K:KCal X.prog X.w X.K X.mg X.base c k ns gI) (hr:Room k' X.A) (hk:k + 1 ≤ k':=by decide) (hg:Gl X c:=by rfl) (hdb:(c == ("__debug__":Str)) = false:=by decide) :
    DE X (.Call (.Name c p) [] [] pos) (fMake c ns gI aNil):=by
  obtain ⟨C,f,fd,ps,kC,hm,M,G,hb⟩:=K
  exact ⟨fun Z A => PE.imp (pe_make0 (E:=E0) M G (hr.mono hk) hg hm hb .nil pass0 hdb) fun σ H Q q => by
    obtain ⟨B,ow,δ,s,ds,s1,R,S,e1,q⟩:=read_make (E:=E0) kC q
    cases e1
    exact q [] H (Ext.refl H) S .nil⟩
end
end L3

namespace L3
open PySem L2 PySem.Spec PyProof.Rows
section
variable {X:Cx} {e:Expr} {F:FE} {p pos:Pos}
noncomputable def enumD (xs:List D):List D:=xs.zipIdx.map fun z => .tuple [.int (z.2:Int),z.1]
noncomputable def iEnumF (F:FE):FI:=fun δ s => (F δ s).bind fun p => (seqOf p.1).map fun xs => (enumD xs,p.2)
theorem di_enum {elts:List Expr} {c:Nat} {tp:Pos} (hm:X.mg "enumerate" = none) (ha:DE X e F) (hg:Gl X "enumerate":=by rfl) (hs:starEach [e] X.env = [(false,eval e X.env)]:=by rfl) :
    DI X (.Tuple elts c tp) (.Call (.Name "enumerate" p) [e] [] pos) (iEnumF F) :=
  ⟨fun Z A => PI.imp (pi_enum hg hm (pa_cons (ha Z A) pa_nil (by rw [hs]; rfl)) hs) fun σ H R x__152 => by
    obtain ⟨B,ow,δ,s,ds,s',RS,S,ee,q⟩:=x__152
    unfold iEnumF at ee
    first | refine bnd2 ee fun d s1 e1 ee => ?_ | refine mpp2 ee fun d s1 e1 ee => ?_
    replace ee:((seqOf d).map fun xs => (enumD xs,s1)) = some (ds,s'):=ee
    first | refine bnd1 ee fun xs e3 ee => ?_ | refine mpp1 ee fun xs e3 ee => ?_
    cases ee
    refine ⟨B,ow,δ,s,d,s',RS,S,e1,fun v H1 x1 S1 r => ?_⟩
    obtain ⟨k1,a1,vs1,rfl,sq1,rs1,st1⟩:=rep_sq r e3
    refine ⟨k1,a1,vs1,rfl,sq1,q _ H1 x1 S1 ?_⟩
    intro ow' H' st f S' hA i
    have g1:=st1 ow' H' f
    refine ⟨fun dd hd => ?_,fun hi => ⟨vs1,g1,?_⟩⟩
    · unfold enumD at hd
      rw [List.getElem?_map,List.getElem?_zipIdx] at hd
      cases e5:xs[i]? with
      | none => rw [e5] at hd; cases hd
      | some z =>
        rw [e5] at hd
        cases hd
        obtain ⟨u1,h1,q1⟩:=(rs1.frm f).get e5
        refine ⟨⟨vs1,u1,g1,h1⟩,fun x H3 x__153 => ?_⟩
        obtain ⟨p,y1,ex,hp,eH,f1⟩:=x__153
        have z1:=f1 vs1 g1
        rw [h1] at z1
        cases z1
        subst ex eH
        refine ⟨Ext.upd hp,S'.upd hp,.tup upd_same (fresh_not hA hp) (S'.notZ hp) (.cons ?_ (.cons (q1.ext (Ext.upd hp)) .nil))⟩
        simp only [Nat.zero_add]
        exact .int _
    · rw [rs1.length]
      unfold enumD at hi
      rw [List.length_map,List.length_zipIdx] at hi
      exact hi⟩
end
end L3

namespace L3
open PySem L2 PySem.Spec PyProof.Rows
section
variable {X:Cx} {tg e:Expr} {F:FE} {p pos p2 pos2:Pos}
end
end L3

namespace L3
open PySem L2 PySem.Spec PyProof.Rows
section
variable {X:Cx} {e:Expr} {sts:List Stmt} {f x:Str} {p pos px ap:Pos}
noncomputable def SV (X:Cx) (e:Expr) (v:L2.St→Option V):Prop:=PE X e (fun σ H Q => ∃ y,v σ = some y∧Q y H)
theorem sv_glob {v:V} {u:Value} (hm:X.mg x = some u) (r:RelV v u) (hg:Gl X x:=by rfl) (hd:(x == ("__debug__":Str)) = false:=by decide):SV X (.Name x pos) (fun _ => some v):=PE.imp (pe_glob hg hm r hd) fun σ H Q x__154 => by obtain ⟨y,e,q⟩:=x__154; cases e; exact q
noncomputable def putAll (fs0:List (Str × V)):List Str→List V→List (Str × V)
  | n :: ns,v :: vs => putAll (putF n v fs0) ns vs
  | _,_ => fs0
noncomputable def vals? (σ:L2.St):List (L2.St→Option V)→Option (List V)
  | [] => some []
  | v :: r => (v σ).bind fun x => (vals? σ r).map fun xs => x :: xs
noncomputable def IS (X:Cx) (C:Addr) (sts:List Stmt) (ns:List Str) (vs:List (L2.St→Option V)):Prop:=PSs X sts (fun D σ H => ∃ p dx fs0 xs,σ[0]? = some (some (.ref p))∧H p = some (.ins C dx fs0)∧vals? σ vs = some xs∧fs0.length + ns.length ≤ 100 ∧
  ∀ H',(∀ b o,H b = some o→b ≠ p→H' b = some o)→H' p = some (.ins C dx (putAll fs0 ns xs))→D.nx σ H')
theorem is_nil {C:Addr}:IS X C [] [] []:=PSs.imp pss_nil fun D σ H x__155 => by
  obtain ⟨p,dx,fs0,xs,h1,h2,h3,h4,q⟩:=x__155
  cases h3
  exact q H (fun b o e _ => e) h2
theorem is_cons {C:Addr} {ns:List Str} {vs:List (L2.St→Option V)} {v:L2.St→Option V} (cl:Cls X.K C) (na:NoAttr X.K C f) (ho:PE X (.Name x px) (tVar 0)) (he:SV X e v) (hr:IS X C sts ns vs)
    (hs:swapsWith e (some (.Attribute (.Name x px) f ap)) pos.line X.env = pure false:=by rfl):IS X C (.Assign [.Attribute (.Name x px) f ap] e pos :: sts) (f :: ns) (v :: vs) :=
  PSs.imp (pss_cons (ps_fld ho he hs) hr) fun D σ H x__156 => by
    obtain ⟨p,dx,fs0,xs,h1,h2,h3,h4,q⟩:=x__156
    unfold vals? at h3
    first | refine bnd1 h3 fun y e1 h3 => ?_ | refine mpp1 h3 fun y e1 h3 => ?_
    try simp only [Option.bind_some] at h3
    first | refine bnd1 h3 fun ys e2 h3 => ?_ | refine mpp1 h3 fun ys e2 h3 => ?_
    cases h3
    rw [List.length_cons] at h4
    refine ⟨y,e1,_,h1,p,C,dx,fs0,rfl,h2,cl,na,by lia,?_⟩
    refine ⟨p,dx,putF f y fs0,ys,h1,upd_same,e2,?_,fun H' a b => q H' (fun b' o e hb => a b' o (by rw [upd_ne hb]; exact e) hb) b⟩
    have:=length_putF f y fs0
    lia
end
theorem Reps.past {K:PySem.W.Frag} {Z:Zt} {H H':Hp} {A:List Addr} {p:Addr} (hk:∀ b o,H b = some o→b ≠ p→H' b = some o) {vs:List V} {ds:List D} (r:Reps K Z H (p :: A) vs ds):Reps K Z H' (p :: A) vs ds:=r.move fun b o h n z => ⟨hk b o h fun e => n (by rw [e]; exact List.mem_cons_self),n⟩
section
variable {P:Program} {w:World} {K:PySem.W.Frag} {mg:Str→Option Value} {base:Heap}
theorem initOk {c q:Str} {st:Stmt} {ps ns:List Str} {C f:Addr} {fd:FuncData} {vs:List (L2.St→Option V)} {gI:List D→Option (List D)} (kC:PySem.W.nsIn K mainGlobals c = some (some (.ref C))) (hm:mg c = some (.ref C)) (M:Mk K C f) (F:Fun K "__init__" q st f fd) (S:FnScope ps ps (defScope st)) (hb:Binds K fd ps [])
    (hns:ns.length ≤ 100) (hnd:∀ xs:List V,xs.length = ns.length→putAll [] ns xs = ns.zip xs)
    (hlen:∀ ds fds,gI ds = some fds→ds.length + 1 = ps.length)
    (hbody:∀ (cdv:Value) (A:Around) (outer:List Env) (s:Shared) (H:Hp) (E:XK),IS (cxOf CX0 P w K mg base ps q (defScope st) f cdv A outer s H E).nox C (defBody st) ns vs)
    (hv:∀ Z H A p ws ds fds,Reps K Z H A ws ds→gI ds = some fds→∃ xs,vals? (some (.ref p) :: ws.map some) vs = some xs∧xs.length = ns.length∧Reps K Z H A xs fds):KCal P w K mg base c 1 ns gI:=by
  refine ⟨C,f,fd,ps,kC,hm,M,F.ok S (fun vs H Q E h => ?_) (fun cdv A outer s H us Q E hr h => ?_),hb⟩
  · obtain ⟨Z,A,p,dx,ws,ds,fds,rfl,_,_,rs,e,_⟩:=h
    rw [List.length_cons,rs.length]
    exact hlen ds fds e
  · obtain ⟨Z,A0,p,dx,ws,ds,fds,rfl,hp,nz,rs,e,q⟩:=h
    obtain ⟨xs,h1,h2,h3⟩:=hv Z H (p :: A0) p ws ds fds rs e
    refine ⟨_,hbody cdv A outer s H E,?_⟩
    have hst:L2.start ps (.ref p :: ws) = some (.ref p) :: ws.map some:=by
      unfold L2.start
      rw [show ps.length - (V.ref p :: ws).length = 0 by rw [List.length_cons,rs.length,hlen ds fds e,Nat.sub_self]]
      simp
    rw [hst]
    refine ⟨p,dx,[],xs,rfl,hp,h1,by simpa using hns,fun H' a b => ?_⟩
    rw [hnd xs h2] at b
    exact q xs H' a b (h3.past a)
end
end L3
namespace L3
theorem tab_nil {Pm:PySem.Str→GF→Prop}:∀ c g,([]:List (PySem.Str × GF)).lookup c = some g→Pm c g:=fun _ _ h => nomatch h
theorem tab_cons {Pm:PySem.Str→GF→Prop} {n:PySem.Str} {g1:GF} {l:List (PySem.Str × GF)} (h:Pm n g1) (ht:∀ c g,l.lookup c = some g→Pm c g):∀ c g,((n,g1) :: l).lookup c = some g→Pm c g:=fun c g e => by
  rw [List.lookup_cons] at e
  split at e
  · rename_i hb
    cases e
    rw [eq_of_beq hb]
    exact h
  · exact ht c g e
end L3

namespace L3
open PySem L2 PySem.Spec PyProof.Rows
noncomputable def enc (r:Rat):D:=.tuple [.int r.num,.int (r.den:Int)]
theorem den_int (r:Rat):((r.den:Nat):Int) ≠ 0:=by have:=r.den_nz; lia
theorem num_enc {T B:Int} (hB:B ≠ 0):num T B = enc (Rat.divInt T B):=by
  refine num_eq hB (by have:=(Rat.divInt T B).den_nz; lia) (Rat.divInt T B).reduced ?_
  exact (Rat.divInt_eq_divInt_iff (den_int _) hB).mp (Rat.num_divInt_den _)
noncomputable def Sz (n:Nat) (r:Rat):Prop:=Bt n r.num∧Bt n (r.den:Int)
theorem Sz.mono {n m:Nat} {r:Rat} (h:Sz n r) (hm:n ≤ m):Sz m r:=⟨h.1.mono hm,h.2.mono hm⟩
theorem Sz.num {n:Nat} {r:Rat} (h:Sz n r):Num n (enc r) r.num r.den:=⟨rfl,by have:=r.den_nz; lia,r.reduced,h.1,h.2⟩
theorem Sz.isN {n:Nat} {r:Rat} (h:Sz n r):IsN n (enc r):=⟨_,_,h.num⟩
theorem IsN.enc {n:Nat} {d:D} (h:IsN n d):∃ r,d = L3.enc r∧Sz n r:=by
  obtain ⟨p,q,rfl,hq,hg,b1,b2⟩:=h
  have hqn:((q.toNat:Nat):Int) = q:=by lia
  refine ⟨⟨p,q.toNat,by lia,?_⟩,?_,?_⟩
  · have:q.toNat = q.natAbs:=by lia
    rw [this]; exact hg
  · show _ = PyData.tuple [.int p,.int ((q.toNat:Nat):Int)]
    rw [hqn]
  · exact ⟨b1,by show Bt n ((q.toNat:Nat):Int); rw [hqn]; exact b2⟩
theorem enc_zero:enc 0 = zD:=rfl
theorem isZ_enc (r:Rat):isZ (enc r) = decide (r = 0):=by
  show decide (r.num = 0) = _
  exact decide_eq_decide.mpr Rat.num_eq_zero
theorem add_enc (a b:Rat):num (a.num * b.den + b.num * a.den) (a.den * b.den) = enc (a + b):=by
  rw [num_enc (Int.mul_ne_zero (den_int a) (den_int b)),← Rat.divInt_add_divInt _ _ (den_int a) (den_int b),Rat.num_divInt_den,Rat.num_divInt_den]
theorem sub_enc (a b:Rat):num (a.num * b.den - b.num * a.den) (a.den * b.den) = enc (a - b):=by
  rw [num_enc (Int.mul_ne_zero (den_int a) (den_int b)),← Rat.divInt_sub_divInt _ _ (den_int a) (den_int b),Rat.num_divInt_den,Rat.num_divInt_den]
theorem mul_enc (a b:Rat):num (a.num * b.num) (a.den * b.den) = enc (a * b):=by
  rw [num_enc (Int.mul_ne_zero (den_int a) (den_int b)),← Rat.divInt_mul_divInt,Rat.num_divInt_den,Rat.num_divInt_den]
noncomputable def Fit (M B:Nat) (r:Rat):Prop:=∃ z:Int,r * (M:Rat) = (z:Rat)∧z.natAbs ≤ B
theorem Fit.mono {M B B':Nat} {r:Rat} (h:Fit M B r) (hb:B ≤ B'):Fit M B' r:=by obtain ⟨z,e,l⟩:=h; exact ⟨z,e,Nat.le_trans l hb⟩
theorem Fit.zero (M B:Nat):Fit M B 0:=⟨0,by grind,Nat.zero_le _⟩
theorem Fit.add {M B B':Nat} {a b:Rat} (h:Fit M B a) (h':Fit M B' b):Fit M (B + B') (a + b):=by
  obtain ⟨z,e,l⟩:=h
  obtain ⟨y,e',l'⟩:=h'
  refine ⟨z + y,by rw [Rat.intCast_add]; grind,?_⟩
  have:=Int.natAbs_add_le z y
  lia
theorem Fit.scale {M B:Nat} {a:Rat} (h:Fit M B a) (k:Nat):Fit (M * k) (B * k) a:=by
  obtain ⟨z,e,l⟩:=h
  refine ⟨z * (k:Int),by rw [Rat.intCast_mul,Rat.natCast_mul,Rat.intCast_natCast]; grind,?_⟩
  rw [Int.natAbs_mul]
  exact Nat.mul_le_mul l (by omega)
theorem Fit.mul {M B M' B':Nat} {a b:Rat} (h:Fit M B a) (h':Fit M' B' b):Fit (M * M') (B * B') (a * b):=by
  obtain ⟨z,e,l⟩:=h
  obtain ⟨y,e',l'⟩:=h'
  refine ⟨z * y,by rw [Rat.intCast_mul,Rat.natCast_mul]; grind,?_⟩
  rw [Int.natAbs_mul]
  exact Nat.mul_le_mul l l'
theorem mul_den (r:Rat):r * (r.den:Rat) = (r.num:Rat):=by
  have h:(r.den:Rat) ≠ 0:=fun z => r.den_nz (Rat.natCast_eq_zero_iff.mp z)
  have e:r = (r.num:Rat) / (r.den:Rat):=by
    conv => lhs; rw [← Rat.num_divInt_den r,Rat.divInt_eq_div]
    rfl
  generalize (r.den:Rat) = d at *
  generalize (r.num:Rat) = n at *
  grind
theorem Fit.self (r:Rat):Fit r.den r.num.natAbs r:=⟨r.num,mul_den r,Nat.le_refl _⟩
theorem Fit.size {M B:Nat} {r:Rat} (h:Fit M B r) (hM:0 < M):r.den ≤ M∧r.num.natAbs ≤ B:=by
  obtain ⟨z,e,l⟩:=h
  have h1:r.num * (M:Int) = z * (r.den:Int):=by
    apply Rat.intCast_inj.mp
    rw [Rat.intCast_mul,Rat.intCast_mul,Rat.intCast_natCast,Rat.intCast_natCast,← mul_den r,← e]
    grind
  have hd:(r.den:Int) ∣ (M:Int):=dvd_of_cop (b:=r.num) ⟨z,by rw [h1,Int.mul_comm]⟩ (by rw [Int.gcd_comm]; exact r.reduced)
  have hdn:r.den ∣ M:=Int.ofNat_dvd.mp hd
  refine ⟨Nat.le_of_dvd hM hdn,Nat.le_trans ?_ l⟩
  obtain ⟨m,hm⟩:=hdn
  have hm0:0 < m:=by
    rcases Nat.eq_zero_or_pos m with z0 | z0
    · rw [z0,Nat.mul_zero] at hm; lia
    · exact z0
  have h2:r.num * (m:Int) = z:=by
    rw [hm,Int.natCast_mul] at h1
    have:(r.den:Int) * (r.num * (m:Int)) = (r.den:Int) * z:=by rw [Int.mul_left_comm,h1,Int.mul_comm]
    exact Int.eq_of_mul_eq_mul_left (den_int r) this
  rw [← h2,Int.natAbs_mul]
  exact Nat.le_mul_of_pos_right _ (by lia)
theorem Fit.sz {M B n:Nat} {r:Rat} (h:Fit M B r) (hM:0 < M) (h1:M < 2 ^ n) (h2:B < 2 ^ n):Sz n r:=by
  obtain ⟨a,b⟩:=h.size hM
  exact ⟨Nat.lt_of_le_of_lt b h2,Nat.lt_of_le_of_lt (by show (r.den:Int).natAbs ≤ M; lia) h1⟩
end L3

namespace L3
open PySem L2 PySem.Spec PyProof.Rows
noncomputable def co (l:List Rat) (i:Nat):Rat:=l.getD i 0
noncomputable def sh (i:Nat) (g:Nat→Rat) (k:Nat):Rat:=if i ≤ k then g (k - i) else 0
noncomputable def cv:Nat→(Nat→Rat)→(Nat→Rat)→Nat→Rat
  | 0,_,_,_ => 0
  | N + 1,q,g,k => cv N q g k + q N * sh N g k
theorem co_out {l:List Rat} {i:Nat} (h:l.length ≤ i):co l i = 0:=by
  unfold co; rw [List.getD_eq_getElem?_getD,List.getElem?_eq_none h]; rfl
theorem co_set {l:List Rat} {i:Nat} {v:Rat} (h:i < l.length) (k:Nat):co (l.set i v) k = if k = i then v else co l k:=by
  unfold co
  rw [List.getD_eq_getElem?_getD,List.getD_eq_getElem?_getD,List.getElem?_set]
  by_cases e:k = i
  · subst e; simp [h]
  · rw [if_neg (fun z => e z.symm),if_neg e]
theorem co_ext {l m:List Rat} (hl:l.length = m.length) (h:∀ i,co l i = co m i):l = m:=by
  refine List.ext_getElem hl fun i h1 h2 => ?_
  have:=h i
  unfold co at this
  rw [List.getD_eq_getElem?_getD,List.getD_eq_getElem?_getD,List.getElem?_eq_getElem h1,List.getElem?_eq_getElem h2] at this
  exact this
noncomputable def trL (l:List Rat):Nat→Nat
  | 0 => 0
  | k + 1 => if co l k = 0 then trL l k else k + 1
noncomputable def trR (l:List Rat):List Rat:=l.take (trL l l.length)
theorem trL_le (l:List Rat):∀ k,trL l k ≤ k
  | 0 => Nat.le_refl _
  | k + 1 => by unfold trL; split; exact Nat.le_succ_of_le (trL_le l k); exact Nat.le_refl _
theorem trL_zero (l:List Rat):∀ k i,trL l k ≤ i→i < k→co l i = 0
  | 0,i,_,h => by lia
  | k + 1,i,h1,h2 => by
    unfold trL at h1
    split at h1
    · rename_i hz
      by_cases e:i = k
      · rw [e]; exact hz
      · exact trL_zero l k i h1 (by lia)
    · lia
theorem trL_last (l:List Rat):∀ k,0 < trL l k→co l (trL l k - 1) ≠ 0
  | 0,h => by simp [trL] at h
  | k + 1,h => by
    by_cases hz:co l k = 0
    · have e:trL l (k + 1) = trL l k:=by rw [trL,if_pos hz]
      rw [e] at h ⊢
      exact trL_last l k h
    · have e:trL l (k + 1) = k + 1:=by rw [trL,if_neg hz]
      rw [e]; exact hz
theorem co_take {l:List Rat} {n:Nat} (k:Nat):co (l.take n) k = if k < n then co l k else 0:=by
  unfold co
  rw [List.getD_eq_getElem?_getD,List.getD_eq_getElem?_getD,List.getElem?_take]
  split <;> rfl
theorem len_trR (l:List Rat):(trR l).length = trL l l.length:=by unfold trR; rw [List.length_take,Nat.min_eq_left (trL_le _ _)]
theorem co_trR (l:List Rat) (k:Nat):co (trR l) k = co l k:=by
  unfold trR
  rw [co_take]
  split
  · rfl
  · by_cases h:k < l.length
    · rw [trL_zero l l.length k (by lia) h]
    · rw [co_out (by lia)]
noncomputable def Trim (l:List Rat):Prop:=0 < l.length→co l (l.length - 1) ≠ 0
theorem trim_trR (l:List Rat):Trim (trR l):=fun h => by
  rw [co_trR]
  rw [len_trR] at h ⊢
  exact trL_last l _ h
theorem Trim.ext {l m:List Rat} (hl:Trim l) (hm:Trim m) (h:∀ i,co l i = co m i):l = m:=by
  refine co_ext ?_ h
  rcases Nat.lt_trichotomy l.length m.length with z | z | z
  · exact absurd (by rw [← h]; exact co_out (by omega)) (hm (by lia))
  · exact z
  · exact absurd (by rw [h]; exact co_out (by omega)) (hl (by lia))
theorem trimLen_enc (l:List Rat):∀ k,k ≤ l.length→trimLen (l.map enc) k = trL l k
  | 0,_ => rfl
  | k + 1,h => by
    have e:(l.map enc).getD k zD = enc (co l k):=by
      unfold co
      rw [List.getD_eq_getElem?_getD,List.getD_eq_getElem?_getD,List.getElem?_map,List.getElem?_eq_getElem (by lia)]; rfl
    unfold trimLen trL
    rw [e,isZ_enc,trimLen_enc l k (by lia)]
    by_cases hz:co l k = 0 <;> simp [hz]
theorem trimD_enc (l:List Rat):trimD (l.map enc) = (trR l).map enc:=by
  unfold trimD trR
  rw [List.length_map,trimLen_enc l _ (Nat.le_refl _),List.map_take]
end L3

namespace L3
open PySem L2 PySem.Spec PyProof.Rows
theorem forD_off {T:Tgt} {G:GS} (I:Nat→Sl→Sx→Prop):∀ (ds:List D) (o:Nat) (δ:Sl) (s:Sx),I o δ s →
    (∀ j d δ s,ds[j]? = some d→I (o + j) δ s→∃ δ1 δ' s',T.run d δ = some δ1∧G δ1 s = some (.next δ',s')∧I (o + j + 1) δ' s')→∃ δ' s',forD T G ds δ s = some (.next δ',s')∧I (o + ds.length) δ' s'
  | [],o,δ,s,h,_ => ⟨δ,s,rfl,h⟩
  | d :: ds,o,δ,s,h,step => by
    obtain ⟨δ1,δ2,s2,e1,e2,h2⟩:=step 0 d δ s rfl h
    obtain ⟨δ3,s3,e3,h3⟩:=forD_off I ds (o + 1) δ2 s2 h2 fun j d' δ s hd hi => by
      obtain ⟨a,b,c,x,y,z⟩:=step (j + 1) d' δ s (by simpa using hd) (by rw [show o + (j + 1) = o + 1 + j by lia]; exact hi)
      exact ⟨a,b,c,x,y,by rw [show o + 1 + j + 1 = o + (j + 1) + 1 by lia]; exact z⟩
    refine ⟨δ3,s3,?_,by rw [List.length_cons,show o + (ds.length + 1) = o + 1 + ds.length by lia]; exact h3⟩
    show ((T.run d δ).bind fun δ1 => _) = _
    rw [e1]
    show (match G δ1 s with | some (.next δ',s') => forD T G ds δ' s' | some (.cnt δ',s') => forD T G ds δ' s' | some (.brk δ',s') => some (.next δ',s') | some (.ret r,s') => some (.ret r,s') | some (.own r,s') => some (.own r,s') | none => none) = _
    rw [e2]
    exact e3
theorem forD_at {T:Tgt} {G:GS} (I:Nat→Sl→Sx→Prop) (ds:List D) (δ:Sl) (s:Sx) (h:I 0 δ s)
    (step:∀ j d δ s,ds[j]? = some d→I j δ s→∃ δ1 δ' s',T.run d δ = some δ1∧G δ1 s = some (.next δ',s')∧I (j + 1) δ' s'):∃ δ' s',forD T G ds δ s = some (.next δ',s')∧I ds.length δ' s':=by
  obtain ⟨a,b,e,i⟩:=forD_off I ds 0 δ s h fun j d δ s hd hi => by
    rw [Nat.zero_add] at hi ⊢
    exact step j d δ s hd hi
  rw [Nat.zero_add] at i
  exact ⟨a,b,e,i⟩
theorem enumD_get {xs:List D} {j:Nat} {d:D} (h:(enumD xs)[j]? = some d):∃ x,xs[j]? = some x∧d = .tuple [.int (j:Int),x]:=by
  unfold enumD at h
  rw [List.getElem?_map,List.getElem?_zipIdx] at h
  cases e:xs[j]? with
  | none => rw [e] at h; simp at h
  | some x => rw [e] at h; simp at h; exact ⟨x,rfl,h.symm⟩
theorem enumD_len (xs:List D):(enumD xs).length = xs.length:=by simp [enumD]
theorem rng_get {n j:Nat} {d:D} (h:(rng 0 n)[j]? = some d):j < n∧d = .int (j:Int):=by
  unfold rng at h
  rw [List.getElem?_map] at h
  by_cases hj:j < n
  · rw [List.getElem?_range hj] at h
    simp only [Option.map_some,Option.some.injEq] at h
    refine ⟨hj,?_⟩
    rw [← h]
    congr 1
    lia
  · rw [List.getElem?_eq_none (by simpa using hj)] at h; simp at h
theorem co_get {l:List Rat} {j:Nat} (h:j < l.length):(l.map enc)[j]? = some (enc (co l j)):=by
  unfold co
  rw [List.getElem?_map,List.getD_eq_getElem?_getD,List.getElem?_eq_getElem h]; rfl
theorem co_of_get {l:List Rat} {j:Nat} {d:D} (h:(l.map enc)[j]? = some d):j < l.length∧d = enc (co l j):=by
  by_cases hj:j < l.length
  · rw [co_get hj] at h; cases h; exact ⟨hj,rfl⟩
  · rw [List.getElem?_eq_none (by simpa using hj)] at h; cases h
theorem at_co {l:List Rat} {j:Nat} (h:j < l.length):L2.atI (l.map enc) (j:Int) = some (enc (co l j)):=atI_nat (co_get h)
theorem ix_seq {d:D} {xs:List D} (h:seqOf d = some xs) (i:Int):gIx d (.int i) = L2.atI xs i:=by
  cases d with
  | list ys => cases h; rfl
  | tuple ys => cases h; rfl
  | _ => cases h
theorem len_seq {d:D} {xs:List D} (h:seqOf d = some xs):gLen d = some (.int xs.length):=by
  cases d with
  | list ys => cases h; rfl
  | tuple ys => cases h; rfl
  | _ => cases h
theorem put_enc {l:List Rat} {j:Nat} {v:Rat} (h:j < l.length):putAt (l.map enc) (.int (j:Int)) (enc v) = some ((l.set j v).map enc):=by
  unfold putAt ixN
  simp only [List.length_map]
  rw [if_pos (by lia),if_pos (by lia)]
  simp [List.map_set]
theorem aCons_run {F:FE} {FL:FA} {δ:Sl} {s s1 s2:Sx} {d:D} {ds:List D} (h:F δ s = some (d,s1)) (h':FL δ s1 = some (ds,s2)):aCons F FL δ s = some (d :: ds,s2):=by
  unfold aCons; rw [h]; simp only [Option.bind_some,h',Option.map_some]
theorem f2_run {g:G2} {Fa Fb:FE} {δ:Sl} {s s1 s2:Sx} {a b d:D} (h:Fa δ s = some (a,s1)) (h':Fb δ s1 = some (b,s2)) (e:g a b = some d):f2 g Fa Fb δ s = some (d,s2):=by
  unfold f2; rw [h]; simp only [Option.bind_some,h',Option.map_some,e]
theorem f1_run {g:G1} {Fa:FE} {δ:Sl} {s s1:Sx} {a d:D} (h:Fa δ s = some (a,s1)) (e:g a = some d):f1 g Fa δ s = some (d,s1):=by
  unfold f1; rw [h]; simp only [Option.bind_some,Option.map_some,e]
theorem sPut_run {i:Nat} {Fi F:FE} {δ:Sl} {s s1 s2:Sx} {v k:D} {xs ys:List D} (h:F δ s = some (v,s1)) (h':Fi δ s1 = some (k,s2)) (hi:δ[i]? = some (.own xs)) (e:putAt xs k v = some ys):sPut i Fi F δ s = some (.next (δ.set i (.own ys)),s2):=by
  unfold sPut; rw [h]; simp only [Option.bind_some,h',hi,e,Option.map_some]
theorem sSet_run {i:Nat} {F:FE} {δ:Sl} {s s1:Sx} {v:D} (h:F δ s = some (v,s1)):sSet i F δ s = some (.next (δ.set i (.val v)),s1):=by
  unfold sSet; rw [h]; rfl
theorem add_int (a b:Nat):gAdd (.int (a:Int)) (.int (b:Int)) = some (.int ((a + b:Nat):Int)):=by
  simp [gAdd,gAddI,gI]
theorem all_enc {n:Nat} {l:List Rat} (h:∀ k,Sz n (co l k)):AllN n (l.map enc):=fun d hd => by
  obtain ⟨i,hi⟩:=List.getElem?_of_mem hd
  obtain ⟨_,rfl⟩:=co_of_get hi
  exact (h i).isN
end L3

namespace L3
open PySem L2 PySem.Spec PyProof.Rows
section
variable {X:Cx}
end
end L3

namespace L3
open PySem L2 PySem.Spec PyProof.Rows
noncomputable abbrev GC:=List D→Sx→Option (Ce × Sx)
noncomputable abbrev FC:=Sl→Sx→Option (Ce × Sx)
noncomputable def AftC (K:PySem.W.Frag) (Z:Zt) (A:List Addr) (H:Hp) (s':Sx) (Q:VK):Ce→Prop
  | .val d => ∀ v H',Ext Z H H'→StateAt Z H' s'→Rep K Z H' A v d→Q v H'
  | .own xs => ∀ p vs H',Ext Z H H'→StateAt Z H' s'→H p = none→H' p = some (.lst vs)→Reps K Z H' (p :: A) vs xs→Q (.ref p) H'
  | .non => False
inductive spC (K:PySem.W.Frag) (g:GC) (vs:List V) (H:Hp) (Q:VK) (_E:XK):Prop
  | mk (Z:Zt) (A:List Addr) (ds:List D) (s:Sx) (c:Ce) (s':Sx) (h0:Reps K Z H A vs ds) (h1:(∀ q ∈ A,(∃ o,H q = some o)∧NotZ Z q)) (h2:StateAt Z H s) (h3:g ds s = some (c,s')) (h4:AftC K Z A H s' Q c)
inductive CalC (P:Program) (w:World) (K:PySem.W.Frag) (mg:Str→Option Value) (base:Heap) (x:Str) (ps:List Str) (k:Nat) (g:GC):Prop
  | mk (f:Addr) (fd:FuncData) (h0:FnOk P w K mg base CX0 k f fd ps (spC K g)) (h1:mg x = some (.ref f)) (h2:PySem.W.keepIn K (.ref f) = true) (h3:Binds K fd ps [])
section
variable {X:Cx} {st:Stmt} {e:Expr} {es:List Expr} {F:FE} {Fo:FO} {Fc:FC} {FL:FA} {x y:Str} {i:Nat} {p pos pos':Pos}
inductive tDCK (K:PySem.W.Frag) (Z:Zt) (A:List Addr) (F:FC) (σ:L2.St) (H:Hp) (Q:VK):Prop
  | mk (B:Hp) (ow:Ow) (δ:Sl) (s:Sx) (c:Ce) (s':Sx) (h0:RepS K B Z A ow σ δ H) (h1:StateAt Z H s) (h2:F δ s = some (c,s')) (h3:AftC K Z (A ++ ow.map (·.2)) H s' Q c)
noncomputable abbrev tDC (X:Cx) (Z:Zt) (A:List Addr) (F:FC):TE:=tDCK X.K Z A F
structure DC (X:Cx) (e:Expr) (F:FC):Prop where
  go:∀ Z A,PE X e (tDC X Z A F)
end
end L3

namespace L3
open PySem L2 PySem.Spec PyProof.Rows
section
variable {X:Cx} {e e2:Expr} {Fa Fb:FE} {st:Stmt} {p p2 pos pos2:Pos}
end
end L3

namespace L3
open PySem L2 PySem.Spec PyProof.Rows
section
variable {X:Cx} {e e2 r t:Expr} {Fa Fb F Fr:FE} {Ft:FT} {T:Tgt} {x:Str} {px apos cpos pos pos2 pos3:Pos} {i:Nat}
end
end L3

namespace L3
open PySem L2 PySem.Spec PyProof.Rows
section
variable {X:Cx}
end
end L3

namespace L3
open PySem L2 PySem.Spec PyProof.Rows
section
variable {X:Cx} {tg e:Expr} {F:FE} {p pos:Pos}
noncomputable def iBackF (F:FE):FI:=fun δ s => (F δ s).bind fun p => (seqOf p.1).map fun xs => (xs.reverse,p.2)
theorem di_back (hm:X.mg "reversed" = none) (ha:DE X e F) (hg:Gl X "reversed":=by rfl) (hs:starEach [e] X.env = [(false,eval e X.env)]:=by rfl):DI X tg (.Call (.Name "reversed" p) [e] [] pos) (iBackF F) :=
  ⟨fun Z A => PI.imp (pi_back hg hm (pa_cons (ha Z A) pa_nil hs) hs) fun σ H R x__157 => by
    obtain ⟨B,ow,δ,s,ds,s',RS,S,ee,q⟩:=x__157
    unfold iBackF at ee
    refine bnd2 ee fun d s1 e1 ee => mpp1 ee fun xs e3 ee => ?_
    cases ee
    refine ⟨B,ow,δ,s,d,s1,RS,S,e1,fun v H1 x1 S1 r => ?_⟩
    obtain ⟨k1,a1,vs1,rfl,sq1,rs1,st1⟩:=rep_sq r e3
    refine ⟨k1,a1,vs1,rfl,sq1,q _ H1 x1 S1 fun ow' H' st f S' hA i => ?_⟩
    have ln:=rs1.length
    refine ⟨fun dd hd => ?_,fun hi => (show vs1.length ≤ i by rw [List.length_reverse] at hi; lia)⟩
    have hi:i < xs.length:=by
      have:=(List.getElem?_eq_some_iff.mp hd).1
      rwa [List.length_reverse] at this
    rw [List.getElem?_reverse hi] at hd
    obtain ⟨u,h1,q1⟩:=(rs1.frm f).get hd
    refine ⟨⟨st1 ow' H' f,by lia⟩,fun x H3 x__158 => ?_⟩
    obtain ⟨e4,e5⟩:=x__158
    subst e4
    rw [ln,h1] at e5
    cases e5
    exact ⟨Ext.refl _,S',q1⟩⟩
end
end L3

namespace L3
open PySem L2 PySem.Spec PyProof.Rows
theorem RepW.sq {K:PySem.W.Frag} {Z:Zt} {H:Hp} {A:List Addr} {v:V} {d:D} {xs:List D} (r:RepW K Z H A v d) (e:seqOf d = some xs):∃ k a vs,v = .ref a∧SqK k K H a vs∧Reps K Z H A vs xs:=by
  cases d with
  | list ys =>
    cases e
    obtain ⟨p,vs,ev,sq,_,rs⟩:=r.list
    exact ⟨true,p,vs,ev,sq,rs⟩
  | tuple ys =>
    cases e
    obtain ⟨p,vs,ev,sq,rs⟩:=r.tuple
    exact ⟨false,p,vs,ev,sq,rs⟩
  | _ => cases e
theorem Reps.of_get {K:PySem.W.Frag} {Z:Zt} {H:Hp} {A:List Addr} {vs:List V} {ds:List D} (hl:vs.length = ds.length) (h:∀ (i:Nat) v d,vs[i]? = some v→ds[i]? = some d→Rep K Z H A v d):Reps K Z H A vs ds:=by
  induction vs generalizing ds with
  | nil =>
    cases ds with
    | nil => exact .nil
    | cons d ds => cases hl
  | cons v vs ih =>
    cases ds with
    | nil => cases hl
    | cons d ds => exact .cons (h 0 v d rfl rfl) (ih (Nat.succ.inj hl) fun i v d h1 h2 => h (i + 1) v d (by simpa using h1) (by simpa using h2))
section
variable {X:Cx} {e e2:Expr} {Fa Fb:FE} {p pos p2 pos2:Pos}
noncomputable def oZip (Fa Fb:FE):FO:=fun δ s => (Fa δ s).bind fun p => (Fb δ p.2).bind fun q => (seqOf p.1).bind fun xs => (seqOf q.1).map fun ys => ((xs.zip ys).map fun z => PyData.tuple [z.1,z.2],q.2)
theorem df_lzip (hc:X.calm = true) (hm:X.mg "list" = none) (hm2:X.mg "zip" = none) (ha:DW X e Fa) (hb:DW X e2 Fb) (hg:Gl X "list":=by rfl) (hg2:Gl X "zip":=by rfl)
    (hs:starEach [.Call (.Name "zip" p2) [e,e2] [] pos2] X.env = (false,eval (.Call (.Name "zip" p2) [e,e2] [] pos2) X.env) :: starEach [] X.env:=by rfl)
    (hs2:starEach [e,e2] X.env = [(false,eval e X.env),(false,eval e2 X.env)]:=by rfl) (hs3:starEach [e2] X.env = [(false,eval e2 X.env)]:=by rfl):DF X (.Call (.Name "list" p) [.Call (.Name "zip" p2) [e,e2] [] pos2] [] pos) (oZip Fa Fb) :=
  ⟨fun Z A => PE.imp (pe_lzip hc hg hm hg2 hm2 (pa_cons (ha Z A) (pa_cons (hb Z A) pa_nil hs3) (by rw [hs2,hs3])) hs hs2 hs3) fun σ H Q x__159 => by
    obtain ⟨B,ow,δ,s,ds,s',RS,S,ee,q⟩:=x__159
    unfold oZip at ee
    refine bnd2 ee fun d s1 e1 ee => bnd2 ee fun d2 s2 e2 ee => bnd1 ee fun xs e3 ee => mpp1 ee fun ys e4 ee => ?_
    cases ee
    refine ⟨B,ow,δ,s,d,s1,RS,S,e1,fun v H1 x1 S1 r => ⟨B,ow,δ,s1,d2,s2,RS.mono x1,S1,e2,fun v2 H2 x2 S2 r2 => ?_⟩⟩
    obtain ⟨k1,a1,vs1,rfl,sq1,rs1⟩:=RepW.sq (r.ext x2) e3
    obtain ⟨k2,a2,vs2,rfl,sq2,rs2⟩:=RepW.sq r2 e4
    refine ⟨k1,k2,a1,a2,vs1,vs2,rfl,sq1,sq2,fun N L hN hL hNL => ?_⟩
    have hA:=((RS.mono x1).mono x2).all
    have x12:=x1.trans x2
    have ex:∀ c o,H2 c = some o→upd (laid H2 N (vs1.zip vs2)) L (.lst ((List.range (vs1.zip vs2).length).map fun j => V.ref (N + j))) c = some o:=fun c o h => by
      rw [upd_ne (ne_of_none h hL),laid_old fun j _ z => by rw [← z,hN] at h; cases h]
      exact h
    have x3:Ext Z H2 (upd (laid H2 N (vs1.zip vs2)) L (.lst ((List.range (vs1.zip vs2).length).map fun j => V.ref (N + j)))):=fun c o h _ => ex c o h
    refine q L _ _ (x12.trans x3) (fun a c h => ⟨ex _ _ (S2 a c h).1,ex _ _ (S2 a c h).2⟩) (none_of_ext x12 S2 hL) upd_same ?_
    have nL:∀ c o,H2 c = some o→c ≠ L:=fun c o h => ne_of_none h hL
    refine Reps.of_get (by rw [List.length_map,List.length_map,List.length_range,List.length_zip,List.length_zip,rs1.length,rs2.length]) fun i v dd h1 h2 => ?_
    rw [List.getElem?_map] at h1 h2
    refine mpp1 h1 fun j e5 h1 => mpp1 h2 fun z e6 h2 => ?_
    subst h1 h2
    have hi:=(List.getElem?_eq_some_iff.mp e5).1
    rw [List.length_range] at hi
    rw [List.getElem?_range hi] at e5
    cases e5
    obtain ⟨g1,g2⟩:=List.getElem?_zip_eq_some.mp e6
    obtain ⟨u1,q1,w1⟩:=rs1.get g1
    obtain ⟨u2,q2,w2⟩:=rs2.get g2
    have mv:∀ {v:V} {d:D},Rep X.K Z H2 (A ++ ow.map (·.2)) v d→Rep X.K Z (upd (laid H2 N (vs1.zip vs2)) L (.lst ((List.range (vs1.zip vs2).length).map fun j => V.ref (N + j)))) (L :: (A ++ ow.map (·.2))) v d:=fun r => r.move fun p o h n _ => ⟨ex p o h,fun m => (List.mem_cons.mp m).elim (nL p o h) n⟩
    refine .tup (vs:=[u1,u2]) ?_ (fun m => (List.mem_cons.mp m).elim (hNL i) fun m => ?_) (S2.notZ (hN i)) (.cons (mv w1) (.cons (mv w2) .nil))
    · rw [upd_ne (hNL i)]
      exact laid_at (p:=(u1,u2)) (List.getElem?_zip_eq_some.mpr ⟨q1,q2⟩)
    · obtain ⟨o,ho⟩:=hA _ m
      rw [hN] at ho; cases ho⟩
end
inductive Al (K:PySem.W.Frag) (Z:Zt) (H:Hp) (A:List Addr):L2.St→Sl→Prop
  | nil:Al K Z H A [] []
  | non {o:Option V} {σ:L2.St} {δ:Sl}:Al K Z H A σ δ→Al K Z H A (o :: σ) (.non :: δ)
  | val {v:V} {d:D} {σ:L2.St} {δ:Sl}:Rep K Z H A v d→Al K Z H A σ δ→Al K Z H A (some v :: σ) (.val d :: δ)
theorem Al.len {K:PySem.W.Frag} {Z:Zt} {H:Hp} {A:List Addr} {σ:L2.St} {δ:Sl} (h:Al K Z H A σ δ):δ.length = σ.length:=by
  induction h with
  | nil => rfl
  | non _ ih => exact congrArg (· + 1) ih
  | val _ _ ih => exact congrArg (· + 1) ih
theorem Al.get {K:PySem.W.Frag} {Z:Zt} {H:Hp} {A:List Addr} {σ:L2.St} {δ:Sl} (h:Al K Z H A σ δ):∀ (i:Nat) (d:D),δ[i]? = some (.val d)→∃ v,σ[i]? = some (some v)∧Rep K Z H A v d:=by
  induction h with
  | nil => intro i d e; cases e
  | non _ ih =>
    intro i d e
    cases i with
    | zero => cases e
    | succ i => exact ih i d e
  | val r _ ih =>
    intro i d e
    cases i with
    | zero => cases e; exact ⟨_,rfl,r⟩
    | succ i => exact ih i d e
theorem Al.own {K:PySem.W.Frag} {Z:Zt} {H:Hp} {A:List Addr} {σ:L2.St} {δ:Sl} (h:Al K Z H A σ δ):∀ (i:Nat) (xs:List D),δ[i]? = some (.own xs)→False:=by
  induction h with
  | nil => intro i d e; cases e
  | non _ ih =>
    intro i d e
    cases i with
    | zero => cases e
    | succ i => exact ih i d e
  | val r _ ih =>
    intro i d e
    cases i with
    | zero => cases e
    | succ i => exact ih i d e
theorem Al.repS {K:PySem.W.Frag} {B:Hp} {Z:Zt} {H:Hp} {A:List Addr} {σ:L2.St} {δ:Sl} (h:Al K Z H A σ δ) (ok:∀ q ∈ A,(∃ o,H q = some o)∧NotZ Z q) (ext:Ext Z B H):RepS K B Z A [] σ δ H where
  ok:=ok
  ext:=ext
  len:=Al.len h
  val:=fun i d e => let ⟨v,a,b⟩:=Al.get h i d e; ⟨v,a,by show Rep K Z H (A ++ []) v d; rw [List.append_nil]; exact b⟩
  own:=fun i xs e => (Al.own h i xs e).elim
  ows:=fun _ _ e => nomatch e
  inj:=fun _ _ _ e => nomatch e
end L3

set_option maxHeartbeats 4000000
namespace Law
open PySem L2 L3 PyProof.Rows
noncomputable def top (i:Nat):Stmt:=PySem.Challenge.pw_farquotient_k05_sums_products_values.main.body.getD i (.Pass ⟨0,0,0,0⟩)
noncomputable abbrev s__wall:Stmt:=top 0
noncomputable abbrev s_greatest_divisor:Stmt:=top 6
noncomputable abbrev s_leapt:Stmt:=top 7
noncomputable abbrev s_number:Stmt:=top 8
noncomputable abbrev s_plus:Stmt:=top 9
noncomputable abbrev s_minus:Stmt:=top 10
noncomputable abbrev s_summed:Stmt:=top 11
noncomputable abbrev s_times:Stmt:=top 12
noncomputable abbrev s_trimmed:Stmt:=top 15
noncomputable abbrev s_paired:Stmt:=top 16
noncomputable abbrev s_sum_in:Stmt:=top 17
noncomputable abbrev s_less_in:Stmt:=top 18
noncomputable abbrev s_product_in:Stmt:=top 19
noncomputable abbrev s_value_in:Stmt:=top 20
noncomputable abbrev s_poly_sum:Stmt:=top 22
noncomputable abbrev s_poly_less:Stmt:=top 23
noncomputable abbrev s_poly_product:Stmt:=top 24
noncomputable abbrev s_value_at:Stmt:=top 25
noncomputable abbrev s__law_begin:Stmt:=top 27
noncomputable abbrev s__law_take:Stmt:=top 28
noncomputable abbrev s__law_same:Stmt:=top 29
noncomputable abbrev s__law_part:Stmt:=top 30
noncomputable abbrev s__law_plus:Stmt:=top 31
noncomputable abbrev s__law_times:Stmt:=top 32
noncomputable abbrev s__law_number:Stmt:=top 33
noncomputable abbrev s__law_small:Stmt:=top 34
noncomputable abbrev s__law_trimmed:Stmt:=top 35
noncomputable abbrev s__law_product:Stmt:=top 36
noncomputable abbrev s__law_tens:Stmt:=top 37
noncomputable abbrev s__law_great:Stmt:=top 38
noncomputable abbrev s__law_any_number:Stmt:=top 39
noncomputable abbrev s__law_poly:Stmt:=top 40
noncomputable abbrev s__law_sum:Stmt:=top 41
noncomputable abbrev s__law_scaled:Stmt:=top 42
noncomputable abbrev s__law_at:Stmt:=top 43
noncomputable abbrev s__law_handed:Stmt:=top 44
noncomputable abbrev s__law_little:Stmt:=top 45
noncomputable abbrev s__law_pair:Stmt:=top 46
noncomputable abbrev s_law:Stmt:=top 47
noncomputable abbrev s_FractionField___init__:Stmt:=inClass (top 14) 0
noncomputable abbrev s_FractionField_added:Stmt:=inClass (top 14) 1
noncomputable abbrev s_FractionField_lessened:Stmt:=inClass (top 14) 2
noncomputable abbrev s_FractionField_multiplied:Stmt:=inClass (top 14) 3
noncomputable abbrev s_FractionField_divided:Stmt:=inClass (top 14) 4
noncomputable abbrev s_FractionField_simplest:Stmt:=inClass (top 14) 5
section
variable {P:Program} {w:World} {K:PySem.W.Frag} {mg:Str→Option Value} {base:Heap}
inductive Is (K:PySem.W.Frag) (mg:Str→Option Value) (x:Str) (st:Stmt):Prop
  | mk (f:Addr) (fd:FuncData) (h0:Fun K x x st f fd) (h1:mg x = some (.ref f))
inductive FD (K:PySem.W.Frag) (x:Str) (st:Stmt):Prop
  | mk {f:Addr} {od an:Option Addr} {sl:Array (Option Value)} {oc kV dc pm cd ct:Value} (a:PySem.W.nsIn K mainGlobals x = some (some (.ref f))) (l:K.lookup f = some ⟨oc,od,.func (PySem.W.fnOf x x (defArgs st) (defBody st) (defScope st) .none kV dc pm an cd ct),sl⟩) (c:PySem.W.codeIn K cd x = true) (k:PySem.W.keepIn K (.ref f) = true):FD K x st
theorem FD.is {h:Heap} {x:Str} {st:Stmt} (X:K.In h) (G:h.Ns mainGlobals mg) (d:FD K x st):Is K mg x st:=by
  cases d with
  | mk a l c k => exact ⟨_,_,fun_mk (st:=st) l c k,PySem.W.mg_of X G a⟩
inductive MD (K:PySem.W.Frag) (C:Addr) (x q:Str) (st:Stmt):Prop
  | mk {f:Addr} {od an:Option Addr} {sl:Array (Option Value)} {oc kV dc pm cd ct:Value} (a:PySem.W.findIn K (.ref C) x = some (some (.ref f))) (i:PySem.W.isFn K (.ref f) = true) (l:K.lookup f = some ⟨oc,od,.func (PySem.W.fnOf x q (defArgs st) (defBody st) (defScope st) .none kV dc pm an cd ct),sl⟩) (c:PySem.W.codeIn K cd q = true) (k:PySem.W.keepIn K (.ref f) = true):MD K C x q st
theorem MD.is {C:Addr} {y x q:Str} {st:Stmt} (aC:PySem.W.nsIn K mainGlobals y = some (some (.ref C))) (cl:Cls K C) (d:MD K C x q st):IsM K y x q st:=by
  cases d with
  | mk a i l c k => exact ⟨C,_,_,aC,cl,⟨a,i,k⟩,fun_mk (st:=st) l c k⟩
theorem MD.init {h:Heap} {C:Addr} {y q:Str} {st:Stmt} {fs:List Str} (X:K.In h) (G:h.Ns mainGlobals mg) (aC:PySem.W.nsIn K mainGlobals y = some (some (.ref C))) (cl:Cls K C) (mk:PySem.W.makesIn K C = true) (kc:PySem.W.keepIn K (.ref C) = true) (na:∀ x ∈ fs,NoAttr K C x) (d:MD K C "__init__" q st):IsI K mg y q st fs:=by
  cases d with
  | mk a i l c k => exact ⟨C,_,_,aC,PySem.W.mg_of X G aC,⟨mk,a,i,kc⟩,cl,na,fun_mk (st:=st) l c k⟩
noncomputable def gI_FractionField:List D→Option (List D):=fun ds => match ds with | [] => some [(.tuple [.int 0,.int 1]),(.tuple [.int 1,.int 1])] | _ => none
theorem sc_FractionField___init__:FnScope ["self"] ["self"] (defScope s_FractionField___init__):=⟨rfl,rfl,rfl,by decide +kernel,rfl,by decide +kernel,by decide +kernel⟩
theorem ok_FractionField___init__ (hf:IsI K mg "FractionField" "FractionField.__init__" s_FractionField___init__ ["nought","unit"]) (v_NOUGHT:CstV K mg "NOUGHT" (.tuple [.int 0,.int 1])) (v_UNIT:CstV K mg "UNIT" (.tuple [.int 1,.int 1])):KCal P w K mg base "FractionField" 1 ["nought","unit"] gI_FractionField:=by
  obtain ⟨C,f,fd,kC,hm,M,cl,na,F⟩:=hf
  obtain ⟨w_NOUGHT,u_NOUGHT,m_NOUGHT,r_NOUGHT,p_NOUGHT⟩:=v_NOUGHT
  obtain ⟨w_UNIT,u_UNIT,m_UNIT,r_UNIT,p_UNIT⟩:=v_UNIT
  refine initOk kC hm M F sc_FractionField___init__ (F.binds fun _ _ _ _ _ _ us hl => by obtain ⟨a0,rfl⟩:=len1 (show us.length = 1 from hl); rfl) (by decide) (fun xs hx => match xs,hx with | [_,_],_ => by first | rfl | with_unfolding_all rfl | simp +decide [putAll,putF]) (fun ds fds e => ?_) (fun cdv A outer s H E => (is_cons cl (na "nought" (by simp)) (pv 0) (sv_glob m_NOUGHT r_NOUGHT) (is_cons cl (na "unit" (by simp)) (pv 0) (sv_glob m_UNIT r_UNIT) is_nil))) (fun Z H A p ws ds fds rs e => ?_)
  · unfold gI_FractionField at e
    split at e
    · rfl
    · cases e
  · unfold gI_FractionField at e
    split at e
    · cases e
      cases rs
      exact ⟨[w_NOUGHT,w_UNIT],rfl,rfl,(.cons (p_NOUGHT _ _ _) (.cons (p_UNIT _ _ _) .nil))⟩
    · cases e
noncomputable def g_leapt:GF:=fun _ _ => none
theorem ok_leapt (hf:Is K mg "leapt" s_leapt):Cal P w K mg base "leapt" ["one","other"] 1 g_leapt:=by
    obtain ⟨f,fd,F,hm⟩:=hf
    exact ⟨f,fd,⟨fun _ _ _ _ h => (spD_none h).elim,fun _ _ _ _ _ _ _ _ _ _ _ _ _ h => (spD_none h).elim⟩,hm,F.kp,F.binds fun _ _ _ _ _ _ us hl => by obtain ⟨a0,a1,rfl⟩:=len2 (show us.length = 2 from hl); rfl⟩
theorem sc_greatest_divisor:FnScope ["one","other"] ["one","other"] (defScope s_greatest_divisor):=⟨rfl,rfl,rfl,by decide +kernel,rfl,by decide +kernel,by decide +kernel⟩
noncomputable def W_greatest_divisor_1:GS:=sWhile (asB (f2 gGt (f1 gBits (fVar 1)) (fC (.int 2000)))) (sUnp (.tup [0,1]) (fCall g_leapt (aCons (fVar 0) (aCons (fVar 1) aNil))))
noncomputable def W_greatest_divisor_2:GS:=sWhile (asT (fVar 1)) (sPar 0 1 (aCons (fVar 1) (aCons (f2 gModI (fVar 0) (fVar 1)) aNil)))
noncomputable def G_greatest_divisor:GS:=(sSeq (sPar 0 1 (aCons (f1 gAbs (fVar 0)) (aCons (f1 gAbs (fVar 1)) aNil)))
  (sSeq (sIf (asB (f2 gLt (fVar 0) (fVar 1))) (sPar 0 1 (aCons (fVar 1) (aCons (fVar 0) aNil))) sNext)
  (sSeq W_greatest_divisor_1
  (sSeq W_greatest_divisor_2
  (sRet (fVar 0))))))
noncomputable def g_greatest_divisor:GF:=mkFn 2 0 G_greatest_divisor
theorem ok_greatest_divisor (hf:Is K mg "greatest_divisor" s_greatest_divisor) (h_leapt:Cal P w K mg base "leapt" ["one","other"] 1 g_leapt) (n_abs:mg "abs" = none) (c_GREAT_BITS:Cst K mg "GREAT_BITS" (.int 2000)):Cal P w K mg base "greatest_divisor" ["one","other"] 2 g_greatest_divisor:=by
  obtain ⟨f,fd,F,hm⟩:=hf
  have nd:=sc_greatest_divisor.nd
  exact ⟨f,fd,fnD F sc_greatest_divisor rfl (fun cdv A outer s H E hr => (dss_cons (ds_par (i:=0) (j:=1) nd (by decide) (da_cons (de_b1 dc_abs (by first | rfl | decide +kernel) n_abs (dv 0).w) (da_cons (de_b1 dc_abs (by first | rfl | decide +kernel) n_abs (dv 1).w) da_nil)) (by first | rfl | with_unfolding_all rfl))
      (dss_cons (ds_if (dt_cmp dlt (dv 0).w (dv 1).w (nomark _)) (dss_one (ds_par (i:=0) (j:=1) nd (by decide) (da_cons (dv 1) (da_cons (dv 0) da_nil)) (by first | rfl | with_unfolding_all rfl))) dss_nil)
      (dss_cons (ds_while (dt_cmp dgt (de_bits (dv 1).w).w (de_con c_GREAT_BITS).w (nomark _)) (dss_one (ds_asg (de_cal h_leapt hr (da_cons (dv 0) (da_cons (dv 1) da_nil))) (dg_tup (pgn_cons (i:=0) nd (pgn_cons (i:=1) nd pgn_nil))))))
      (dss_cons (ds_while (dt_tru (dv 1).w (fun _ => rfl)) (dss_one (ds_par (i:=0) (j:=1) nd (by decide) (da_cons (dv 1) (da_cons (de_op dmod_int (dv 0).w (dv 1).w) da_nil)) (by first | rfl | with_unfolding_all rfl))))
      (dss_one (ds_ret (dv 0)))))))),hm,F.kp,F.binds fun _ _ _ _ _ _ us hl => by obtain ⟨a0,a1,rfl⟩:=len2 (show us.length = 2 from hl); rfl⟩
theorem sc_number:FnScope ["top","below","divisor"] ["top","below"] (defScope s_number):=⟨rfl,rfl,rfl,by decide +kernel,rfl,by decide +kernel,by decide +kernel⟩
noncomputable def G_number:GS:=(sSeq (sSet 2 (fCall g_greatest_divisor (aCons (fVar 0) (aCons (fVar 1) aNil))))
  (sSeq (sIf (asB (f2 gLt (fVar 1) (fC (.int 0)))) (sSet 2 (f1 gNeg (fVar 2))) sNext)
  (sRet (eTup (aCons (f2 gDivI (fVar 0) (fVar 2)) (aCons (f2 gDivI (fVar 1) (fVar 2)) aNil))))))
noncomputable def g_number:GF:=mkFn 2 1 G_number
theorem ok_number (hf:Is K mg "number" s_number) (h_greatest_divisor:Cal P w K mg base "greatest_divisor" ["one","other"] 2 g_greatest_divisor):Cal P w K mg base "number" ["top","below"] 3 g_number:=by
  obtain ⟨f,fd,F,hm⟩:=hf
  have nd:=sc_number.nd
  exact ⟨f,fd,fnD F sc_number rfl (fun cdv A outer s H E hr => (dss_cons (ds_set (i:=2) nd (de_cal h_greatest_divisor hr (da_cons (dv 0) (da_cons (dv 1) da_nil))))
      (dss_cons (ds_if (dt_cmp dlt (dv 1).w (de_int).w (nomark _)) (dss_one (ds_set (i:=2) nd (de_neg (dv 2).w))) dss_nil)
      (dss_one (ds_ret (de_tup (da_cons (de_op ddiv_int (dv 0).w (dv 2).w) (da_cons (de_op ddiv_int (dv 1).w (dv 2).w) da_nil)))))))),hm,F.kp,F.binds fun _ _ _ _ _ _ us hl => by obtain ⟨a0,a1,rfl⟩:=len2 (show us.length = 2 from hl); rfl⟩
theorem sc_summed:FnScope ["top","below","other_top","other_below","shared","rest","total","shared_left"] ["top","below","other_top","other_below"] (defScope s_summed):=⟨rfl,rfl,rfl,by decide +kernel,rfl,by decide +kernel,by decide +kernel⟩
noncomputable def G_summed:GS:=(sSeq (sSet 4 (fCall g_greatest_divisor (aCons (fVar 1) (aCons (fVar 3) aNil))))
  (sSeq (sSet 5 (f2 gDivI (fVar 1) (fVar 4)))
  (sSeq (sSet 6 (f2 gAdd (f2 gMulI (fVar 0) (f2 gDivI (fVar 3) (fVar 4))) (f2 gMulI (fVar 2) (fVar 5))))
  (sSeq (sUnp (.tup [6,7]) (fCall g_number (aCons (fVar 6) (aCons (fVar 4) aNil))))
  (sRet (eTup (aCons (fVar 6) (aCons (f2 gMulI (f2 gMulI (fVar 5) (f2 gDivI (fVar 3) (fVar 4))) (fVar 7)) aNil))))))))
noncomputable def g_summed:GF:=mkFn 4 4 G_summed
theorem ok_summed (hf:Is K mg "summed" s_summed) (h_greatest_divisor:Cal P w K mg base "greatest_divisor" ["one","other"] 2 g_greatest_divisor) (h_number:Cal P w K mg base "number" ["top","below"] 3 g_number):Cal P w K mg base "summed" ["top","below","other_top","other_below"] 4 g_summed:=by
  obtain ⟨f,fd,F,hm⟩:=hf
  have nd:=sc_summed.nd
  exact ⟨f,fd,fnD F sc_summed rfl (fun cdv A outer s H E hr => (dss_cons (ds_set (i:=4) nd (de_cal h_greatest_divisor hr (da_cons (dv 1) (da_cons (dv 3) da_nil))))
      (dss_cons (ds_set (i:=5) nd (de_op ddiv_int (dv 1).w (dv 4).w))
      (dss_cons (ds_set (i:=6) nd (de_op dadd (de_op dmul_int (dv 0).w (de_op ddiv_int (dv 3).w (dv 4).w).w).w (de_op dmul_int (dv 2).w (dv 5).w).w))
      (dss_cons (ds_asg (de_cal h_number hr (da_cons (dv 6) (da_cons (dv 4) da_nil))) (dg_tup (pgn_cons (i:=6) nd (pgn_cons (i:=7) nd pgn_nil))))
      (dss_one (ds_ret (de_tup (da_cons (dv 6) (da_cons (de_op dmul_int (de_op dmul_int (dv 5).w (de_op ddiv_int (dv 3).w (dv 4).w).w).w (dv 7).w) da_nil)))))))))),hm,F.kp,F.binds fun _ _ _ _ _ _ us hl => by obtain ⟨a0,a1,a2,a3,rfl⟩:=len4 (show us.length = 4 from hl); rfl⟩
theorem sc_plus:FnScope ["one","other"] ["one","other"] (defScope s_plus):=⟨rfl,rfl,rfl,by decide +kernel,rfl,by decide +kernel,by decide +kernel⟩
noncomputable def G_plus:GS:=(sRet (fCall g_summed (aCons (f2 gIx (fVar 0) (fC (.int 0))) (aCons (f2 gIx (fVar 0) (fC (.int 1))) (aCons (f2 gIx (fVar 1) (fC (.int 0))) (aCons (f2 gIx (fVar 1) (fC (.int 1))) aNil))))))
noncomputable def g_plus:GF:=mkFn 2 0 G_plus
theorem ok_plus (hf:Is K mg "plus" s_plus) (h_summed:Cal P w K mg base "summed" ["top","below","other_top","other_below"] 4 g_summed):Cal P w K mg base "plus" ["one","other"] 5 g_plus:=by
  obtain ⟨f,fd,F,hm⟩:=hf
  have nd:=sc_plus.nd
  exact ⟨f,fd,fnD F sc_plus rfl (fun cdv A outer s H E hr => (dss_one (ds_ret (de_cal h_summed hr (da_cons (de_ix (dv 0).w (de_int).w (fun _ _ => rfl)) (da_cons (de_ix (dv 0).w (de_int).w (fun _ _ => rfl)) (da_cons (de_ix (dv 1).w (de_int).w (fun _ _ => rfl)) (da_cons (de_ix (dv 1).w (de_int).w (fun _ _ => rfl)) da_nil)))))))),hm,F.kp,F.binds fun _ _ _ _ _ _ us hl => by obtain ⟨a0,a1,rfl⟩:=len2 (show us.length = 2 from hl); rfl⟩
theorem sc_FractionField_added:FnScope ["self","one","other"] ["self","one","other"] (defScope s_FractionField_added):=⟨rfl,rfl,rfl,by decide +kernel,rfl,by decide +kernel,by decide +kernel⟩
noncomputable def G_FractionField_added:GS:=(sRet (fCall g_plus (aCons (fVar 1) (aCons (fVar 2) aNil))))
noncomputable def g_FractionField_added:GF:=mkFn 3 0 G_FractionField_added
theorem ok_FractionField_added (hf:IsM K "FractionField" "added" "FractionField.added" s_FractionField_added) (h_plus:Cal P w K mg base "plus" ["one","other"] 5 g_plus):MCal P w K mg base "FractionField" "added" 6 g_FractionField_added:=by
  obtain ⟨C,f,fd,kC,cl,me,F⟩:=hf
  have nd:=sc_FractionField_added.nd
  exact ⟨C,f,fd,["self","one","other"],kC,cl,me,fnD F sc_FractionField_added rfl (fun cdv A outer s H E hr => (dss_one (ds_ret (de_cal h_plus hr (da_cons (dv 1) (da_cons (dv 2) da_nil)))))),F.binds fun _ _ _ _ _ _ us hl => by obtain ⟨a0,a1,a2,rfl⟩:=len3 (show us.length = 3 from hl); rfl⟩
theorem sc_minus:FnScope ["one","other"] ["one","other"] (defScope s_minus):=⟨rfl,rfl,rfl,by decide +kernel,rfl,by decide +kernel,by decide +kernel⟩
noncomputable def G_minus:GS:=(sRet (fCall g_summed (aCons (f2 gIx (fVar 0) (fC (.int 0))) (aCons (f2 gIx (fVar 0) (fC (.int 1))) (aCons (f1 gNeg (f2 gIx (fVar 1) (fC (.int 0)))) (aCons (f2 gIx (fVar 1) (fC (.int 1))) aNil))))))
noncomputable def g_minus:GF:=mkFn 2 0 G_minus
theorem ok_minus (hf:Is K mg "minus" s_minus) (h_summed:Cal P w K mg base "summed" ["top","below","other_top","other_below"] 4 g_summed):Cal P w K mg base "minus" ["one","other"] 5 g_minus:=by
  obtain ⟨f,fd,F,hm⟩:=hf
  have nd:=sc_minus.nd
  exact ⟨f,fd,fnD F sc_minus rfl (fun cdv A outer s H E hr => (dss_one (ds_ret (de_cal h_summed hr (da_cons (de_ix (dv 0).w (de_int).w (fun _ _ => rfl)) (da_cons (de_ix (dv 0).w (de_int).w (fun _ _ => rfl)) (da_cons (de_neg (de_ix (dv 1).w (de_int).w (fun _ _ => rfl)).w) (da_cons (de_ix (dv 1).w (de_int).w (fun _ _ => rfl)) da_nil)))))))),hm,F.kp,F.binds fun _ _ _ _ _ _ us hl => by obtain ⟨a0,a1,rfl⟩:=len2 (show us.length = 2 from hl); rfl⟩
theorem sc_FractionField_lessened:FnScope ["self","one","other"] ["self","one","other"] (defScope s_FractionField_lessened):=⟨rfl,rfl,rfl,by decide +kernel,rfl,by decide +kernel,by decide +kernel⟩
noncomputable def G_FractionField_lessened:GS:=(sRet (fCall g_minus (aCons (fVar 1) (aCons (fVar 2) aNil))))
noncomputable def g_FractionField_lessened:GF:=mkFn 3 0 G_FractionField_lessened
theorem ok_FractionField_lessened (hf:IsM K "FractionField" "lessened" "FractionField.lessened" s_FractionField_lessened) (h_minus:Cal P w K mg base "minus" ["one","other"] 5 g_minus):MCal P w K mg base "FractionField" "lessened" 6 g_FractionField_lessened:=by
  obtain ⟨C,f,fd,kC,cl,me,F⟩:=hf
  have nd:=sc_FractionField_lessened.nd
  exact ⟨C,f,fd,["self","one","other"],kC,cl,me,fnD F sc_FractionField_lessened rfl (fun cdv A outer s H E hr => (dss_one (ds_ret (de_cal h_minus hr (da_cons (dv 1) (da_cons (dv 2) da_nil)))))),F.binds fun _ _ _ _ _ _ us hl => by obtain ⟨a0,a1,a2,rfl⟩:=len3 (show us.length = 3 from hl); rfl⟩
theorem sc_times:FnScope ["one","other","left","right"] ["one","other"] (defScope s_times):=⟨rfl,rfl,rfl,by decide +kernel,rfl,by decide +kernel,by decide +kernel⟩
noncomputable def G_times:GS:=(sSeq (sPar 2 3 (aCons (fCall g_number (aCons (f2 gIx (fVar 0) (fC (.int 0))) (aCons (f2 gIx (fVar 1) (fC (.int 1))) aNil))) (aCons (fCall g_number (aCons (f2 gIx (fVar 1) (fC (.int 0))) (aCons (f2 gIx (fVar 0) (fC (.int 1))) aNil))) aNil)))
  (sRet (eTup (aCons (f2 gMulI (f2 gIx (fVar 2) (fC (.int 0))) (f2 gIx (fVar 3) (fC (.int 0)))) (aCons (f2 gMulI (f2 gIx (fVar 2) (fC (.int 1))) (f2 gIx (fVar 3) (fC (.int 1)))) aNil)))))
noncomputable def g_times:GF:=mkFn 2 2 G_times
theorem ok_times (hf:Is K mg "times" s_times) (h_number:Cal P w K mg base "number" ["top","below"] 3 g_number):Cal P w K mg base "times" ["one","other"] 4 g_times:=by
  obtain ⟨f,fd,F,hm⟩:=hf
  have nd:=sc_times.nd
  exact ⟨f,fd,fnD F sc_times rfl (fun cdv A outer s H E hr => (dss_cons (ds_par (i:=2) (j:=3) nd (by decide) (da_cons (de_cal h_number hr (da_cons (de_ix (dv 0).w (de_int).w (fun _ _ => rfl)) (da_cons (de_ix (dv 1).w (de_int).w (fun _ _ => rfl)) da_nil))) (da_cons (de_cal h_number hr (da_cons (de_ix (dv 1).w (de_int).w (fun _ _ => rfl)) (da_cons (de_ix (dv 0).w (de_int).w (fun _ _ => rfl)) da_nil))) da_nil)) (by first | rfl | with_unfolding_all rfl))
      (dss_one (ds_ret (de_tup (da_cons (de_op dmul_int (de_ix (dv 2).w (de_int).w (fun _ _ => rfl)).w (de_ix (dv 3).w (de_int).w (fun _ _ => rfl)).w) (da_cons (de_op dmul_int (de_ix (dv 2).w (de_int).w (fun _ _ => rfl)).w (de_ix (dv 3).w (de_int).w (fun _ _ => rfl)).w) da_nil))))))),hm,F.kp,F.binds fun _ _ _ _ _ _ us hl => by obtain ⟨a0,a1,rfl⟩:=len2 (show us.length = 2 from hl); rfl⟩
theorem sc_FractionField_multiplied:FnScope ["self","one","other"] ["self","one","other"] (defScope s_FractionField_multiplied):=⟨rfl,rfl,rfl,by decide +kernel,rfl,by decide +kernel,by decide +kernel⟩
noncomputable def G_FractionField_multiplied:GS:=(sRet (fCall g_times (aCons (fVar 1) (aCons (fVar 2) aNil))))
noncomputable def g_FractionField_multiplied:GF:=mkFn 3 0 G_FractionField_multiplied
theorem ok_FractionField_multiplied (hf:IsM K "FractionField" "multiplied" "FractionField.multiplied" s_FractionField_multiplied) (h_times:Cal P w K mg base "times" ["one","other"] 4 g_times):MCal P w K mg base "FractionField" "multiplied" 5 g_FractionField_multiplied:=by
  obtain ⟨C,f,fd,kC,cl,me,F⟩:=hf
  have nd:=sc_FractionField_multiplied.nd
  exact ⟨C,f,fd,["self","one","other"],kC,cl,me,fnD F sc_FractionField_multiplied rfl (fun cdv A outer s H E hr => (dss_one (ds_ret (de_cal h_times hr (da_cons (dv 1) (da_cons (dv 2) da_nil)))))),F.binds fun _ _ _ _ _ _ us hl => by obtain ⟨a0,a1,a2,rfl⟩:=len3 (show us.length = 3 from hl); rfl⟩
noncomputable def g__wall:GF:=fun _ _ => none
theorem ok__wall (hf:Is K mg "_wall" s__wall):Cal P w K mg base "_wall" ["k"] 1 g__wall:=by
    obtain ⟨f,fd,F,hm⟩:=hf
    exact ⟨f,fd,⟨fun _ _ _ _ h => (spD_none h).elim,fun _ _ _ _ _ _ _ _ _ _ _ _ _ h => (spD_none h).elim⟩,hm,F.kp,F.binds fun _ _ _ _ _ _ us hl => by obtain ⟨a0,rfl⟩:=len1 (show us.length = 1 from hl); rfl⟩
theorem sc_FractionField_divided:FnScope ["self","one","other"] ["self","one","other"] (defScope s_FractionField_divided):=⟨rfl,rfl,rfl,by decide +kernel,rfl,by decide +kernel,by decide +kernel⟩
noncomputable def G_FractionField_divided:GS:=(sDrop (fCall g__wall (aCons (fC (.int 0)) aNil)))
noncomputable def g_FractionField_divided:GF:=mkFn 3 0 G_FractionField_divided
theorem ok_FractionField_divided (hf:IsM K "FractionField" "divided" "FractionField.divided" s_FractionField_divided) (h__wall:Cal P w K mg base "_wall" ["k"] 1 g__wall):MCal P w K mg base "FractionField" "divided" 2 g_FractionField_divided:=by
  obtain ⟨C,f,fd,kC,cl,me,F⟩:=hf
  have nd:=sc_FractionField_divided.nd
  exact ⟨C,f,fd,["self","one","other"],kC,cl,me,fnD F sc_FractionField_divided rfl (fun cdv A outer s H E hr => (dss_one (ds_expr (de_cal h__wall hr (da_cons de_int da_nil))))),F.binds fun _ _ _ _ _ _ us hl => by obtain ⟨a0,a1,a2,rfl⟩:=len3 (show us.length = 3 from hl); rfl⟩
theorem sc_FractionField_simplest:FnScope ["self","numbers"] ["self","numbers"] (defScope s_FractionField_simplest):=⟨rfl,rfl,rfl,by decide +kernel,rfl,by decide +kernel,by decide +kernel⟩
noncomputable def G_FractionField_simplest:GS:=(sDrop (fCall g__wall (aCons (fC (.int 1)) aNil)))
noncomputable def g_FractionField_simplest:GF:=mkFn 2 0 G_FractionField_simplest
theorem ok_FractionField_simplest (hf:IsM K "FractionField" "simplest" "FractionField.simplest" s_FractionField_simplest) (h__wall:Cal P w K mg base "_wall" ["k"] 1 g__wall):MCal P w K mg base "FractionField" "simplest" 2 g_FractionField_simplest:=by
  obtain ⟨C,f,fd,kC,cl,me,F⟩:=hf
  have nd:=sc_FractionField_simplest.nd
  exact ⟨C,f,fd,["self","numbers"],kC,cl,me,fnD F sc_FractionField_simplest rfl (fun cdv A outer s H E hr => (dss_one (ds_expr (de_cal h__wall hr (da_cons de_int da_nil))))),F.binds fun _ _ _ _ _ _ us hl => by obtain ⟨a0,a1,rfl⟩:=len2 (show us.length = 2 from hl); rfl⟩
theorem sc_trimmed:FnScope ["nought","row","many"] ["nought","row"] (defScope s_trimmed):=⟨rfl,rfl,rfl,by decide +kernel,rfl,by decide +kernel,by decide +kernel⟩
noncomputable def W_trimmed_1:GS:=sWhile (tAndF (asB (f2 gGt (fVar 2) (fC (.int 0)))) (asB (f2 gEq (f2 gIx (fVar 1) (f2 gSubI (fVar 2) (fC (.int 1)))) (fVar 0)))) (sAug 2 gSubI (fC (.int 1)))
noncomputable def G_trimmed:GS:=(sSeq (sSet 2 (f1 gLen (fVar 1)))
  (sSeq W_trimmed_1
  (sRet (f1 gTuple (fSlL (fVar 1) pNo (pInt (fVar 2)))))))
noncomputable def g_trimmed:GF:=mkFn 2 1 G_trimmed
theorem ok_trimmed (hf:Is K mg "trimmed" s_trimmed) (n_len:mg "len" = none) (n_tuple:mg "tuple" = none):Cal P w K mg base "trimmed" ["nought","row"] 1 g_trimmed:=by
  obtain ⟨f,fd,F,hm⟩:=hf
  have nd:=sc_trimmed.nd
  exact ⟨f,fd,fnD F sc_trimmed rfl (fun cdv A outer s H E hr => (dss_cons (ds_set (i:=2) nd (de_b1 dc_len (by first | rfl | decide +kernel) n_len (dv 1).w))
      (dss_cons (ds_while (dw_and (dt_cmp dgt (dv 2).w (de_int).w (nomark _)) (dw_and1 (dt_cmp (deq hr.units) (de_ix (dv 1).w (de_op dsub_int (dv 2).w (de_int).w).w (fun _ _ => rfl)).w (dv 0).w (nomark _)))).t (dss_one (ds_aug (i:=2) nd isub_d de_int)))
      (dss_one (ds_ret (de_t1 dc_tuple (by first | rfl | decide +kernel) n_tuple (de_sliceL (dv 1) dp_no (dp_int (dv 2).w)).w)))))),hm,F.kp,F.binds fun _ _ _ _ _ _ us hl => by obtain ⟨a0,a1,rfl⟩:=len2 (show us.length = 2 from hl); rfl⟩
theorem sc_paired:FnScope ["field","one","other","many","left","right"] ["field","one","other"] (defScope s_paired):=⟨rfl,rfl,rfl,by decide +kernel,rfl,by decide +kernel,by decide +kernel⟩
noncomputable def G_paired:GS:=(sSeq (sSet 3 (f2 gMax (f1 gLen (fVar 1)) (f1 gLen (fVar 2))))
  (sSeq (sSet 4 (f2 gAdd (f1 gList (fVar 1)) (f2 gMulA (eLst (aCons (f1 (gFld ["FractionField"] "nought") (fVar 0)) aNil)) (f2 gSubI (fVar 3) (f1 gLen (fVar 1))))))
  (sSeq (sSet 5 (f2 gAdd (f1 gList (fVar 2)) (f2 gMulA (eLst (aCons (f1 (gFld ["FractionField"] "nought") (fVar 0)) aNil)) (f2 gSubI (fVar 3) (f1 gLen (fVar 2))))))
  (sRet (asL (oZip (fVar 4) (fVar 5)))))))
noncomputable def g_paired:GF:=mkFn 3 3 G_paired
theorem ok_paired (hf:Is K mg "paired" s_paired) (n_len:mg "len" = none) (n_list:mg "list" = none) (n_max:mg "max" = none) (n_zip:mg "zip" = none) (f_nought:∀ c ∈ (["FractionField"]:List Str),FCal K c "nought"):Cal P w K mg base "paired" ["field","one","other"] 1 g_paired:=by
  obtain ⟨f,fd,F,hm⟩:=hf
  have nd:=sc_paired.nd
  exact ⟨f,fd,fnD F sc_paired rfl (fun cdv A outer s H E hr => (dss_cons (ds_set (i:=3) nd (de_b2 (dc_max rfl) (by first | rfl | decide +kernel) n_max (de_b1 dc_len (by first | rfl | decide +kernel) n_len (dv 1).w).w (de_b1 dc_len (by first | rfl | decide +kernel) n_len (dv 2).w).w))
      (dss_cons (ds_set (i:=4) nd (de_op dadd (de_t1 dc_list (by first | rfl | decide +kernel) n_list (dv 1).w).w (de_op dmula (de_lst (da_cons (de_fld (cs:=["FractionField"]) f_nought (dv 0).w) da_nil)).w (de_op dsub_int (dv 3).w (de_b1 dc_len (by first | rfl | decide +kernel) n_len (dv 1).w).w).w).w))
      (dss_cons (ds_set (i:=5) nd (de_op dadd (de_t1 dc_list (by first | rfl | decide +kernel) n_list (dv 2).w).w (de_op dmula (de_lst (da_cons (de_fld (cs:=["FractionField"]) f_nought (dv 0).w) da_nil)).w (de_op dsub_int (dv 3).w (de_b1 dc_len (by first | rfl | decide +kernel) n_len (dv 2).w).w).w).w))
      (dss_one (ds_ret (DF.de (df_lzip rfl n_list n_zip (dv 4).w (dv 5).w)))))))),hm,F.kp,F.binds fun _ _ _ _ _ _ us hl => by obtain ⟨a0,a1,a2,rfl⟩:=len3 (show us.length = 3 from hl); rfl⟩
theorem sc_sum_in:FnScope ["field","one","other"] ["field","one","other"] (defScope s_sum_in):=⟨rfl,rfl,rfl,by decide +kernel,rfl,by decide +kernel,by decide +kernel⟩
noncomputable def C_sum_in_1:FO:=fComp 2 [0] (iSeq (fCall g_paired (aCons (fVar 0) (aCons (fVar 1) (aCons (fVar 2) aNil))))) (.tup [0,1]) fTrue (fMeth [("FractionField",g_FractionField_added)] "added" (fVar 2) (aCons (fVar 0) (aCons (fVar 1) aNil)))
noncomputable def G_sum_in:GS:=(sRet (fCall g_trimmed (aCons (f1 (gFld ["FractionField"] "nought") (fVar 0)) (aCons (asL C_sum_in_1) aNil))))
noncomputable def g_sum_in:GF:=mkFn 3 0 G_sum_in
theorem ok_sum_in (hf:Is K mg "sum_in" s_sum_in) (h_trimmed:Cal P w K mg base "trimmed" ["nought","row"] 1 g_trimmed) (h_paired:Cal P w K mg base "paired" ["field","one","other"] 1 g_paired) (f_nought:∀ c ∈ (["FractionField"]:List Str),FCal K c "nought") (m_added:∀ c g,([("FractionField",g_FractionField_added)]:List (Str × GF)).lookup c = some g→∃ k,k ≤ 6∧MCal P w K mg base c "added" k g):Cal P w K mg base "sum_in" ["field","one","other"] 7 g_sum_in:=by
  obtain ⟨f,fd,F,hm⟩:=hf
  have nd:=sc_sum_in.nd
  exact ⟨f,fd,fnD F sc_sum_in rfl (fun cdv A outer s H E hr => (dss_one (ds_ret (de_cal h_trimmed hr (da_cons (de_fld (cs:=["FractionField"]) f_nought (dv 0).w) (da_cons (DF.de (df_comp (N:=["left","right","field"]) (k:=2) (fr:=[0]) (compOkC (sc:=defScope s_sum_in) (N0:=["field","one","other"]) (by rfl) (by rfl) (by decide +kernel) (fun _ h => cell_has h)) (by decide) (di_seq (de_cal h_paired hr (da_cons (dv 0) (da_cons (dv 1) (da_cons (dv 2) da_nil))))) (fun _ _ _ _ => by exact (dg_tup (pgn_cons (i:=0) (show List.Nodup (α:=Str) ["left","right","field"] by decide +kernel) (pgn_cons (i:=1) (show List.Nodup (α:=Str) ["left","right","field"] by decide +kernel) pgn_nil)))) (fun _ _ _ _ => difs_nil) (fun _ _ _ _ => by exact (de_meth (tab:=[("FractionField",g_FractionField_added)]) m_added (hr.mono (by decide)) (dv 2) (da_cons (dv 0) (da_cons (dv 1) da_nil)))))) da_nil)))))),hm,F.kp,F.binds fun _ _ _ _ _ _ us hl => by obtain ⟨a0,a1,a2,rfl⟩:=len3 (show us.length = 3 from hl); rfl⟩
theorem sc_less_in:FnScope ["field","one","other"] ["field","one","other"] (defScope s_less_in):=⟨rfl,rfl,rfl,by decide +kernel,rfl,by decide +kernel,by decide +kernel⟩
noncomputable def C_less_in_1:FO:=fComp 2 [0] (iSeq (fCall g_paired (aCons (fVar 0) (aCons (fVar 1) (aCons (fVar 2) aNil))))) (.tup [0,1]) fTrue (fMeth [("FractionField",g_FractionField_lessened)] "lessened" (fVar 2) (aCons (fVar 0) (aCons (fVar 1) aNil)))
noncomputable def G_less_in:GS:=(sRet (fCall g_trimmed (aCons (f1 (gFld ["FractionField"] "nought") (fVar 0)) (aCons (asL C_less_in_1) aNil))))
noncomputable def g_less_in:GF:=mkFn 3 0 G_less_in
theorem ok_less_in (hf:Is K mg "less_in" s_less_in) (h_trimmed:Cal P w K mg base "trimmed" ["nought","row"] 1 g_trimmed) (h_paired:Cal P w K mg base "paired" ["field","one","other"] 1 g_paired) (f_nought:∀ c ∈ (["FractionField"]:List Str),FCal K c "nought") (m_lessened:∀ c g,([("FractionField",g_FractionField_lessened)]:List (Str × GF)).lookup c = some g→∃ k,k ≤ 6∧MCal P w K mg base c "lessened" k g):Cal P w K mg base "less_in" ["field","one","other"] 7 g_less_in:=by
  obtain ⟨f,fd,F,hm⟩:=hf
  have nd:=sc_less_in.nd
  exact ⟨f,fd,fnD F sc_less_in rfl (fun cdv A outer s H E hr => (dss_one (ds_ret (de_cal h_trimmed hr (da_cons (de_fld (cs:=["FractionField"]) f_nought (dv 0).w) (da_cons (DF.de (df_comp (N:=["left","right","field"]) (k:=2) (fr:=[0]) (compOkC (sc:=defScope s_less_in) (N0:=["field","one","other"]) (by rfl) (by rfl) (by decide +kernel) (fun _ h => cell_has h)) (by decide) (di_seq (de_cal h_paired hr (da_cons (dv 0) (da_cons (dv 1) (da_cons (dv 2) da_nil))))) (fun _ _ _ _ => by exact (dg_tup (pgn_cons (i:=0) (show List.Nodup (α:=Str) ["left","right","field"] by decide +kernel) (pgn_cons (i:=1) (show List.Nodup (α:=Str) ["left","right","field"] by decide +kernel) pgn_nil)))) (fun _ _ _ _ => difs_nil) (fun _ _ _ _ => by exact (de_meth (tab:=[("FractionField",g_FractionField_lessened)]) m_lessened (hr.mono (by decide)) (dv 2) (da_cons (dv 0) (da_cons (dv 1) da_nil)))))) da_nil)))))),hm,F.kp,F.binds fun _ _ _ _ _ _ us hl => by obtain ⟨a0,a1,a2,rfl⟩:=len3 (show us.length = 3 from hl); rfl⟩
theorem sc_product_in:FnScope ["field","one","other","row","high","left","low","right"] ["field","one","other"] (defScope s_product_in):=⟨rfl,rfl,rfl,by decide +kernel,rfl,by decide +kernel,by decide +kernel⟩
noncomputable def B_product_in_1:GS:=(sPut 3 (f2 gAdd (fVar 4) (fVar 6)) (fMeth [("FractionField",g_FractionField_added)] "added" (fVar 0) (aCons (f2 gIx (fVarW 3) (f2 gAdd (fVar 4) (fVar 6))) (aCons (fMeth [("FractionField",g_FractionField_multiplied)] "multiplied" (fVar 0) (aCons (fVar 5) (aCons (fVar 7) aNil))) aNil))))
noncomputable def L_product_in_2:GS:=sFor (iEnumF (fVar 2)) (.tup [6,7]) B_product_in_1
noncomputable def B_product_in_3:GS:=L_product_in_2
noncomputable def L_product_in_4:GS:=sFor (iEnumF (fVar 1)) (.tup [4,5]) B_product_in_3
noncomputable def G_product_in:GS:=(sSeq (sSetO 3 (o2 lRep (eLst (aCons (f1 (gFld ["FractionField"] "nought") (fVar 0)) aNil)) (f2 gSubI (f2 gAdd (f1 gLen (fVar 1)) (f1 gLen (fVar 2))) (fC (.int 1)))))
  (sSeq L_product_in_4
  (sSeq (sFrz 3) (sRet (fCall g_trimmed (aCons (f1 (gFld ["FractionField"] "nought") (fVar 0)) (aCons (fVar 3) aNil)))))))
noncomputable def g_product_in:GF:=mkFn 3 5 G_product_in
theorem ok_product_in (hf:Is K mg "product_in" s_product_in) (h_trimmed:Cal P w K mg base "trimmed" ["nought","row"] 1 g_trimmed) (n_enumerate:mg "enumerate" = none) (n_len:mg "len" = none) (f_nought:∀ c ∈ (["FractionField"]:List Str),FCal K c "nought") (m_added:∀ c g,([("FractionField",g_FractionField_added)]:List (Str × GF)).lookup c = some g→∃ k,k ≤ 6∧MCal P w K mg base c "added" k g) (m_multiplied:∀ c g,([("FractionField",g_FractionField_multiplied)]:List (Str × GF)).lookup c = some g→∃ k,k ≤ 5∧MCal P w K mg base c "multiplied" k g):Cal P w K mg base "product_in" ["field","one","other"] 7 g_product_in:=by
  obtain ⟨f,fd,F,hm⟩:=hf
  have nd:=sc_product_in.nd
  exact ⟨f,fd,fnD F sc_product_in rfl (fun cdv A outer s H E hr => (dss_cons (ds_setO (i:=3) nd (df_rep (de_lst (da_cons (de_fld (cs:=["FractionField"]) f_nought (dv 0).w) da_nil)).w (de_op dsub_int (de_op dadd (de_b1 dc_len (by first | rfl | decide +kernel) n_len (dv 1).w).w (de_b1 dc_len (by first | rfl | decide +kernel) n_len (dv 2).w).w).w (de_int).w).w))
      (dss_cons (ds_for (di_enum n_enumerate (dv 1)) (dg_tup (pgn_cons (i:=4) nd (pgn_cons (i:=5) nd pgn_nil))) (dss_one (ds_for (di_enum n_enumerate (dv 2)) (dg_tup (pgn_cons (i:=6) nd (pgn_cons (i:=7) nd pgn_nil))) (dss_one (ds_put (i:=3) (pv 3) (de_op dadd (dv 4).w (dv 6).w).w (de_meth (tab:=[("FractionField",g_FractionField_added)]) m_added (hr.mono (by decide)) (dv 0) (da_cons (de_ix (dvw 3) (de_op dadd (dv 4).w (dv 6).w).w (fun _ _ => rfl)) (da_cons (de_meth (tab:=[("FractionField",g_FractionField_multiplied)]) m_multiplied (hr.mono (by decide)) (dv 0) (da_cons (dv 5) (da_cons (dv 7) da_nil))) da_nil))))))))
      (dss_one (ds_frz 3 (ds_ret (de_cal h_trimmed hr (da_cons (de_fld (cs:=["FractionField"]) f_nought (dv 0).w) (da_cons (dv 3) da_nil))))))))),hm,F.kp,F.binds fun _ _ _ _ _ _ us hl => by obtain ⟨a0,a1,a2,rfl⟩:=len3 (show us.length = 3 from hl); rfl⟩
theorem sc_value_in:FnScope ["field","one","x","value","each"] ["field","one","x"] (defScope s_value_in):=⟨rfl,rfl,rfl,by decide +kernel,rfl,by decide +kernel,by decide +kernel⟩
noncomputable def B_value_in_1:GS:=(sSet 3 (fMeth [("FractionField",g_FractionField_added)] "added" (fVar 0) (aCons (fMeth [("FractionField",g_FractionField_multiplied)] "multiplied" (fVar 0) (aCons (fVar 3) (aCons (fVar 2) aNil))) (aCons (fVar 4) aNil))))
noncomputable def L_value_in_2:GS:=sFor (iBackF (fVar 1)) (.one 4) B_value_in_1
noncomputable def G_value_in:GS:=(sSeq (sSet 3 (f1 (gFld ["FractionField"] "nought") (fVar 0)))
  (sSeq L_value_in_2
  (sRet (fVar 3))))
noncomputable def g_value_in:GF:=mkFn 3 2 G_value_in
theorem ok_value_in (hf:Is K mg "value_in" s_value_in) (n_reversed:mg "reversed" = none) (f_nought:∀ c ∈ (["FractionField"]:List Str),FCal K c "nought") (m_added:∀ c g,([("FractionField",g_FractionField_added)]:List (Str × GF)).lookup c = some g→∃ k,k ≤ 6∧MCal P w K mg base c "added" k g) (m_multiplied:∀ c g,([("FractionField",g_FractionField_multiplied)]:List (Str × GF)).lookup c = some g→∃ k,k ≤ 5∧MCal P w K mg base c "multiplied" k g):Cal P w K mg base "value_in" ["field","one","x"] 7 g_value_in:=by
  obtain ⟨f,fd,F,hm⟩:=hf
  have nd:=sc_value_in.nd
  exact ⟨f,fd,fnD F sc_value_in rfl (fun cdv A outer s H E hr => (dss_cons (ds_set (i:=3) nd (de_fld (cs:=["FractionField"]) f_nought (dv 0).w))
      (dss_cons (ds_for (di_back n_reversed (dv 1)) (dg_name (i:=4) nd) (dss_one (ds_set (i:=3) nd (de_meth (tab:=[("FractionField",g_FractionField_added)]) m_added (hr.mono (by decide)) (dv 0) (da_cons (de_meth (tab:=[("FractionField",g_FractionField_multiplied)]) m_multiplied (hr.mono (by decide)) (dv 0) (da_cons (dv 3) (da_cons (dv 2) da_nil))) (da_cons (dv 4) da_nil))))))
      (dss_one (ds_ret (dv 3)))))),hm,F.kp,F.binds fun _ _ _ _ _ _ us hl => by obtain ⟨a0,a1,a2,rfl⟩:=len3 (show us.length = 3 from hl); rfl⟩
theorem sc_poly_sum:FnScope ["one","other"] ["one","other"] (defScope s_poly_sum):=⟨rfl,rfl,rfl,by decide +kernel,rfl,by decide +kernel,by decide +kernel⟩
noncomputable def G_poly_sum:GS:=(sRet (fCall g_sum_in (aCons (fMake "FractionField" ["nought","unit"] gI_FractionField aNil) (aCons (fVar 0) (aCons (fVar 1) aNil)))))
noncomputable def g_poly_sum:GF:=mkFn 2 0 G_poly_sum
theorem ok_poly_sum (hf:Is K mg "poly_sum" s_poly_sum) (h_sum_in:Cal P w K mg base "sum_in" ["field","one","other"] 7 g_sum_in) (k_FractionField:KCal P w K mg base "FractionField" 1 ["nought","unit"] gI_FractionField):Cal P w K mg base "poly_sum" ["one","other"] 8 g_poly_sum:=by
  obtain ⟨f,fd,F,hm⟩:=hf
  have nd:=sc_poly_sum.nd
  exact ⟨f,fd,fnD F sc_poly_sum rfl (fun cdv A outer s H E hr => (dss_one (ds_ret (de_cal h_sum_in hr (da_cons (de_make0 k_FractionField hr) (da_cons (dv 0) (da_cons (dv 1) da_nil))))))),hm,F.kp,F.binds fun _ _ _ _ _ _ us hl => by obtain ⟨a0,a1,rfl⟩:=len2 (show us.length = 2 from hl); rfl⟩
theorem sc_poly_less:FnScope ["one","other"] ["one","other"] (defScope s_poly_less):=⟨rfl,rfl,rfl,by decide +kernel,rfl,by decide +kernel,by decide +kernel⟩
noncomputable def G_poly_less:GS:=(sRet (fCall g_less_in (aCons (fMake "FractionField" ["nought","unit"] gI_FractionField aNil) (aCons (fVar 0) (aCons (fVar 1) aNil)))))
noncomputable def g_poly_less:GF:=mkFn 2 0 G_poly_less
theorem ok_poly_less (hf:Is K mg "poly_less" s_poly_less) (h_less_in:Cal P w K mg base "less_in" ["field","one","other"] 7 g_less_in) (k_FractionField:KCal P w K mg base "FractionField" 1 ["nought","unit"] gI_FractionField):Cal P w K mg base "poly_less" ["one","other"] 8 g_poly_less:=by
  obtain ⟨f,fd,F,hm⟩:=hf
  have nd:=sc_poly_less.nd
  exact ⟨f,fd,fnD F sc_poly_less rfl (fun cdv A outer s H E hr => (dss_one (ds_ret (de_cal h_less_in hr (da_cons (de_make0 k_FractionField hr) (da_cons (dv 0) (da_cons (dv 1) da_nil))))))),hm,F.kp,F.binds fun _ _ _ _ _ _ us hl => by obtain ⟨a0,a1,rfl⟩:=len2 (show us.length = 2 from hl); rfl⟩
theorem sc_poly_product:FnScope ["one","other"] ["one","other"] (defScope s_poly_product):=⟨rfl,rfl,rfl,by decide +kernel,rfl,by decide +kernel,by decide +kernel⟩
noncomputable def G_poly_product:GS:=(sRet (fCall g_product_in (aCons (fMake "FractionField" ["nought","unit"] gI_FractionField aNil) (aCons (fVar 0) (aCons (fVar 1) aNil)))))
noncomputable def g_poly_product:GF:=mkFn 2 0 G_poly_product
theorem ok_poly_product (hf:Is K mg "poly_product" s_poly_product) (h_product_in:Cal P w K mg base "product_in" ["field","one","other"] 7 g_product_in) (k_FractionField:KCal P w K mg base "FractionField" 1 ["nought","unit"] gI_FractionField):Cal P w K mg base "poly_product" ["one","other"] 8 g_poly_product:=by
  obtain ⟨f,fd,F,hm⟩:=hf
  have nd:=sc_poly_product.nd
  exact ⟨f,fd,fnD F sc_poly_product rfl (fun cdv A outer s H E hr => (dss_one (ds_ret (de_cal h_product_in hr (da_cons (de_make0 k_FractionField hr) (da_cons (dv 0) (da_cons (dv 1) da_nil))))))),hm,F.kp,F.binds fun _ _ _ _ _ _ us hl => by obtain ⟨a0,a1,rfl⟩:=len2 (show us.length = 2 from hl); rfl⟩
theorem sc_value_at:FnScope ["one","x"] ["one","x"] (defScope s_value_at):=⟨rfl,rfl,rfl,by decide +kernel,rfl,by decide +kernel,by decide +kernel⟩
noncomputable def G_value_at:GS:=(sRet (fCall g_value_in (aCons (fMake "FractionField" ["nought","unit"] gI_FractionField aNil) (aCons (fVar 0) (aCons (fVar 1) aNil)))))
noncomputable def g_value_at:GF:=mkFn 2 0 G_value_at
theorem ok_value_at (hf:Is K mg "value_at" s_value_at) (h_value_in:Cal P w K mg base "value_in" ["field","one","x"] 7 g_value_in) (k_FractionField:KCal P w K mg base "FractionField" 1 ["nought","unit"] gI_FractionField):Cal P w K mg base "value_at" ["one","x"] 8 g_value_at:=by
  obtain ⟨f,fd,F,hm⟩:=hf
  have nd:=sc_value_at.nd
  exact ⟨f,fd,fnD F sc_value_at rfl (fun cdv A outer s H E hr => (dss_one (ds_ret (de_cal h_value_in hr (da_cons (de_make0 k_FractionField hr) (da_cons (dv 0) (da_cons (dv 1) da_nil))))))),hm,F.kp,F.binds fun _ _ _ _ _ _ us hl => by obtain ⟨a0,a1,rfl⟩:=len2 (show us.length = 2 from hl); rfl⟩
theorem sc__law_begin:FnScope ["_law_script","_law_cells"] ["_law_script"] (defScope s__law_begin):=⟨rfl,rfl,rfl,by decide +kernel,rfl,by decide +kernel,by decide +kernel⟩
theorem ok__law_begin (hf:Is K mg "_law_begin" s__law_begin) (n_list:mg "list" = none):∃ f fd,FnOk P w K mg base CX0 1 f fd ["_law_script"] (spBegin K)∧mg "_law_begin" = some (.ref f)∧PySem.W.keepIn K (.ref f) = true∧Binds K fd ["_law_script"] []:=by
  obtain ⟨f,fd,F,hm⟩:=hf
  refine ⟨f,fd,?_,hm,F.kp,F.binds fun _ _ _ _ _ _ us hl => by obtain ⟨a0,rfl⟩:=len1 (show us.length = 1 from hl); rfl⟩
  have nd:=sc__law_begin.nd
  refine F.ok sc__law_begin (fun vs H Q E x__160 => by obtain ⟨a,ns,e,_⟩:=x__160; subst e; rfl) (fun cdv A outer s H vs Q E hr x__161 => ?_)
  obtain ⟨a,ns,e,sq,hl,q⟩:=x__161
  subst e
  refine ⟨_,pss_cons (ps_set (i:=1) nd rfl (Or.inl rfl) (pe_callTy call_list_of rfl n_list (by first | rfl | decide +kernel) (pa_cons (pe_slice sl_list (pv 0) po_none (po_some pe_int)) pa_nil)))
    (pss_cons (DS.at0 (ds_if (dt_cmp (deq hr.units) (dv 1).w (de_lst da_nil).w (nomark _)) (dss_one (ds_set (i:=1) nd (de_lst (da_cons de_int da_nil)))) dss_nil:DS _ _ G_seven))
    (pss_one (ps_ret (pe_disp (pps_cons pe_str (pv 1) (pps_cons pe_str pe_int pps_nil)) rfl rfl (by simp) (by decide))))),?_⟩
  refine ⟨_,rfl,63,rfl,a,_,rfl,sq,fun p hp => ⟨p,_,rfl,.inl (SqL.of upd_same),fun l hl2 => ?_⟩⟩
  have ecut:cutV (ns.map V.int) none (some 63) = ns.map V.int:=by
    have e63:HT.sIx (ns.map V.int).length (ns.map V.int).length (some ((63:Nat):Int)) = min 63 (ns.map V.int).length:=HT.sIx_nat _ _ _
    unfold cutV
    rw [show (some (63:Int)) = some ((63:Nat):Int) from rfl,e63,HT.sIx_none,List.drop_zero]
    exact List.take_of_length_le (by rw [List.length_map]; lia)
  rw [ecut] at hl2 ⊢
  have hpl:p ≠ l:=fun z => by rw [← z,upd_same] at hl2; cases hl2
  have hHl:H l = none:=by rw [upd_ne (Ne.symm hpl)] at hl2; exact hl2
  generalize hH1:upd (upd H p (.lst (ns.map V.int))) l (.lst (ns.map V.int)) = H1
  have X1:Ext none H H1:=fun b o eb nb => by rw [← hH1,upd_ne (ne_of_none eb hHl),upd_ne (ne_of_none eb hp)]; exact eb
  have L1:H1 l = some (.lst (ns.map V.int)):=by rw [← hH1]; exact upd_same
  refine ⟨[],[.non,.val (.list (ns.map PyData.int))],([],0),_,_,Al.repS (.non (.val (.lst L1 (fun z => nomatch z) (fun a c z => nomatch z) (reps_ints _ _ _ _ ns)) .nil)) (fun q hq => nomatch hq) X1,(fun a c h => nomatch h),seven_run ns _ _,fun ow' σ' H2 R' S' fr => ?_⟩
  · obtain ⟨v,hv,rv⟩:=R'.val 1 _ rfl
    cases rv with
    | @lst c vs _ hc n1 n2 rs =>
      have evs:=ints_of_reps rs
      subst evs
      intro d hd
      refine ⟨_,hv,(show (upd H2 d (.dK [])) d = some (.dK []) from upd_same),[(Sum.inr ("cells":Str),V.ref c),(Sum.inr ("turn":Str),V.int 0)],rfl,(by show 2 ≤ 15; decide),?_⟩
      have X2:∀ b o,H b = some o→H2 b = some o:=fun b o eb => R'.ext b o eb (fun a c z => nomatch z)
      have hHd:H d = none:=by
        cases e9:H d with
        | none => rfl
        | some o => rw [X2 d o e9] at hd; cases hd
      refine q d c _ (fun b o eb => ?_) ?_ ?_
      · rw [upd_ne (ne_of_none eb hHd),upd_ne (ne_of_none eb hHd)]; exact X2 b o eb
      · rw [upd_same]; rfl
      · rw [upd_ne (ne_of_none hc hd),upd_ne (ne_of_none hc hd)]; exact hc

theorem take_cut {ds:List D} {st:Sx} {r:D × Sx} (e:g__law_take ds st = some r):∃ many,ds = [.dict [],.int many]∧takeOk st many = true∧takeF st many = r:=by
  unfold g__law_take at e
  split at e
  · split at e
    · next h => exact ⟨_,rfl,h,Option.some.inj e⟩
    · cases e
  · cases e
theorem rep_int {Z:Zt} {H:Hp} {A:List Addr} {v:V} {d:D} (r:Rep K Z H A v d):∀ {n:Int},d = .int n→v = .int n:=by
  cases r <;> intro n e <;> cases e
  rfl
theorem rep_st {Z:Zt} {H:Hp} {A:List Addr} {v:V} {d:D} (r:Rep K Z H A v d):d = .dict []→∃ a c,v = .ref a∧Z = some (a,c):=by
  cases r <;> intro e <;> cases e
  exact ⟨_,_,rfl,by assumption⟩
theorem take_vs {Z:Zt} {H:Hp} {A:List Addr} {vs:List V} {many:Int} (r:Reps K Z H A vs [.dict [],.int many]):∃ a c,vs = [.ref a,.int many]∧Z = some (a,c):=by
  obtain ⟨v0,v1,rfl⟩:=len2 (show vs.length = 2 from r.length)
  obtain ⟨a,c,rfl,hZ⟩:=rep_st r.head rfl
  cases r with
  | cons _ r => cases rep_int r.head rfl; exact ⟨a,c,rfl,hZ⟩
section
variable {u A:TS} {E:Ends} {σ:L2.St} {H:Hp} {a c:Addr} {t:Int}
theorem tk_turn (h0:σ[0]? = some (some (.ref a))) (hA:H a = some (.dK (stDict c t))) (q:u E (σ.set 2 (some (.int (t + 1)))) H) :
    tSeq (tAsg (tOp (rI0 fun i j => .int (i + j)) (tDGet (tVar 0) (tC (.str "turn"))) (tC (.int 1))) (gName 2)) u E σ H :=
  ⟨_,h0,a,_,rfl,(st_turn c t ▸ DGet.k (k:=Sum.inr "turn") hA),_,_,rfl,rfl,q⟩
theorem tk_put {v:Int} (h0:σ[0]? = some (some (.ref a))) (h2:σ[2]? = some (some (.int v))) (hA:H a = some (.dK (stDict c t))) (q:u E σ (upd H a (.dK (stDict c v)))) :
    tSeq (sDPut (tVar 0) (tC (.str "turn")) (tVar 2)) u E σ H :=
  ⟨_,h2,_,h0,a,_,rfl,st_put c t v ▸ DPut.k (k:=Sum.inr "turn") hA (small1000 (by show 2 ≤ 1000; decide)),q⟩
theorem tk_place {v:Int} {xs:List V} (h0:σ[0]? = some (some (.ref a))) (h2:σ[2]? = some (some (.int v))) (hA:H a = some (.dK (stDict c t))) (hc:H c = some (.lst xs)) (hn:(xs.length:Int) ≠ 0) (q:u E (σ.set 3 (some (.int (v.fmod xs.length)))) H) :
    tSeq (tAsg (tOp (rI (fun _ j => j ≠ 0) fun i j => .int (i.fmod j)) (tVar 2) (tCB (fun xs H Q => ∃ p ys,xs = [.ref p]∧(SqL K H p ys ∨ SqT K H p ys)∧Q (.int ys.length) H) (tCons (tDGet (tVar 0) (tC (.str "cells"))) tNil))) (gName 3)) u E σ H :=
  ⟨_,h2,_,h0,a,_,rfl,(st_cells c t ▸ DGet.k (k:=Sum.inr "cells") hA),c,_,rfl,.inl (SqL.of hc),_,_,rfl,rfl,hn,q⟩
theorem tk_cell {v:Int} {xs:List V} {x:V} (h0:σ[0]? = some (some (.ref a))) (h3:σ[3]? = some (some (.int v))) (hA:H a = some (.dK (stDict c t))) (hc:H c = some (.lst xs)) (hx:atI xs v = some x) (q:u E (σ.set 4 (some x)) H) :
    tSeq (tAsg (tOp (rIxL K) (tDGet (tVar 0) (tC (.str "cells"))) (tVar 3)) (gName 4)) u E σ H :=
  ⟨_,h0,a,_,rfl,(st_cells c t ▸ DGet.k (k:=Sum.inr "cells") hA),_,h3,c,_,_,x,rfl,rfl,SqL.of hc,hx,q⟩
theorem ten18:((10:Int) ^ (18:Int).toNat) = 1000000000000000000:=by decide
theorem tk_if {x:Int} (h4:σ[4]? = some (some (.int x))) (q1:1000000000000000000 ≤ x→A { E with nx:=u E } σ H) (q2:¬ 1000000000000000000 ≤ x→u E σ H) :
    tSeq (tIfS (tTest (tOp (rI0 fun i j => .bl (decide (j ≤ i))) (tVar 4) (tOp (rI CPow fun i j => .int (i ^ j.toNat)) (tC (.int 10)) (tC (.int 18))))) A tNext) u E σ H :=
  ⟨_,h4,_,_,rfl,rfl,⟨by decide,by decide,by decide⟩,_,_,rfl,rfl,_,rfl,ite2 (fun h => q1 (ten18 ▸ of_decide_eq_true h)) (fun h => q2 fun z => h (decide_eq_true (ten18.symm ▸ z)))⟩
theorem tk_share {x m v:Int} {xs:List V} {j:Nat} (h0:σ[0]? = some (some (.ref a))) (h1:σ[1]? = some (some (.int m))) (h3:σ[3]? = some (some (.int v))) (h4:σ[4]? = some (some (.int x))) (h5:5 < σ.length) (hA:H a = some (.dK (stDict c t))) (hc:H c = some (.lst xs)) (hd:divOk x m = true) (hj:ixN xs.length v = some j)
    (q:∀ p,H p = none→E.rt (.int (x.fmod m)) (upd (upd H p (.tup [.int (x.fdiv m),.int (x.fmod m)])) c (.lst (xs.set j (.int (x.fdiv m)))))) :
    tSeq (tAsg (tCB (fun xs H Q => ∃ i j,xs = [.int i,.int j]∧divOk i j = true∧∀ p,H p = none→Q (.ref p) (upd H p (.tup [.int (i.fdiv j),.int (i.fmod j)]))) (tCons (tVar 4) (tCons (tVar 1) tNil))) (gTup K 2 (gCons (gSub (tDGet (tVar 0) (tC (.str "cells"))) (tVar 3) rSetL) (gCons (gName 5) gNil)))) (tRet (tVar 5)) E σ H :=
  ⟨_,h4,_,h1,_,_,rfl,hd,fun p hp => ⟨p,_,rfl,SqT.of upd_same,rfl,_,_,rfl,_,h0,a,_,rfl,(st_cells c t ▸ DGet.k (k:=Sum.inr "cells") (by rw [upd_ne (ne_of_none hA hp)]; exact hA)),_,h3,c,_,_,j,rfl,rfl,(by rw [upd_ne (ne_of_none hc hp)]; exact hc),hj,_,_,rfl,rfl,_,List.getElem?_set_self h5,q p hp⟩⟩
end
theorem sc__law_take:FnScope ["_law_state","_law_many","_law_turn","_law_place","_law_cell","_law_digit","_law_mixed"] ["_law_state","_law_many"] (defScope s__law_take):=⟨rfl,rfl,rfl,by decide +kernel,rfl,by decide +kernel,by decide +kernel⟩
theorem ok__law_take (hf:Is K mg "_law_take" s__law_take) (n_len:mg "len" = none) (n_divmod:mg "divmod" = none):Cal P w K mg base "_law_take" ["_law_state","_law_many"] 1 g__law_take:=by
  obtain ⟨f,fd,F,hm⟩:=hf
  refine ⟨f,fd,?_,hm,F.kp,F.binds fun _ _ _ _ _ _ us hl => by obtain ⟨a0,a1,rfl⟩:=len2 (show us.length = 2 from hl); rfl⟩
  have nd:=sc__law_take.nd
  refine F.ok sc__law_take (fun vs H Q E x__162 => ?_) (fun cdv A outer s H vs Q E hr x__163 => ?_)
  · obtain ⟨Z,A0,ds,st,d,st',r,_,_,e,_⟩:=x__162
    obtain ⟨m,rfl,_⟩:=take_cut e
    exact r.length
  · obtain ⟨Z,A0,ds,st,d,st',r,hA,S,e,q⟩:=x__163
    obtain ⟨many,rfl,hok,e⟩:=take_cut e
    obtain ⟨a,c,rfl,hZ⟩:=take_vs r
    obtain ⟨cells,turn⟩:=st
    obtain ⟨S1,S2⟩:=S a c hZ
    have ac:a ≠ c:=ne_of S1 S2 (by intro z; cases z)
    simp only [takeOk,Bool.and_eq_true,decide_eq_true_eq] at hok
    obtain ⟨⟨⟨⟨⟨k1,k2⟩,k3⟩,k4⟩,k5⟩,k6⟩:=hok
    have hu:=hu_of hr
    have pl0:0 ≤ (turn + 1).fmod (cells.length:Int):=by rw [Int.fmod_eq_emod_of_nonneg _ (by lia)]; exact Int.emod_nonneg _ (by lia)
    have pl1:(turn + 1).fmod (cells.length:Int) < (cells.length:Int):=by rw [Int.fmod_eq_emod_of_nonneg _ (by lia)]; exact Int.emod_lt_of_pos _ (by lia)
    have plc:plcOf (cells,turn) < cells.length:=by unfold plcOf; dsimp only; lia
    have ecell:cells[plcOf (cells,turn)]? = some (celOf (cells,turn)):=by
      unfold celOf
      rw [List.getD_eq_getElem?_getD,List.getElem?_eq_getElem plc]; rfl
    refine ⟨_,pss_cons (ps_set (i:=2) nd rfl (Or.inl rfl) (pe_op op_add (pe_dget hu (pv 0) pe_str (fun _ _ => rfl)) pe_int))
      (pss_cons (ps_dput hu (pv 0) pe_str (pv 2) rfl)
      (pss_cons (ps_set (i:=3) nd rfl (Or.inl rfl) (pe_op op_modN (pv 2) (pe_callB call_len_seq rfl n_len PySem.boot_len (pa_cons (pe_dget hu (pv 0) pe_str (fun _ _ => rfl)) pa_nil))))
      (pss_cons (ps_set (i:=4) nd rfl (Or.inl rfl) (pe_ix ix_list (pe_dget hu (pv 0) pe_str (fun _ _ => rfl)) (pv 3) (fun _ _ => rfl)))
      (pss_cons (ps_if (pt_cmpR op_ge (pv 4) (pe_op op_pow pe_int pe_int) (nomark _))
        (pss_cons (ps_asg (pe_callB call_divmodB rfl n_divmod (by first | rfl | decide +kernel) (pa_cons (pv 4) (pa_cons (pv 1) pa_nil))) (pg_tup rfl (pgs_cons (pg_sub (pe_dget hu (pv 0) pe_str (fun _ _ => rfl)) (pv 3) set_list) (pgs_cons (pg_name (i:=5) nd rfl (Or.inl rfl)) pgs_nil))))
        (pss_one (ps_ret (pv 5)))) pss_nil)
      ((dss_cons (ds_set (i:=6) nd (de_op dmod_int (de_op dmul_int (de_op dadd_int (de_op dadd_int (de_op dmod_int (dv 4).w de_int.w).w (de_op dmul_int (de_op dmul_int (dv 2).w (dv 2).w).w de_int.w).w).w de_int.w).w de_int.w).w de_int.w))
        (dss_cons (ds_set (i:=6) nd (de_op dmod_int (de_op dmul_int (dv 6).w (dv 6).w).w de_int.w))
        (dss_one (ds_ret (de_op dmod_int (de_op ddiv_int (de_op dmod_int (de_op dmul_int (de_op dadd_int (dv 6).w (de_op dmul_int (dv 2).w de_int.w).w).w de_int.w).w de_int.w).w de_int.w).w (dv 1).w)))):DSs _ _ G_mixed) Z A0))))),?_⟩
    refine tk_turn rfl S1 ?_
    refine tk_put rfl rfl S1 ?_
    have A1:(upd H a (.dK (stDict c (turn + 1)))) a = some (.dK (stDict c (turn + 1))):=upd_same
    have A2:(upd H a (.dK (stDict c (turn + 1)))) c = some (.lst (cells.map V.int)):=by rw [upd_ne (Ne.symm ac)]; exact S2
    have X1:Ext Z H (upd H a (.dK (stDict c (turn + 1)))):=fun b o eb nb => by rw [upd_ne (nb a c hZ).1]; exact eb
    generalize upd H a (.dK (stDict c (turn + 1))) = H1 at *
    have el:((cells.map V.int).length:Int) = cells.length:=by rw [List.length_map]
    refine tk_place (xs:=cells.map V.int) rfl rfl A1 A2 (by lia) ?_
    refine tk_cell (x:=.int (celOf (cells,turn))) rfl rfl A1 A2 ?_ ?_
    rotate_left
    refine tk_if rfl (fun hc => ?_) (fun hc => ?_)
    rotate_left 2
    · rw [el,show (turn + 1).fmod (cells.length:Int) = ((plcOf (cells,turn):Nat):Int) from by unfold plcOf; dsimp only; lia]
      exact atI_nat (by rw [List.getElem?_map,ecell]; rfl)
    · have et:takeF (cells,turn) many = (.int ((celOf (cells,turn)).fmod many),(cells.set (plcOf (cells,turn)) ((celOf (cells,turn)).fdiv many),turn + 1)):=by unfold takeF; rw [if_pos hc]
      rw [et] at e
      cases e
      refine tk_share (j:=plcOf (cells,turn)) rfl rfl rfl rfl (Nat.le_of_ble_eq_true rfl) A1 A2 (by unfold divOk; simp only [Bool.and_eq_true,decide_eq_true_eq]; exact ⟨by lia,k2⟩) ?_ fun p hp => q _ _ (fun b o eb nb => ?_) (fun a' c' h' => ?_) (.int _)
      · rw [List.length_map]
        unfold ixN plcOf
        rw [if_pos pl0,if_pos pl1]
      · have eb1:=X1 b o eb nb
        rw [upd_ne (nb a c hZ).2,upd_ne (ne_of_none eb1 hp)]; exact eb1
      · rw [hZ] at h'
        cases h'
        refine ⟨?_,?_⟩
        · rw [upd_ne ac,upd_ne (ne_of_none A1 hp)]; exact A1
        · rw [upd_same,List.map_set]
    · have et:takeF (cells,turn) many = (.int (mix (celOf (cells,turn)) (turn + 1) many),(cells,turn + 1)):=by unfold takeF; rw [if_neg hc]
      rw [et] at e
      cases e
      refine ⟨[],[.non,.val (.int many),.val (.int (turn + 1)),.non,.val (.int (celOf (cells,turn))),.non,.non],(cells,turn + 1),.ret (.int (mix (celOf (cells,turn)) (turn + 1) many)),(cells,turn + 1),?_,fun a' c' h' => by rw [hZ] at h'; cases h'; exact ⟨A1,A2⟩,mixed_run (by lia) (by lia) k1,fun v H' x1 S1 r => q v H' x1 S1 r⟩
      exact Al.repS (.non (.val (.int _) (.val (.int _) (.non (.val (.int _) (.non (.non .nil))))))) (fun q hq => ⟨let ⟨o,ho⟩:=(hA q hq).1; ⟨o,X1 q o ho (hA q hq).2⟩,(hA q hq).2⟩) X1

theorem sc__law_same:FnScope ["_law_found","_law_due"] ["_law_found","_law_due"] (defScope s__law_same):=⟨rfl,rfl,rfl,by decide +kernel,rfl,by decide +kernel,by decide +kernel⟩
noncomputable def G__law_same (g__law_same:GF):GS:=(sSeq (sIf (asB (f2 gIs (fVar 1) (fC .none))) (sRet (f2 gIs (fVar 0) (fC .none))) sNext)
  (sSeq (sIf (tOrF (asT (f1 (gInst "list") (fVar 1))) (asT (f1 (gInst "tuple") (fVar 1)))) (sSeq (sIf (asB (f2 gNe (f1 (gInst "list") (fVar 0)) (f1 (gInst "list") (fVar 1)))) (sRet (fC (.bool false))) sNext)
  (sSeq (sIf (tOrF (asB (f2 gNe (f1 (gInst "tuple") (fVar 0)) (f1 (gInst "tuple") (fVar 1)))) (asB (f2 gNe (f1 gLen (fVar 0)) (f1 gLen (fVar 1))))) (sRet (fC (.bool false))) sNext)
  (sRet (f1 gAll (asL (fComp 2 [] (iZipF (fVar 0) (fVar 1)) (.tup [0,1]) fTrue (fCall g__law_same (aCons (fVar 0) (aCons (fVar 1) aNil))))))))) sNext)
  (sSeq (sIf (asT (f1 (gInst "str") (fVar 1))) (sRet (eAnd (f1 (gInst "str") (fVar 0)) (f2 gEq (fVar 0) (fVar 1)))) sNext)
  (sRet (eAnd (f1 (gInst "int") (fVar 0)) (eAnd (f1 gNot (f1 (gInst "bool") (fVar 0))) (f2 gEq (fVar 0) (fVar 1))))))))
noncomputable def r__law_same:Nat→GF
  | 0 => fun _ _ => none
  | n + 1 => mkFn 2 0 (G__law_same (r__law_same n))
theorem rec__law_same (hf:Is K mg "_law_same" s__law_same) (n_all:mg "all" = none) (n_bool:mg "bool" = none) (n_int:mg "int" = none) (n_isinstance:mg "isinstance" = none) (n_len:mg "len" = none) (n_list:mg "list" = none) (n_str:mg "str" = none) (n_tuple:mg "tuple" = none) (n_zip:mg "zip" = none):∀ n,Cal P w K mg base "_law_same" ["_law_found","_law_due"] (1 + n) (r__law_same n)
  | 0 => by
    obtain ⟨f,fd,F,hm⟩:=hf
    exact ⟨f,fd,⟨fun _ _ _ _ h => (spD_none h).elim,fun _ _ _ _ _ _ _ _ _ _ _ _ _ h => (spD_none h).elim⟩,hm,F.kp,F.binds fun _ _ _ _ _ _ us hl => by obtain ⟨a0,a1,rfl⟩:=len2 (show us.length = 2 from hl); rfl⟩
  | n + 1 => by
    have ih:=rec__law_same hf n_all n_bool n_int n_isinstance n_len n_list n_str n_tuple n_zip n
    obtain ⟨f,fd,F,hm⟩:=hf
    have nd:=sc__law_same.nd
    exact ⟨f,fd,fnD (k:=1 + n) F sc__law_same rfl (fun cdv A outer s H E hr => (dss_cons (ds_if (dt_cmp dis (dv 1).w (de_non).w (nomark _)) (dss_one (ds_ret (de_cmp dis (dv 0).w (de_non).w (nomark _)))) dss_nil)
      (dss_cons (ds_if (dw_or (dt_tru (de_inst (T:="list") (by decide) (by first | rfl | decide +kernel) n_isinstance n_list (dv 1).w).w (fun _ => rfl)) (dw_or1 (dt_tru (de_inst (T:="tuple") (by decide) (by first | rfl | decide +kernel) n_isinstance n_tuple (dv 1).w).w (fun _ => rfl)))).t (dss_cons (ds_if (dt_cmp (dne hr.units) (de_inst (T:="list") (by decide) (by first | rfl | decide +kernel) n_isinstance n_list (dv 0).w).w (de_inst (T:="list") (by decide) (by first | rfl | decide +kernel) n_isinstance n_list (dv 1).w).w (nomark _)) (dss_one (ds_ret de_bl)) dss_nil)
      (dss_cons (ds_if (dw_or (dt_cmp (dne hr.units) (de_inst (T:="tuple") (by decide) (by first | rfl | decide +kernel) n_isinstance n_tuple (dv 0).w).w (de_inst (T:="tuple") (by decide) (by first | rfl | decide +kernel) n_isinstance n_tuple (dv 1).w).w (nomark _)) (dw_or1 (dt_cmp (dne hr.units) (de_b1 dc_len (by first | rfl | decide +kernel) n_len (dv 0).w).w (de_b1 dc_len (by first | rfl | decide +kernel) n_len (dv 1).w).w (nomark _)))).t (dss_one (ds_ret de_bl)) dss_nil)
      (dss_one (ds_ret (de_b1 (dc_all rfl) (by first | rfl | decide +kernel) n_all (DF.de (df_comp (N:=["_law_one","_law_other"]) (k:=2) (fr:=[]) (compOk0 rfl (by decide +kernel) (by decide +kernel) (by decide +kernel) rfl) (by decide) (di_zip n_zip (dv 0) (dv 1)) (fun _ _ _ _ => by exact (dg_tup (pgn_cons (i:=0) (show List.Nodup (α:=Str) ["_law_one","_law_other"] by decide +kernel) (pgn_cons (i:=1) (show List.Nodup (α:=Str) ["_law_one","_law_other"] by decide +kernel) pgn_nil)))) (fun _ _ _ _ => difs_nil) (fun _ _ _ _ => by exact (de_cal ih hr (da_cons (dv 0) (da_cons (dv 1) da_nil)) (Nat.le_refl _))))).w))))) dss_nil)
      (dss_cons (ds_if (dt_tru (de_inst (T:="str") (by decide) (by first | rfl | decide +kernel) n_isinstance n_str (dv 1).w).w (fun _ => rfl)) (dss_one (ds_ret (de_and (de_inst (T:="str") (by decide) (by first | rfl | decide +kernel) n_isinstance n_str (dv 0).w) (de_one (de_cmp (deq hr.units) (dv 0).w (dv 1).w (nomark _)))))) dss_nil)
      (dss_one (ds_ret (de_and (de_inst (T:="int") (by decide) (by first | rfl | decide +kernel) n_isinstance n_int (dv 0).w) (de_and (de_not (de_inst (T:="bool") (by decide) (by first | rfl | decide +kernel) n_isinstance n_bool (dv 0).w)) (de_one (de_cmp (deq hr.units) (dv 0).w (dv 1).w (nomark _))))))))))),hm,F.kp,F.binds fun _ _ _ _ _ _ us hl => by obtain ⟨a0,a1,rfl⟩:=len2 (show us.length = 2 from hl); rfl⟩
noncomputable def g__law_same:GF:=r__law_same 6
theorem sc__law_part:FnScope ["_law_top","_law_below","_law_one","_law_other","_law_sign"] ["_law_top","_law_below"] (defScope s__law_part):=⟨rfl,rfl,rfl,by decide +kernel,rfl,by decide +kernel,by decide +kernel⟩
noncomputable def W__law_part_1:GS:=sWhile (asB (f2 gGt (fVar 3) (fC (.int 0)))) (sPar 2 3 (aCons (fVar 3) (aCons (f2 gModI (fVar 2) (fVar 3)) aNil)))
noncomputable def G__law_part:GS:=(sSeq (sPar 2 3 (aCons (f1 gAbs (fVar 0)) (aCons (f1 gAbs (fVar 1)) aNil)))
  (sSeq W__law_part_1
  (sSeq (sSet 4 (f2 gSubI (fC (.int 1)) (f2 gMulI (fC (.int 2)) (f1 gInt (f2 gLt (fVar 1) (fC (.int 0)))))))
  (sRet (eTup (aCons (f2 gDivI (f2 gMulI (fVar 4) (fVar 0)) (fVar 2)) (aCons (f2 gDivI (f2 gMulI (fVar 4) (fVar 1)) (fVar 2)) aNil)))))))
noncomputable def g__law_part:GF:=mkFn 2 3 G__law_part
theorem ok__law_part (hf:Is K mg "_law_part" s__law_part) (n_abs:mg "abs" = none) (n_int:mg "int" = none):Cal P w K mg base "_law_part" ["_law_top","_law_below"] 1 g__law_part:=by
  obtain ⟨f,fd,F,hm⟩:=hf
  have nd:=sc__law_part.nd
  exact ⟨f,fd,fnD F sc__law_part rfl (fun cdv A outer s H E hr => (dss_cons (ds_par (i:=2) (j:=3) nd (by decide) (da_cons (de_b1 dc_abs (by first | rfl | decide +kernel) n_abs (dv 0).w) (da_cons (de_b1 dc_abs (by first | rfl | decide +kernel) n_abs (dv 1).w) da_nil)) (by first | rfl | with_unfolding_all rfl))
      (dss_cons (ds_while (dt_cmp dgt (dv 3).w (de_int).w (nomark _)) (dss_one (ds_par (i:=2) (j:=3) nd (by decide) (da_cons (dv 3) (da_cons (de_op dmod_int (dv 2).w (dv 3).w) da_nil)) (by first | rfl | with_unfolding_all rfl))))
      (dss_cons (ds_set (i:=4) nd (de_op dsub_int (de_int).w (de_op dmul_int (de_int).w (de_t1 dc_int (by first | rfl | decide +kernel) n_int (de_cmp dlt (dv 1).w (de_int).w (nomark _)).w).w).w))
      (dss_one (ds_ret (de_tup (da_cons (de_op ddiv_int (de_op dmul_int (dv 4).w (dv 0).w).w (dv 2).w) (da_cons (de_op ddiv_int (de_op dmul_int (dv 4).w (dv 1).w).w (dv 2).w) da_nil))))))))),hm,F.kp,F.binds fun _ _ _ _ _ _ us hl => by obtain ⟨a0,a1,rfl⟩:=len2 (show us.length = 2 from hl); rfl⟩
theorem sc__law_plus:FnScope ["_law_one","_law_other"] ["_law_one","_law_other"] (defScope s__law_plus):=⟨rfl,rfl,rfl,by decide +kernel,rfl,by decide +kernel,by decide +kernel⟩
noncomputable def G__law_plus:GS:=(sRet (fCall g__law_part (aCons (f2 gAdd (f2 gMulI (f2 gIx (fVar 0) (fC (.int 0))) (f2 gIx (fVar 1) (fC (.int 1)))) (f2 gMulI (f2 gIx (fVar 1) (fC (.int 0))) (f2 gIx (fVar 0) (fC (.int 1))))) (aCons (f2 gMulI (f2 gIx (fVar 0) (fC (.int 1))) (f2 gIx (fVar 1) (fC (.int 1)))) aNil))))
noncomputable def g__law_plus:GF:=mkFn 2 0 G__law_plus
theorem ok__law_plus (hf:Is K mg "_law_plus" s__law_plus) (h__law_part:Cal P w K mg base "_law_part" ["_law_top","_law_below"] 1 g__law_part):Cal P w K mg base "_law_plus" ["_law_one","_law_other"] 2 g__law_plus:=by
  obtain ⟨f,fd,F,hm⟩:=hf
  have nd:=sc__law_plus.nd
  exact ⟨f,fd,fnD F sc__law_plus rfl (fun cdv A outer s H E hr => (dss_one (ds_ret (de_cal h__law_part hr (da_cons (de_op dadd (de_op dmul_int (de_ix (dv 0).w (de_int).w (fun _ _ => rfl)).w (de_ix (dv 1).w (de_int).w (fun _ _ => rfl)).w).w (de_op dmul_int (de_ix (dv 1).w (de_int).w (fun _ _ => rfl)).w (de_ix (dv 0).w (de_int).w (fun _ _ => rfl)).w).w) (da_cons (de_op dmul_int (de_ix (dv 0).w (de_int).w (fun _ _ => rfl)).w (de_ix (dv 1).w (de_int).w (fun _ _ => rfl)).w) da_nil)))))),hm,F.kp,F.binds fun _ _ _ _ _ _ us hl => by obtain ⟨a0,a1,rfl⟩:=len2 (show us.length = 2 from hl); rfl⟩
theorem sc__law_times:FnScope ["_law_one","_law_other"] ["_law_one","_law_other"] (defScope s__law_times):=⟨rfl,rfl,rfl,by decide +kernel,rfl,by decide +kernel,by decide +kernel⟩
noncomputable def G__law_times:GS:=(sRet (fCall g__law_part (aCons (f2 gMulI (f2 gIx (fVar 0) (fC (.int 0))) (f2 gIx (fVar 1) (fC (.int 0)))) (aCons (f2 gMulI (f2 gIx (fVar 0) (fC (.int 1))) (f2 gIx (fVar 1) (fC (.int 1)))) aNil))))
noncomputable def g__law_times:GF:=mkFn 2 0 G__law_times
theorem ok__law_times (hf:Is K mg "_law_times" s__law_times) (h__law_part:Cal P w K mg base "_law_part" ["_law_top","_law_below"] 1 g__law_part):Cal P w K mg base "_law_times" ["_law_one","_law_other"] 2 g__law_times:=by
  obtain ⟨f,fd,F,hm⟩:=hf
  have nd:=sc__law_times.nd
  exact ⟨f,fd,fnD F sc__law_times rfl (fun cdv A outer s H E hr => (dss_one (ds_ret (de_cal h__law_part hr (da_cons (de_op dmul_int (de_ix (dv 0).w (de_int).w (fun _ _ => rfl)).w (de_ix (dv 1).w (de_int).w (fun _ _ => rfl)).w) (da_cons (de_op dmul_int (de_ix (dv 0).w (de_int).w (fun _ _ => rfl)).w (de_ix (dv 1).w (de_int).w (fun _ _ => rfl)).w) da_nil)))))),hm,F.kp,F.binds fun _ _ _ _ _ _ us hl => by obtain ⟨a0,a1,rfl⟩:=len2 (show us.length = 2 from hl); rfl⟩
theorem sc__law_number:FnScope ["_law_state","_law_way","_law_top"] ["_law_state"] (defScope s__law_number):=⟨rfl,rfl,rfl,by decide +kernel,rfl,by decide +kernel,by decide +kernel⟩
noncomputable def G__law_number:GS:=(sSeq (sSet 1 (fCall g__law_take (aCons (fVar 0) (aCons (fC (.int 16)) aNil))))
  (sSeq (sIf (asB (f2 gLt (fVar 1) (fC (.int 10)))) (sRet (eTup (aCons (f2 gSubI (fCall g__law_take (aCons (fVar 0) (aCons (fC (.int 9)) aNil))) (fC (.int 4))) (aCons (fC (.int 1)) aNil)))) sNext)
  (sSeq (sIf (asB (f2 gLt (fVar 1) (fC (.int 15)))) (sRet (fCall g__law_part (aCons (f2 gSubI (fCall g__law_take (aCons (fVar 0) (aCons (fC (.int 25)) aNil))) (fC (.int 12))) (aCons (f2 gAdd (fC (.int 2)) (fCall g__law_take (aCons (fVar 0) (aCons (fC (.int 4)) aNil)))) aNil)))) sNext)
  (sSeq (sSet 2 (f2 gAdd (f2 gMulI (fCall g__law_take (aCons (fVar 0) (aCons (fC (.int 1000)) aNil))) (f2 gPowI (fC (.int 10)) (fC (.int 6)))) (fCall g__law_take (aCons (fVar 0) (aCons (f2 gPowI (fC (.int 10)) (fC (.int 6))) aNil)))))
  (sRet (fCall g__law_part (aCons (f2 gMulI (fVar 2) (f2 gSubI (fC (.int 1)) (f2 gMulI (fC (.int 2)) (fCall g__law_take (aCons (fVar 0) (aCons (fC (.int 2)) aNil)))))) (aCons (f2 gAdd (fC (.int 1)) (fCall g__law_take (aCons (fVar 0) (aCons (fC (.int 999999)) aNil)))) aNil))))))))
noncomputable def g__law_number:GF:=mkFn 1 2 G__law_number
theorem ok__law_number (hf:Is K mg "_law_number" s__law_number) (h__law_take:Cal P w K mg base "_law_take" ["_law_state","_law_many"] 1 g__law_take) (h__law_part:Cal P w K mg base "_law_part" ["_law_top","_law_below"] 1 g__law_part):Cal P w K mg base "_law_number" ["_law_state"] 2 g__law_number:=by
  obtain ⟨f,fd,F,hm⟩:=hf
  have nd:=sc__law_number.nd
  exact ⟨f,fd,fnD F sc__law_number rfl (fun cdv A outer s H E hr => (dss_cons (ds_set (i:=1) nd (de_cal h__law_take hr (da_cons (dv 0) (da_cons de_int da_nil))))
      (dss_cons (ds_if (dt_cmp dlt (dv 1).w (de_int).w (nomark _)) (dss_one (ds_ret (de_tup (da_cons (de_op dsub_int (de_cal h__law_take hr (da_cons (dv 0) (da_cons de_int da_nil))).w (de_int).w) (da_cons de_int da_nil))))) dss_nil)
      (dss_cons (ds_if (dt_cmp dlt (dv 1).w (de_int).w (nomark _)) (dss_one (ds_ret (de_cal h__law_part hr (da_cons (de_op dsub_int (de_cal h__law_take hr (da_cons (dv 0) (da_cons de_int da_nil))).w (de_int).w) (da_cons (de_op dadd (de_int).w (de_cal h__law_take hr (da_cons (dv 0) (da_cons de_int da_nil))).w) da_nil))))) dss_nil)
      (dss_cons (ds_set (i:=2) nd (de_op dadd (de_op dmul_int (de_cal h__law_take hr (da_cons (dv 0) (da_cons de_int da_nil))).w (de_op dpow_int (de_int).w (de_int).w).w).w (de_cal h__law_take hr (da_cons (dv 0) (da_cons (de_op dpow_int (de_int).w (de_int).w) da_nil))).w))
      (dss_one (ds_ret (de_cal h__law_part hr (da_cons (de_op dmul_int (dv 2).w (de_op dsub_int (de_int).w (de_op dmul_int (de_int).w (de_cal h__law_take hr (da_cons (dv 0) (da_cons de_int da_nil))).w).w).w) (da_cons (de_op dadd (de_int).w (de_cal h__law_take hr (da_cons (dv 0) (da_cons de_int da_nil))).w) da_nil)))))))))),hm,F.kp,F.binds fun _ _ _ _ _ _ us hl => by obtain ⟨a0,rfl⟩:=len1 (show us.length = 1 from hl); rfl⟩
theorem sc__law_small:FnScope ["_law_state"] ["_law_state"] (defScope s__law_small):=⟨rfl,rfl,rfl,by decide +kernel,rfl,by decide +kernel,by decide +kernel⟩
noncomputable def G__law_small:GS:=(sRet (fCall g__law_part (aCons (f2 gIx (fC (.list [(.int 1),(.int (-1)),(.int 2),(.int (-2)),(.int 3),(.int (-3)),(.int 1),(.int (-1))])) (fCall g__law_take (aCons (fVar 0) (aCons (fC (.int 8)) aNil)))) (aCons (f2 gAdd (fC (.int 1)) (f2 gDivI (fCall g__law_take (aCons (fVar 0) (aCons (fC (.int 8)) aNil))) (fC (.int 6)))) aNil))))
noncomputable def g__law_small:GF:=mkFn 1 0 G__law_small
theorem ok__law_small (hf:Is K mg "_law_small" s__law_small) (h__law_take:Cal P w K mg base "_law_take" ["_law_state","_law_many"] 1 g__law_take) (h__law_part:Cal P w K mg base "_law_part" ["_law_top","_law_below"] 1 g__law_part):Cal P w K mg base "_law_small" ["_law_state"] 2 g__law_small:=by
  obtain ⟨f,fd,F,hm⟩:=hf
  have nd:=sc__law_small.nd
  exact ⟨f,fd,fnD F sc__law_small rfl (fun cdv A outer s H E hr => (dss_one (ds_ret (de_cal h__law_part hr (da_cons (de_ix (de_cst (.lst (by decide) (.cons .int (.cons (.neg .int) (.cons .int (.cons (.neg .int) (.cons .int (.cons (.neg .int) (.cons .int (.cons (.neg .int) .nil)))))))))).w (de_cal h__law_take hr (da_cons (dv 0) (da_cons de_int da_nil))).w (fun _ _ => rfl)) (da_cons (de_op dadd (de_int).w (de_op ddiv_int (de_cal h__law_take hr (da_cons (dv 0) (da_cons de_int da_nil))).w (de_int).w).w) da_nil)))))),hm,F.kp,F.binds fun _ _ _ _ _ _ us hl => by obtain ⟨a0,rfl⟩:=len1 (show us.length = 1 from hl); rfl⟩
theorem sc__law_trimmed:FnScope ["_law_numbers","_law_found"] ["_law_numbers"] (defScope s__law_trimmed):=⟨rfl,rfl,rfl,by decide +kernel,rfl,by decide +kernel,by decide +kernel⟩
noncomputable def W__law_trimmed_1:GS:=sWhile (tAndF (asB (f2 gNe (fVarW 1) (eLst aNil))) (asB (f2 gEq (f2 gIx (f2 gIx (fVarW 1) (f1 gNeg (fC (.int 1)))) (fC (.int 0))) (fC (.int 0))))) (sPop 1)
noncomputable def G__law_trimmed:GS:=(sSeq (sSetO 1 (oList (fVar 0)))
  (sSeq W__law_trimmed_1
  (sRet (f1 gTuple (fVarW 1)))))
noncomputable def g__law_trimmed:GF:=mkFn 1 1 G__law_trimmed
theorem ok__law_trimmed (hf:Is K mg "_law_trimmed" s__law_trimmed) (n_list:mg "list" = none) (n_tuple:mg "tuple" = none):Cal P w K mg base "_law_trimmed" ["_law_numbers"] 1 g__law_trimmed:=by
  obtain ⟨f,fd,F,hm⟩:=hf
  have nd:=sc__law_trimmed.nd
  exact ⟨f,fd,fnD F sc__law_trimmed rfl (fun cdv A outer s H E hr => (dss_cons (ds_setO (i:=1) nd (df_list (by first | rfl | decide +kernel) n_list (dv 0).w))
      (dss_cons (ds_while (dw_and (dt_cmp (dne hr.units) (dvw 1) (de_lst da_nil).w (nomark _)) (dw_and1 (dt_cmp (deq hr.units) (de_ix (de_ix (dvw 1) (de_neg (de_int).w).w (fun _ _ => rfl)).w (de_int).w (fun _ _ => rfl)).w (de_int).w (nomark _)))).t (dss_one (ds_pop (i:=1) (pv 1))))
      (dss_one (ds_ret (de_t1 dc_tuple (by first | rfl | decide +kernel) n_tuple (dvw 1))))))),hm,F.kp,F.binds fun _ _ _ _ _ _ us hl => by obtain ⟨a0,rfl⟩:=len1 (show us.length = 1 from hl); rfl⟩
theorem sc__law_product:FnScope ["_law_one","_law_other","_law_found","_law_i","_law_left","_law_j","_law_right"] ["_law_one","_law_other"] (defScope s__law_product):=⟨rfl,rfl,rfl,by decide +kernel,rfl,by decide +kernel,by decide +kernel⟩
noncomputable def B__law_product_1:GS:=(sPut 2 (f2 gAdd (fVar 3) (fVar 5)) (fCall g__law_plus (aCons (f2 gIx (fVarW 2) (f2 gAdd (fVar 3) (fVar 5))) (aCons (fCall g__law_times (aCons (fVar 4) (aCons (fVar 6) aNil))) aNil))))
noncomputable def L__law_product_2:GS:=sFor (iEnumF (fVar 1)) (.tup [5,6]) B__law_product_1
noncomputable def B__law_product_3:GS:=L__law_product_2
noncomputable def L__law_product_4:GS:=sFor (iEnumF (fVar 0)) (.tup [3,4]) B__law_product_3
noncomputable def G__law_product:GS:=(sSeq (sSetO 2 (o2 lRep (eLst (aCons (eTup (aCons (fC (.int 0)) (aCons (fC (.int 1)) aNil))) aNil)) (f2 gMax (fC (.int 0)) (f2 gSubI (f2 gAdd (f1 gLen (fVar 0)) (f1 gLen (fVar 1))) (fC (.int 1))))))
  (sSeq L__law_product_4
  (sSeq (sFrz 2) (sRet (fCall g__law_trimmed (aCons (fVar 2) aNil))))))
noncomputable def g__law_product:GF:=mkFn 2 5 G__law_product
theorem ok__law_product (hf:Is K mg "_law_product" s__law_product) (h__law_plus:Cal P w K mg base "_law_plus" ["_law_one","_law_other"] 2 g__law_plus) (h__law_times:Cal P w K mg base "_law_times" ["_law_one","_law_other"] 2 g__law_times) (h__law_trimmed:Cal P w K mg base "_law_trimmed" ["_law_numbers"] 1 g__law_trimmed) (n_enumerate:mg "enumerate" = none) (n_len:mg "len" = none) (n_max:mg "max" = none):Cal P w K mg base "_law_product" ["_law_one","_law_other"] 3 g__law_product:=by
  obtain ⟨f,fd,F,hm⟩:=hf
  have nd:=sc__law_product.nd
  exact ⟨f,fd,fnD F sc__law_product rfl (fun cdv A outer s H E hr => (dss_cons (ds_setO (i:=2) nd (df_rep (de_lst (da_cons (de_tup (da_cons de_int (da_cons de_int da_nil))) da_nil)).w (de_b2 (dc_max rfl) (by first | rfl | decide +kernel) n_max (de_int).w (de_op dsub_int (de_op dadd (de_b1 dc_len (by first | rfl | decide +kernel) n_len (dv 0).w).w (de_b1 dc_len (by first | rfl | decide +kernel) n_len (dv 1).w).w).w (de_int).w).w).w))
      (dss_cons (ds_for (di_enum n_enumerate (dv 0)) (dg_tup (pgn_cons (i:=3) nd (pgn_cons (i:=4) nd pgn_nil))) (dss_one (ds_for (di_enum n_enumerate (dv 1)) (dg_tup (pgn_cons (i:=5) nd (pgn_cons (i:=6) nd pgn_nil))) (dss_one (ds_put (i:=2) (pv 2) (de_op dadd (dv 3).w (dv 5).w).w (de_cal h__law_plus hr (da_cons (de_ix (dvw 2) (de_op dadd (dv 3).w (dv 5).w).w (fun _ _ => rfl)) (da_cons (de_cal h__law_times hr (da_cons (dv 4) (da_cons (dv 6) da_nil))) da_nil))))))))
      (dss_one (ds_frz 2 (ds_ret (de_cal h__law_trimmed hr (da_cons (dv 2) da_nil)))))))),hm,F.kp,F.binds fun _ _ _ _ _ _ us hl => by obtain ⟨a0,a1,rfl⟩:=len2 (show us.length = 2 from hl); rfl⟩
theorem sc__law_tens:FnScope ["_law_many","_law_found","_law_turn"] ["_law_many"] (defScope s__law_tens):=⟨rfl,rfl,rfl,by decide +kernel,rfl,by decide +kernel,by decide +kernel⟩
noncomputable def B__law_tens_1:GS:=(sSet 1 (f2 gMulI (fVar 1) (fC (.int 10))))
noncomputable def L__law_tens_2:GS:=sFor (iRange1 (fVar 0)) (.one 2) B__law_tens_1
noncomputable def G__law_tens:GS:=(sSeq (sSet 1 (fC (.int 1)))
  (sSeq L__law_tens_2
  (sRet (fVar 1))))
noncomputable def g__law_tens:GF:=mkFn 1 2 G__law_tens
theorem ok__law_tens (hf:Is K mg "_law_tens" s__law_tens) (n_range:mg "range" = none):Cal P w K mg base "_law_tens" ["_law_many"] 1 g__law_tens:=by
  obtain ⟨f,fd,F,hm⟩:=hf
  have nd:=sc__law_tens.nd
  exact ⟨f,fd,fnD F sc__law_tens rfl (fun cdv A outer s H E hr => (dss_cons (ds_set (i:=1) nd de_int)
      (dss_cons (ds_for (di_range1 n_range (dv 0)) (dg_name (i:=2) nd) (dss_one (ds_set (i:=1) nd (de_op dmul_int (dv 1).w (de_int).w))))
      (dss_one (ds_ret (dv 1)))))),hm,F.kp,F.binds fun _ _ _ _ _ _ us hl => by obtain ⟨a0,rfl⟩:=len1 (show us.length = 1 from hl); rfl⟩
theorem sc__law_great:FnScope ["_law_state","_law_top","_law_below"] ["_law_state"] (defScope s__law_great):=⟨rfl,rfl,rfl,by decide +kernel,rfl,by decide +kernel,by decide +kernel⟩
noncomputable def G__law_great:GS:=(sSeq (sSet 1 (f2 gAdd (f2 gMulI (fCall g__law_take (aCons (fVar 0) (aCons (f2 gPowI (fC (.int 10)) (fC (.int 18))) aNil))) (fCall g__law_tens (aCons (fCall g__law_take (aCons (fVar 0) (aCons (fC (.int 21)) aNil))) aNil))) (fCall g__law_take (aCons (fVar 0) (aCons (f2 gPowI (fC (.int 10)) (fC (.int 9))) aNil)))))
  (sSeq (sSet 2 (f2 gAdd (fC (.int 1)) (f2 gMulI (fCall g__law_take (aCons (fVar 0) (aCons (f2 gPowI (fC (.int 10)) (fC (.int 15))) aNil))) (fCall g__law_tens (aCons (fCall g__law_take (aCons (fVar 0) (aCons (fC (.int 16)) aNil))) aNil)))))
  (sRet (fCall g__law_part (aCons (f2 gMulI (fVar 1) (f2 gSubI (fC (.int 1)) (f2 gMulI (fC (.int 2)) (fCall g__law_take (aCons (fVar 0) (aCons (fC (.int 2)) aNil)))))) (aCons (fVar 2) aNil))))))
noncomputable def g__law_great:GF:=mkFn 1 2 G__law_great
theorem ok__law_great (hf:Is K mg "_law_great" s__law_great) (h__law_take:Cal P w K mg base "_law_take" ["_law_state","_law_many"] 1 g__law_take) (h__law_part:Cal P w K mg base "_law_part" ["_law_top","_law_below"] 1 g__law_part) (h__law_tens:Cal P w K mg base "_law_tens" ["_law_many"] 1 g__law_tens):Cal P w K mg base "_law_great" ["_law_state"] 2 g__law_great:=by
  obtain ⟨f,fd,F,hm⟩:=hf
  have nd:=sc__law_great.nd
  exact ⟨f,fd,fnD F sc__law_great rfl (fun cdv A outer s H E hr => (dss_cons (ds_set (i:=1) nd (de_op dadd (de_op dmul_int (de_cal h__law_take hr (da_cons (dv 0) (da_cons (de_op dpow_int (de_int).w (de_int).w) da_nil))).w (de_cal h__law_tens hr (da_cons (de_cal h__law_take hr (da_cons (dv 0) (da_cons de_int da_nil))) da_nil)).w).w (de_cal h__law_take hr (da_cons (dv 0) (da_cons (de_op dpow_int (de_int).w (de_int).w) da_nil))).w))
      (dss_cons (ds_set (i:=2) nd (de_op dadd (de_int).w (de_op dmul_int (de_cal h__law_take hr (da_cons (dv 0) (da_cons (de_op dpow_int (de_int).w (de_int).w) da_nil))).w (de_cal h__law_tens hr (da_cons (de_cal h__law_take hr (da_cons (dv 0) (da_cons de_int da_nil))) da_nil)).w).w))
      (dss_one (ds_ret (de_cal h__law_part hr (da_cons (de_op dmul_int (dv 1).w (de_op dsub_int (de_int).w (de_op dmul_int (de_int).w (de_cal h__law_take hr (da_cons (dv 0) (da_cons de_int da_nil))).w).w).w) (da_cons (dv 2) da_nil)))))))),hm,F.kp,F.binds fun _ _ _ _ _ _ us hl => by obtain ⟨a0,rfl⟩:=len1 (show us.length = 1 from hl); rfl⟩
theorem sc__law_any_number:FnScope ["_law_state"] ["_law_state"] (defScope s__law_any_number):=⟨rfl,rfl,rfl,by decide +kernel,rfl,by decide +kernel,by decide +kernel⟩
noncomputable def G__law_any_number:GS:=(sRet (eIf (asB (f2 gEq (fCall g__law_take (aCons (fVar 0) (aCons (fC (.int 8)) aNil))) (fC (.int 0)))) (fCall g__law_great (aCons (fVar 0) aNil)) (fCall g__law_number (aCons (fVar 0) aNil))))
noncomputable def g__law_any_number:GF:=mkFn 1 0 G__law_any_number
theorem ok__law_any_number (hf:Is K mg "_law_any_number" s__law_any_number) (h__law_take:Cal P w K mg base "_law_take" ["_law_state","_law_many"] 1 g__law_take) (h__law_number:Cal P w K mg base "_law_number" ["_law_state"] 2 g__law_number) (h__law_great:Cal P w K mg base "_law_great" ["_law_state"] 2 g__law_great):Cal P w K mg base "_law_any_number" ["_law_state"] 3 g__law_any_number:=by
  obtain ⟨f,fd,F,hm⟩:=hf
  have nd:=sc__law_any_number.nd
  exact ⟨f,fd,fnD F sc__law_any_number rfl (fun cdv A outer s H E hr => (dss_one (ds_ret (de_if (dt_cmp (deq hr.units) (de_cal h__law_take hr (da_cons (dv 0) (da_cons de_int da_nil))).w (de_int).w (nomark _)) (de_cal h__law_great hr (da_cons (dv 0) da_nil)) (de_cal h__law_number hr (da_cons (dv 0) da_nil)))))),hm,F.kp,F.binds fun _ _ _ _ _ _ us hl => by obtain ⟨a0,rfl⟩:=len1 (show us.length = 1 from hl); rfl⟩
theorem sc__law_poly:FnScope ["_law_state","_law_most","_law_size","_law_numbers"] ["_law_state","_law_most"] (defScope s__law_poly):=⟨rfl,rfl,rfl,by decide +kernel,rfl,by decide +kernel,by decide +kernel⟩
noncomputable def C__law_poly_1:FO:=fComp 1 [0] (iRange1 (f2 gMax (fC (.int 0)) (f2 gSubI (fVar 2) (fC (.int 1))))) (.one 0) fTrue (eIf (asB (f2 gGt (fCall g__law_take (aCons (fVar 1) (aCons (fC (.int 4)) aNil))) (fC (.int 0)))) (fCall g__law_any_number (aCons (fVar 1) aNil)) (eTup (aCons (fC (.int 0)) (aCons (fC (.int 1)) aNil))))
noncomputable def G__law_poly:GS:=(sSeq (sSet 2 (fCall g__law_take (aCons (fVar 0) (aCons (f2 gAdd (fVar 1) (fC (.int 2))) aNil))))
  (sSeq (sSetL 3 C__law_poly_1)
  (sRet (f1 gTuple (f2 gAdd (fVar 3) (f2 gMulA (eLst (aCons (fCall g__law_small (aCons (fVar 0) aNil)) aNil)) (f1 gInt (f2 gGt (fVar 2) (fC (.int 0))))))))))
noncomputable def g__law_poly:GF:=mkFn 2 2 G__law_poly
theorem ok__law_poly (hf:Is K mg "_law_poly" s__law_poly) (h__law_take:Cal P w K mg base "_law_take" ["_law_state","_law_many"] 1 g__law_take) (h__law_small:Cal P w K mg base "_law_small" ["_law_state"] 2 g__law_small) (h__law_any_number:Cal P w K mg base "_law_any_number" ["_law_state"] 3 g__law_any_number) (n_int:mg "int" = none) (n_max:mg "max" = none) (n_range:mg "range" = none) (n_tuple:mg "tuple" = none):Cal P w K mg base "_law_poly" ["_law_state","_law_most"] 4 g__law_poly:=by
  obtain ⟨f,fd,F,hm⟩:=hf
  have nd:=sc__law_poly.nd
  exact ⟨f,fd,fnD F sc__law_poly rfl (fun cdv A outer s H E hr => (dss_cons (ds_set (i:=2) nd (de_cal h__law_take hr (da_cons (dv 0) (da_cons (de_op dadd (dv 1).w (de_int).w) da_nil))))
      (dss_cons (ds_comp (i:=3) nd (N:=["_law_k","_law_state"]) (k:=1) (fr:=[0]) (compOkC (sc:=defScope s__law_poly) (N0:=["_law_state","_law_most","_law_size","_law_numbers"]) (by rfl) (by rfl) (by decide +kernel) (fun _ h => cell_has h)) (by decide) (di_range1 n_range (de_b2 (dc_max rfl) (by first | rfl | decide +kernel) n_max (de_int).w (de_op dsub_int (dv 2).w (de_int).w).w)) (fun _ _ _ _ => by exact (dg_name (i:=0) (show List.Nodup (α:=Str) ["_law_k","_law_state"] by decide +kernel))) (fun _ _ _ _ => difs_nil) (fun _ _ _ _ => by exact (de_if (dt_cmp dgt (de_cal h__law_take hr (da_cons (dv 1) (da_cons de_int da_nil))).w (de_int).w (nomark _)) (de_cal h__law_any_number hr (da_cons (dv 1) da_nil)) (de_tup (da_cons de_int (da_cons de_int da_nil))))) (by first | rfl | with_unfolding_all rfl))
      (dss_one (ds_ret (de_t1 dc_tuple (by first | rfl | decide +kernel) n_tuple (de_op dadd (dv 3).w (de_op dmula (de_lst (da_cons (de_cal h__law_small hr (da_cons (dv 0) da_nil)) da_nil)).w (de_t1 dc_int (by first | rfl | decide +kernel) n_int (de_cmp dgt (dv 2).w (de_int).w (nomark _)).w).w).w).w)))))),hm,F.kp,F.binds fun _ _ _ _ _ _ us hl => by obtain ⟨a0,a1,rfl⟩:=len2 (show us.length = 2 from hl); rfl⟩
theorem sc__law_sum:FnScope ["_law_one","_law_other","_law_found","_law_k","_law_left","_law_right"] ["_law_one","_law_other"] (defScope s__law_sum):=⟨rfl,rfl,rfl,by decide +kernel,rfl,by decide +kernel,by decide +kernel⟩
noncomputable def B__law_sum_1:GS:=(sSeq (sSet 4 (eIf (asB (f2 gLt (fVar 3) (f1 gLen (fVar 0)))) (f2 gIx (fVar 0) (fVar 3)) (eTup (aCons (fC (.int 0)) (aCons (fC (.int 1)) aNil)))))
  (sSeq (sSet 5 (eIf (asB (f2 gLt (fVar 3) (f1 gLen (fVar 1)))) (f2 gIx (fVar 1) (fVar 3)) (eTup (aCons (fC (.int 0)) (aCons (fC (.int 1)) aNil)))))
  (sApp 2 (fCall g__law_plus (aCons (fVar 4) (aCons (fVar 5) aNil))))))
noncomputable def L__law_sum_2:GS:=sFor (iRange1 (f2 gMax (f1 gLen (fVar 0)) (f1 gLen (fVar 1)))) (.one 3) B__law_sum_1
noncomputable def G__law_sum:GS:=(sSeq (sSetO 2 (oLst aNil))
  (sSeq L__law_sum_2
  (sSeq (sFrz 2) (sRet (fCall g__law_trimmed (aCons (fVar 2) aNil))))))
noncomputable def g__law_sum:GF:=mkFn 2 4 G__law_sum
theorem ok__law_sum (hf:Is K mg "_law_sum" s__law_sum) (h__law_plus:Cal P w K mg base "_law_plus" ["_law_one","_law_other"] 2 g__law_plus) (h__law_trimmed:Cal P w K mg base "_law_trimmed" ["_law_numbers"] 1 g__law_trimmed) (n_len:mg "len" = none) (n_max:mg "max" = none) (n_range:mg "range" = none):Cal P w K mg base "_law_sum" ["_law_one","_law_other"] 3 g__law_sum:=by
  obtain ⟨f,fd,F,hm⟩:=hf
  have nd:=sc__law_sum.nd
  exact ⟨f,fd,fnD F sc__law_sum rfl (fun cdv A outer s H E hr => (dss_cons (ds_setO (i:=2) nd (df_lst' da_nil))
      (dss_cons (ds_for (di_range1 n_range (de_b2 (dc_max rfl) (by first | rfl | decide +kernel) n_max (de_b1 dc_len (by first | rfl | decide +kernel) n_len (dv 0).w).w (de_b1 dc_len (by first | rfl | decide +kernel) n_len (dv 1).w).w)) (dg_name (i:=3) nd) (dss_cons (ds_set (i:=4) nd (de_if (dt_cmp dlt (dv 3).w (de_b1 dc_len (by first | rfl | decide +kernel) n_len (dv 0).w).w (nomark _)) (de_ix (dv 0).w (dv 3).w (fun _ _ => rfl)) (de_tup (da_cons de_int (da_cons de_int da_nil)))))
      (dss_cons (ds_set (i:=5) nd (de_if (dt_cmp dlt (dv 3).w (de_b1 dc_len (by first | rfl | decide +kernel) n_len (dv 1).w).w (nomark _)) (de_ix (dv 1).w (dv 3).w (fun _ _ => rfl)) (de_tup (da_cons de_int (da_cons de_int da_nil)))))
      (dss_one (ds_app (i:=2) (pv 2) (de_cal h__law_plus hr (da_cons (dv 4) (da_cons (dv 5) da_nil))))))))
      (dss_one (ds_frz 2 (ds_ret (de_cal h__law_trimmed hr (da_cons (dv 2) da_nil)))))))),hm,F.kp,F.binds fun _ _ _ _ _ _ us hl => by obtain ⟨a0,a1,rfl⟩:=len2 (show us.length = 2 from hl); rfl⟩
theorem sc__law_scaled:FnScope ["_law_one","_law_share"] ["_law_one","_law_share"] (defScope s__law_scaled):=⟨rfl,rfl,rfl,by decide +kernel,rfl,by decide +kernel,by decide +kernel⟩
noncomputable def C__law_scaled_1:FO:=fComp 1 [1] (iSeq (fVar 0)) (.one 0) fTrue (fCall g__law_times (aCons (fVar 0) (aCons (fVar 1) aNil)))
noncomputable def G__law_scaled:GS:=(sRet (fCall g__law_trimmed (aCons (asL C__law_scaled_1) aNil)))
noncomputable def g__law_scaled:GF:=mkFn 2 0 G__law_scaled
theorem ok__law_scaled (hf:Is K mg "_law_scaled" s__law_scaled) (h__law_times:Cal P w K mg base "_law_times" ["_law_one","_law_other"] 2 g__law_times) (h__law_trimmed:Cal P w K mg base "_law_trimmed" ["_law_numbers"] 1 g__law_trimmed):Cal P w K mg base "_law_scaled" ["_law_one","_law_share"] 3 g__law_scaled:=by
  obtain ⟨f,fd,F,hm⟩:=hf
  have nd:=sc__law_scaled.nd
  exact ⟨f,fd,fnD F sc__law_scaled rfl (fun cdv A outer s H E hr => (dss_one (ds_ret (de_cal h__law_trimmed hr (da_cons (DF.de (df_comp (N:=["_law_part_here","_law_share"]) (k:=1) (fr:=[1]) (compOkC (sc:=defScope s__law_scaled) (N0:=["_law_one","_law_share"]) (by rfl) (by rfl) (by decide +kernel) (fun _ h => cell_has h)) (by decide) (di_seq (dv 0)) (fun _ _ _ _ => by exact (dg_name (i:=0) (show List.Nodup (α:=Str) ["_law_part_here","_law_share"] by decide +kernel))) (fun _ _ _ _ => difs_nil) (fun _ _ _ _ => by exact (de_cal h__law_times hr (da_cons (dv 0) (da_cons (dv 1) da_nil)))))) da_nil))))),hm,F.kp,F.binds fun _ _ _ _ _ _ us hl => by obtain ⟨a0,a1,rfl⟩:=len2 (show us.length = 2 from hl); rfl⟩
theorem sc__law_at:FnScope ["_law_one","_law_x","_law_found","_law_power","_law_part_here"] ["_law_one","_law_x"] (defScope s__law_at):=⟨rfl,rfl,rfl,by decide +kernel,rfl,by decide +kernel,by decide +kernel⟩
noncomputable def B__law_at_1:GS:=(sSeq (sSet 2 (fCall g__law_plus (aCons (fVar 2) (aCons (fCall g__law_times (aCons (fVar 4) (aCons (fVar 3) aNil))) aNil))))
  (sSet 3 (fCall g__law_times (aCons (fVar 3) (aCons (fVar 1) aNil)))))
noncomputable def L__law_at_2:GS:=sFor (iSeq (fVar 0)) (.one 4) B__law_at_1
noncomputable def G__law_at:GS:=(sSeq (sSet 2 (eTup (aCons (fC (.int 0)) (aCons (fC (.int 1)) aNil))))
  (sSeq (sSet 3 (eTup (aCons (fC (.int 1)) (aCons (fC (.int 1)) aNil))))
  (sSeq L__law_at_2
  (sRet (fVar 2)))))
noncomputable def g__law_at:GF:=mkFn 2 3 G__law_at
theorem ok__law_at (hf:Is K mg "_law_at" s__law_at) (h__law_plus:Cal P w K mg base "_law_plus" ["_law_one","_law_other"] 2 g__law_plus) (h__law_times:Cal P w K mg base "_law_times" ["_law_one","_law_other"] 2 g__law_times):Cal P w K mg base "_law_at" ["_law_one","_law_x"] 3 g__law_at:=by
  obtain ⟨f,fd,F,hm⟩:=hf
  have nd:=sc__law_at.nd
  exact ⟨f,fd,fnD F sc__law_at rfl (fun cdv A outer s H E hr => (dss_cons (ds_set (i:=2) nd (de_tup (da_cons de_int (da_cons de_int da_nil))))
      (dss_cons (ds_set (i:=3) nd (de_tup (da_cons de_int (da_cons de_int da_nil))))
      (dss_cons (ds_for (di_seq (dv 0)) (dg_name (i:=4) nd) (dss_cons (ds_set (i:=2) nd (de_cal h__law_plus hr (da_cons (dv 2) (da_cons (de_cal h__law_times hr (da_cons (dv 4) (da_cons (dv 3) da_nil))) da_nil))))
      (dss_one (ds_set (i:=3) nd (de_cal h__law_times hr (da_cons (dv 3) (da_cons (dv 1) da_nil)))))))
      (dss_one (ds_ret (dv 2))))))),hm,F.kp,F.binds fun _ _ _ _ _ _ us hl => by obtain ⟨a0,a1,rfl⟩:=len2 (show us.length = 2 from hl); rfl⟩
theorem sc__law_handed:FnScope ["_law_state","_law_thing"] ["_law_state","_law_thing"] (defScope s__law_handed):=⟨rfl,rfl,rfl,by decide +kernel,rfl,by decide +kernel,by decide +kernel⟩
noncomputable def G__law_handed:GS:=(sRet (eIf (asB (f2 gEq (fCall g__law_take (aCons (fVar 0) (aCons (fC (.int 3)) aNil))) (fC (.int 0)))) (f1 gList (fVar 1)) (fVar 1)))
noncomputable def g__law_handed:GF:=mkFn 2 0 G__law_handed
theorem ok__law_handed (hf:Is K mg "_law_handed" s__law_handed) (h__law_take:Cal P w K mg base "_law_take" ["_law_state","_law_many"] 1 g__law_take) (n_list:mg "list" = none):Cal P w K mg base "_law_handed" ["_law_state","_law_thing"] 2 g__law_handed:=by
  obtain ⟨f,fd,F,hm⟩:=hf
  have nd:=sc__law_handed.nd
  exact ⟨f,fd,fnD F sc__law_handed rfl (fun cdv A outer s H E hr => (dss_one (ds_ret (de_if (dt_cmp (deq hr.units) (de_cal h__law_take hr (da_cons (dv 0) (da_cons de_int da_nil))).w (de_int).w (nomark _)) (de_t1 dc_list (by first | rfl | decide +kernel) n_list (dv 1).w) (dv 1))))),hm,F.kp,F.binds fun _ _ _ _ _ _ us hl => by obtain ⟨a0,a1,rfl⟩:=len2 (show us.length = 2 from hl); rfl⟩
theorem sc__law_little:FnScope ["_law_state","_law_most","_law_size","_law_parts"] ["_law_state","_law_most"] (defScope s__law_little):=⟨rfl,rfl,rfl,by decide +kernel,rfl,by decide +kernel,by decide +kernel⟩
noncomputable def C__law_little_1:FO:=fComp 1 [0] (iRange1 (f2 gMax (fC (.int 0)) (f2 gSubI (fVar 2) (fC (.int 1))))) (.one 0) fTrue (eTup (aCons (f2 gSubI (fCall g__law_take (aCons (fVar 1) (aCons (fC (.int 7)) aNil))) (fC (.int 3))) (aCons (fC (.int 1)) aNil)))
noncomputable def G__law_little:GS:=(sSeq (sSet 2 (fCall g__law_take (aCons (fVar 0) (aCons (f2 gAdd (fVar 1) (fC (.int 2))) aNil))))
  (sSeq (sSetL 3 C__law_little_1)
  (sRet (fCall g__law_trimmed (aCons (f2 gAdd (fVar 3) (f2 gMulA (eLst (aCons (fCall g__law_small (aCons (fVar 0) aNil)) aNil)) (f1 gInt (f2 gGt (fVar 2) (fC (.int 0)))))) aNil)))))
noncomputable def g__law_little:GF:=mkFn 2 2 G__law_little
theorem ok__law_little (hf:Is K mg "_law_little" s__law_little) (h__law_take:Cal P w K mg base "_law_take" ["_law_state","_law_many"] 1 g__law_take) (h__law_small:Cal P w K mg base "_law_small" ["_law_state"] 2 g__law_small) (h__law_trimmed:Cal P w K mg base "_law_trimmed" ["_law_numbers"] 1 g__law_trimmed) (n_int:mg "int" = none) (n_max:mg "max" = none) (n_range:mg "range" = none):Cal P w K mg base "_law_little" ["_law_state","_law_most"] 3 g__law_little:=by
  obtain ⟨f,fd,F,hm⟩:=hf
  have nd:=sc__law_little.nd
  exact ⟨f,fd,fnD F sc__law_little rfl (fun cdv A outer s H E hr => (dss_cons (ds_set (i:=2) nd (de_cal h__law_take hr (da_cons (dv 0) (da_cons (de_op dadd (dv 1).w (de_int).w) da_nil))))
      (dss_cons (ds_comp (i:=3) nd (N:=["_law_k","_law_state"]) (k:=1) (fr:=[0]) (compOkC (sc:=defScope s__law_little) (N0:=["_law_state","_law_most","_law_size","_law_parts"]) (by rfl) (by rfl) (by decide +kernel) (fun _ h => cell_has h)) (by decide) (di_range1 n_range (de_b2 (dc_max rfl) (by first | rfl | decide +kernel) n_max (de_int).w (de_op dsub_int (dv 2).w (de_int).w).w)) (fun _ _ _ _ => by exact (dg_name (i:=0) (show List.Nodup (α:=Str) ["_law_k","_law_state"] by decide +kernel))) (fun _ _ _ _ => difs_nil) (fun _ _ _ _ => by exact (de_tup (da_cons (de_op dsub_int (de_cal h__law_take hr (da_cons (dv 1) (da_cons de_int da_nil))).w (de_int).w) (da_cons de_int da_nil)))) (by first | rfl | with_unfolding_all rfl))
      (dss_one (ds_ret (de_cal h__law_trimmed hr (da_cons (de_op dadd (dv 3).w (de_op dmula (de_lst (da_cons (de_cal h__law_small hr (da_cons (dv 0) da_nil)) da_nil)).w (de_t1 dc_int (by first | rfl | decide +kernel) n_int (de_cmp dgt (dv 2).w (de_int).w (nomark _)).w).w).w) da_nil))))))),hm,F.kp,F.binds fun _ _ _ _ _ _ us hl => by obtain ⟨a0,a1,rfl⟩:=len2 (show us.length = 2 from hl); rfl⟩
theorem sc__law_pair:FnScope ["_law_state","_law_most","_law_one","_law_other","_law_way"] ["_law_state"] (defScope s__law_pair):=⟨rfl,rfl,rfl,by decide +kernel,rfl,by decide +kernel,by decide +kernel⟩
noncomputable def G__law_pair:GS:=(sSeq (sSet 1 (f2 gIx (eLst (aCons (fC (.int 5)) (aCons (fC (.int 12)) aNil))) (f2 gDivI (fCall g__law_take (aCons (fVar 0) (aCons (fC (.int 8)) aNil))) (fC (.int 7)))))
  (sSeq (sPar 2 3 (aCons (fCall g__law_poly (aCons (fVar 0) (aCons (fVar 1) aNil))) (aCons (fCall g__law_poly (aCons (fVar 0) (aCons (fVar 1) aNil))) aNil)))
  (sSeq (sSet 4 (fCall g__law_take (aCons (fVar 0) (aCons (fC (.int 6)) aNil))))
  (sSeq (sIf (asB (f2 gEq (fVar 4) (fC (.int 0)))) (sSet 3 (fCall g__law_scaled (aCons (fVar 2) (aCons (eTup (aCons (f1 gNeg (fC (.int 1))) (aCons (fC (.int 1)) aNil))) aNil)))) sNext)
  (sSeq (sIf (asB (f2 gEq (fVar 4) (fC (.int 1)))) (sSet 3 (fCall g__law_sum (aCons (fVar 2) (aCons (fCall g__law_little (aCons (fVar 0) (aCons (fC (.int 2)) aNil))) aNil)))) sNext)
  (sRet (eTup (aCons (fVar 2) (aCons (fVar 3) aNil)))))))))
noncomputable def g__law_pair:GF:=mkFn 1 4 G__law_pair
theorem ok__law_pair (hf:Is K mg "_law_pair" s__law_pair) (h__law_take:Cal P w K mg base "_law_take" ["_law_state","_law_many"] 1 g__law_take) (h__law_poly:Cal P w K mg base "_law_poly" ["_law_state","_law_most"] 4 g__law_poly) (h__law_sum:Cal P w K mg base "_law_sum" ["_law_one","_law_other"] 3 g__law_sum) (h__law_scaled:Cal P w K mg base "_law_scaled" ["_law_one","_law_share"] 3 g__law_scaled) (h__law_little:Cal P w K mg base "_law_little" ["_law_state","_law_most"] 3 g__law_little):Cal P w K mg base "_law_pair" ["_law_state"] 5 g__law_pair:=by
  obtain ⟨f,fd,F,hm⟩:=hf
  have nd:=sc__law_pair.nd
  exact ⟨f,fd,fnD F sc__law_pair rfl (fun cdv A outer s H E hr => (dss_cons (ds_set (i:=1) nd (de_ix (de_lst (da_cons de_int (da_cons de_int da_nil))).w (de_op ddiv_int (de_cal h__law_take hr (da_cons (dv 0) (da_cons de_int da_nil))).w (de_int).w).w (fun _ _ => rfl)))
      (dss_cons (ds_par (i:=2) (j:=3) nd (by decide) (da_cons (de_cal h__law_poly hr (da_cons (dv 0) (da_cons (dv 1) da_nil))) (da_cons (de_cal h__law_poly hr (da_cons (dv 0) (da_cons (dv 1) da_nil))) da_nil)) (by first | rfl | with_unfolding_all rfl))
      (dss_cons (ds_set (i:=4) nd (de_cal h__law_take hr (da_cons (dv 0) (da_cons de_int da_nil))))
      (dss_cons (ds_if (dt_cmp (deq hr.units) (dv 4).w (de_int).w (nomark _)) (dss_one (ds_set (i:=3) nd (de_cal h__law_scaled hr (da_cons (dv 2) (da_cons (de_tup (da_cons (de_neg (de_int).w) (da_cons de_int da_nil))) da_nil))))) dss_nil)
      (dss_cons (ds_if (dt_cmp (deq hr.units) (dv 4).w (de_int).w (nomark _)) (dss_one (ds_set (i:=3) nd (de_cal h__law_sum hr (da_cons (dv 2) (da_cons (de_cal h__law_little hr (da_cons (dv 0) (da_cons de_int da_nil))) da_nil))))) dss_nil)
      (dss_one (ds_ret (de_tup (da_cons (dv 2) (da_cons (dv 3) da_nil))))))))))),hm,F.kp,F.binds fun _ _ _ _ _ _ us hl => by obtain ⟨a0,rfl⟩:=len1 (show us.length = 1 from hl); rfl⟩
theorem sc_law:FnScope ["_law_script","_law_state","_law_turn","_law_one","_law_other","_law_left","_law_right","_law_x"] ["_law_script"] (defScope s_law):=⟨rfl,rfl,rfl,by decide +kernel,rfl,by decide +kernel,by decide +kernel⟩
noncomputable def B_law_1:GS:=(sSeq (sUnp (.tup [3,4]) (fCall g__law_pair (aCons (fVar 1) aNil)))
  (sSeq (sPar 5 6 (aCons (fCall g__law_handed (aCons (fVar 1) (aCons (fVar 3) aNil))) (aCons (fCall g__law_handed (aCons (fVar 1) (aCons (fVar 4) aNil))) aNil)))
  (sSeq (sIf (tNotF (asT (fCall g__law_same (aCons (fCall g_poly_sum (aCons (fVar 5) (aCons (fVar 6) aNil))) (aCons (fCall g__law_sum (aCons (fVar 3) (aCons (fVar 4) aNil))) aNil))))) (sRet (fC (.bool false))) sNext)
  (sSeq (sIf (tNotF (asT (fCall g__law_same (aCons (fCall g_poly_less (aCons (fVar 5) (aCons (fVar 6) aNil))) (aCons (fCall g__law_sum (aCons (fVar 3) (aCons (fCall g__law_scaled (aCons (fVar 4) (aCons (eTup (aCons (f1 gNeg (fC (.int 1))) (aCons (fC (.int 1)) aNil))) aNil))) aNil))) aNil))))) (sRet (fC (.bool false))) sNext)
  (sSeq (sIf (tNotF (asT (fCall g__law_same (aCons (fCall g_poly_product (aCons (fVar 5) (aCons (fVar 6) aNil))) (aCons (fCall g__law_product (aCons (fVar 3) (aCons (fVar 4) aNil))) aNil))))) (sRet (fC (.bool false))) sNext)
  (sSeq (sSet 7 (f2 gIx (eLst (aCons (eTup (aCons (fC (.int 0)) (aCons (fC (.int 1)) aNil))) (aCons (fCall g__law_small (aCons (fVar 1) aNil)) (aCons (fCall g__law_number (aCons (fVar 1) aNil)) aNil)))) (fCall g__law_take (aCons (fVar 1) (aCons (fC (.int 3)) aNil)))))
  (sIf (tOrF (tNotF (asT (fCall g__law_same (aCons (fCall g_value_at (aCons (fVar 5) (aCons (fVar 7) aNil))) (aCons (fCall g__law_at (aCons (fVar 3) (aCons (fVar 7) aNil))) aNil))))) (tOrF (asB (f2 gNe (f1 gTuple (fVar 5)) (fVar 3))) (asB (f2 gNe (f1 gTuple (fVar 6)) (fVar 4))))) (sRet (fC (.bool false))) sNext)))))))
noncomputable def L_law_2:GS:=sFor (iRange1 (fC (.int 6))) (.one 2) B_law_1
noncomputable def d_law:Sl:=[.non,.val (.dict []),.non,.non,.non,.non,.non,.non]
noncomputable def G_law:GS:=(sSeq L_law_2
  (sRet (fC (.bool true))))
theorem draw {n:Nat} {s:Sx} (h:Good (n + 1) s) (many:Int) (h1:0 < many) (h2:many < 2 ^ 100):∃ r s',g__law_take [.dict [],.int many] s = some (.int r,s')∧0 ≤ r∧r < many∧Good n s':=take_spec h h1 h2

theorem gd_run {k:Nat} {a b:Int} (s:Sx) (hb:Bt k a ∨ Bt k b) (hk:k ≤ 2000):g_greatest_divisor [.int a,.int b] s = some (.int (Int.gcd a b),s):=by
  have e1:sPar 0 1 (aCons (f1 gAbs (fVar 0)) (aCons (f1 gAbs (fVar 1)) aNil)) [.val (.int a),.val (.int b)] s = some (.next [.val (.int (a.natAbs:Int)),.val (.int (b.natAbs:Int))],s):=by
    simp [sPar,aCons,aNil,f1,fVar,gAbs,abs_if]
  obtain ⟨x,y,e2,hy,hg⟩:∃ x y:Nat,sIf (asB (f2 gLt (fVar 0) (fVar 1))) (sPar 0 1 (aCons (fVar 1) (aCons (fVar 0) aNil))) sNext [.val (.int (a.natAbs:Int)),.val (.int (b.natAbs:Int))] s = some (.next [.val (.int (x:Int)),.val (.int (y:Int))],s)∧y < 2 ^ k∧Nat.gcd x y = Int.gcd a b:=by
    by_cases h:(a.natAbs:Int) < (b.natAbs:Int)
    · refine ⟨b.natAbs,a.natAbs,by simp [sIf,asB,f2,fVar,gLt,gI,h,sPar,aCons,aNil],?_,by unfold Int.gcd; exact Nat.gcd_comm _ _⟩
      rcases hb with hb | hb
      · exact hb
      · exact Nat.lt_trans (by lia) hb
    · refine ⟨a.natAbs,b.natAbs,by simp [sIf,asB,f2,fVar,gLt,gI,h,sNext],?_,rfl⟩
      rcases hb with hb | hb
      · exact Nat.lt_of_le_of_lt (by lia) hb
      · exact hb
  have e3:W_greatest_divisor_1 [.val (.int (x:Int)),.val (.int (y:Int))] s = some (.next [.val (.int (x:Int)),.val (.int (y:Int))],s):=by
    refine sWhile_done ?_
    have h8:bitsOf (y:Int) ≤ ((k:Nat):Int):=bits_le (show (y:Int).natAbs < 2 ^ k by omega)
    have h9:¬ 2000 < bitsOf (y:Int):=by lia
    simp [asB,f2,f1,fVar,fC,gBits,gGt,gI,h9]
  have e4:W_greatest_divisor_2 [.val (.int (x:Int)),.val (.int (y:Int))] s = some (.next [.val (.int ((Nat.gcd x y:Nat):Int)),.val (.int ((0:Nat):Int))],s) :=
    euclidF (fun x y => [.val (.int (x:Int)),.val (.int (y:Int))]) (fun x => by simp [asT,fVar,tru]) (fun x y hy => by
      have h0:¬ y = 0:=by lia
      simp [asT,fVar,tru,h0]) (fun x y hy => by
      have h0:¬ y = 0:=by lia
      simp [sPar,aCons,aNil,f2,fVar,gModI,gI,h0,fmod_nat]) hy (by lia)
  show (match G_greatest_divisor [.val (.int a),.val (.int b)] s with | some (.ret d,s') => some (d,s') | some (.next _,s') => some (.none,s') | _ => none) = _
  unfold G_greatest_divisor
  rw [sSeq_next e1,sSeq_next e2,sSeq_next e3,sSeq_next e4,hg]
  rfl

theorem part_run {k:Nat} {t b:Int} (s:Sx) (ht:Bt k t) (hb:Bt k b) (hk:k ≤ 9000) (h0:b ≠ 0):g__law_part [.int t,.int b] s = some (num t b,s):=by
  have hg:=Bt.gcd (a:=t) hb h0
  have gp:=gcd_pos (t:=t) h0
  have loop:W__law_part_1 [.val (.int t),.val (.int b),.val (.int (t.natAbs:Int)),.val (.int (b.natAbs:Int)),.non] s = some (.next [.val (.int t),.val (.int b),.val (.int ((Nat.gcd t.natAbs b.natAbs:Nat):Int)),.val (.int ((0:Nat):Int)),.non],s) :=
    euclidF (fun x y => [.val (.int t),.val (.int b),.val (.int (x:Int)),.val (.int (y:Int)),.non]) (fun x => by simp [asB,f2,fC,fVar,gGt,gI]) (fun x y hy => by
      simp [asB,f2,fC,fVar,gGt,gI,hy]) (fun x y hy => by
      have h0:¬ y = 0:=by lia
      simp [sPar,aCons,aNil,f2,fVar,gModI,gI,h0,fmod_nat]) hb (by lia)
  have e1:sPar 2 3 (aCons (f1 gAbs (fVar 0)) (aCons (f1 gAbs (fVar 1)) aNil)) [.val (.int t),.val (.int b),.non,.non,.non] s = some (.next [.val (.int t),.val (.int b),.val (.int (t.natAbs:Int)),.val (.int (b.natAbs:Int)),.non],s):=by
    simp [sPar,aCons,aNil,f1,fVar,gAbs,abs_if]
  have d1:∀ x,divOk x (Int.gcd t b:Int) = true:=fun x => Bt.div hg (by lia) hk
  have m0:∀ x:Int,Bt k x→mulOk (sgn b) x = true:=fun x hx => (show Bt 1 (sgn b) by unfold Bt; rw [sgn_abs]; decide).ok hx (by lia)
  have m1:mulOk 2 (if b < 0 then 1 else 0) = true:=by split <;> decide
  have e3:(1 - 2 * (if b < 0 then 1 else 0):Int) = sgn b:=by unfold sgn; split <;> rfl
  have e2:sSeq (sSet 4 (f2 gSubI (fC (.int 1)) (f2 gMulI (fC (.int 2)) (f1 gInt (f2 gLt (fVar 1) (fC (.int 0))))))) (sRet (eTup (aCons (f2 gDivI (f2 gMulI (fVar 4) (fVar 0)) (fVar 2)) (aCons (f2 gDivI (f2 gMulI (fVar 4) (fVar 1)) (fVar 2)) aNil)))) [.val (.int t),.val (.int b),.val (.int (Int.gcd t b:Int)),.val (.int ((0:Nat):Int)),.non] s = some (.ret (num t b),s):=by
    simp only [sSeq,sSet,f2,f1,fC,fVar,gLt,gI,gInt,gMulI,gSubI,Option.bind_some,Option.map_some,List.getElem?_cons_zero,List.getElem?_cons_succ,List.set_cons_zero,List.set_cons_succ,decide_eq_true_eq,m1,e3,if_true]
    simp [sRet,eTup,aCons,aNil,f2,fVar,gDivI,gMulI,gI,m0 t ht,m0 b hb,d1,small2,num,numT,numB]
  show (match G__law_part [.val (.int t),.val (.int b),.non,.non,.non] s with | some (.ret d,s') => some (d,s') | some (.next _,s') => some (.none,s') | _ => none) = _
  unfold G__law_part
  rw [sSeq.eq_1,e1]
  show (match sSeq W__law_part_1 _ _ s with | some (.ret d,s') => some (d,s') | some (.next _,s') => some (.none,s') | _ => none) = _
  rw [sSeq.eq_1,loop]
  show (match sSeq _ _ _ s with | some (.ret d,s') => some (d,s') | some (.next _,s') => some (.none,s') | _ => none) = _
  rw [show ((Nat.gcd t.natAbs b.natAbs:Nat):Int) = (Int.gcd t b:Int) from rfl,e2]

theorem same_int (n:Nat) (a:Int) (s:Sx):r__law_same (n + 1) [.int a,.int a] s = some (.bool true,s):=by
  simp [r__law_same,mkFn,G__law_same,sSeq,sIf,asB,asT,tOrF,f1,f2,fVar,fC,gIs,sNext,gInst,tyN,tru,sRet,eAnd,gNot,gEq_int]
theorem same_pair (n:Nat) (a b:Int) (s:Sx):r__law_same (n + 2) [.tuple [.int a,.int b],.tuple [.int a,.int b]] s = some (.bool true,s):=by
  have sm:small [PyData.tuple [PyData.int a,PyData.int a],PyData.tuple [PyData.int b,PyData.int b]] = true:=small2 _ _
  rw [r__law_same]
  simp [mkFn,G__law_same,sSeq,sIf,asB,asT,tOrF,f1,f2,fVar,fC,gIs,sNext,gInst,tyN,tru,sRet,gNe_bool,gNe_int,gLen,asL,fComp,iZipF,seqOf,sm,compD,Tgt.run,setD,compDl,fTrue,fCall,aCons,aNil,same_int,gAll,bools]

theorem lplus_run {k:Nat} {x y:D} {a b c d:Int} (s:Sx) (hk:k ≤ 4000) (hx:Num k x a b) (hy:Num k y c d):g__law_plus [x,y] s = some (num (a * d + c * b) (b * d),s):=by
  obtain ⟨rfl,hb,h1,ba,bb⟩:=hx
  obtain ⟨rfl,hd,h2,bc,bd⟩:=hy
  have m1:mulOk a d = true:=ba.ok bd (by lia)
  have m2:mulOk c b = true:=bc.ok bb (by lia)
  have m3:mulOk b d = true:=bb.ok bd (by lia)
  have e:=part_run (t:=a * d + c * b) (b:=b * d) s (((ba.mul bd).add (bc.mul bb)).mono (m:=2 * k + 1) (by lia)) ((bb.mul bd).mono (by lia)) (by lia) (Int.mul_ne_zero (by lia) (by lia))
  simp [g__law_plus,mkFn,G__law_plus,sRet,fCall,aCons,aNil,f2,fVar,fC,gIx,atI0,atI1,gMulI,gAdd,gAddI,gI,m1,m2,m3,e]

theorem ltimes_run {k:Nat} {x y:D} {a b c d:Int} (s:Sx) (hk:k ≤ 4000) (hx:Num k x a b) (hy:Num k y c d):g__law_times [x,y] s = some (num (a * c) (b * d),s):=by
  obtain ⟨rfl,hb,h1,ba,bb⟩:=hx
  obtain ⟨rfl,hd,h2,bc,bd⟩:=hy
  have m1:mulOk a c = true:=ba.ok bc (by lia)
  have m3:mulOk b d = true:=bb.ok bd (by lia)
  have e:=part_run (t:=a * c) (b:=b * d) s ((ba.mul bc).mono (m:=2 * k) (by lia)) ((bb.mul bd).mono (by lia)) (by lia) (Int.mul_ne_zero (by lia) (by lia))
  simp [g__law_times,mkFn,G__law_times,sRet,fCall,aCons,aNil,f2,fVar,fC,gIx,atI0,atI1,gMulI,gI,m1,m3,e]

theorem same_isN {n k:Nat} {d:D} (s:Sx) (h:IsN n d):r__law_same (k + 2) [d,d] s = some (.bool true,s):=by
  obtain ⟨p,q,rfl,_⟩:=h
  exact same_pair k p q s
theorem same_nums {n k:Nat} {l:List D} (s:Sx) (h:AllN n l) (hb:l.length ≤ 1000):r__law_same (k + 3) [.tuple l,.tuple l] s = some (.bool true,s):=by
  have hz:(l.zip l).map (fun z => PyData.tuple [z.1,z.2]) = l.map fun d => .tuple [d,d]:=by
    clear hb h
    induction l with
    | nil => rfl
    | cons a r ih => simp [ih]
  have hc:compD (.tup [0,1]) fTrue (fCall (r__law_same (k + 2)) (aCons (fVar 0) (aCons (fVar 1) aNil))) [.non,.non] (l.map fun d => PyData.tuple [d,d]) s = some ((l.map fun d => PyData.tuple [d,d]).map (fun _ => PyData.bool true),s):=by
    refine compD_pure _ fun d hd => ?_
    obtain ⟨x,hx,rfl⟩:=List.mem_map.mp hd
    exact ⟨[.val x,.val x],rfl,rfl,by simp [fCall,aCons,aNil,fVar,same_isN s (h x hx)]⟩
  have hsm:small (l.map fun d => PyData.tuple [d,d]) = true:=small_le (by simpa using hb)
  have hb2:=bools_map (l.map fun d => PyData.tuple [d,d]) (fun _ => true)
  have ht:(List.map (fun _ => true) (l.map fun d => PyData.tuple [d,d])).all (fun b => b) = true:=by simp
  rw [r__law_same]
  simp [mkFn,G__law_same,sSeq,sIf,asB,asT,tOrF,f1,f2,fVar,fC,gIs,sNext,gInst,tyN,tru,sRet,gNe_bool,gNe_int,gLen,asL,fComp,iZipF,seqOf,compDl]
  rw [hz]
  simp only [hsm,if_true]
  rw [hc]
  simp only [Option.map_some,Option.bind_some,Function.comp,gAll,hb2,ht]

theorem rOk_le {z:Int} (h0:0 ≤ z) (h1:z ≤ 1000):rOk z = true:=by
  unfold rOk
  simp only [Bool.and_eq_true,decide_eq_true_eq]
  exact ⟨by lia,by lia⟩
theorem rep_run {z:Int} {d:D} (h0:0 ≤ z) (h1:z ≤ 1000):lRep (.list [d]) (.int z) = some (List.replicate z.toNat d):=by
  have e:[d].length * z.toNat ≤ sizeLine:=by
    have:[d].length * z.toNat ≤ 1000:=by simp; omega
    exact Nat.le_trans this (by decide)
  have c:(decide (-(2 ^ 63) ≤ z) && decide (z < 2 ^ 63) && decide ([d].length * z.toNat ≤ sizeLine)) = true:=by
    simp only [Bool.and_eq_true,decide_eq_true_eq]; exact ⟨⟨by lia,by lia⟩,e⟩
  unfold lRep
  simp only
  rw [if_pos c]
  simp
theorem o2_run {g:D→D→Option (List D)} {Fa Fb:FE} {δ:Sl} {s s1 s2:Sx} {a b:D} {xs:List D} (h:Fa δ s = some (a,s1)) (h':Fb δ s1 = some (b,s2)) (e:g a b = some xs):o2 g Fa Fb δ s = some (xs,s2):=by
  unfold o2; rw [h]; simp only [Option.bind_some,h',Option.map_some,e]
theorem sSetO_run {i:Nat} {F:FO} {δ:Sl} {s s1:Sx} {xs:List D} (h:F δ s = some (xs,s1)):sSetO i F δ s = some (.next (δ.set i (.own xs)),s1):=by
  unfold sSetO; rw [h]; rfl
theorem eLst_run {FL:FA} {δ:Sl} {s s1:Sx} {ds:List D} (h:FL δ s = some (ds,s1)) (hs:small ds = true):eLst FL δ s = some (.list ds,s1):=by
  unfold eLst; rw [h]; simp only [Option.bind_some,hs,if_true]
theorem rep_nat {n:Nat} {d:D} (h:n ≤ 1000):lRep (.list [d]) (.int (n:Int)) = some (List.replicate n d):=by
  have r:=rep_run (z:=(n:Int)) (d:=d) (Int.natCast_nonneg _) (by lia)
  rwa [Int.toNat_natCast] at r
theorem sApp_run {i:Nat} {F:FE} {δ:Sl} {s s1:Sx} {v:D} {xs:List D} (h:F δ s = some (v,s1)) (hi:δ[i]? = some (.own xs)) (hl:xs.length < 1000):sApp i F δ s = some (.next (δ.set i (.own (xs ++ [v]))),s1):=by
  unfold sApp
  rw [h]
  simp only [Option.bind_some,hi]
  rw [if_pos (decide_eq_true (Nat.lt_of_lt_of_le hl (by decide)))]
theorem iRange1_r {F:FE} {δ:Sl} {s s':Sx} {z:Int} (e:F δ s = some (.int z,s')) (h0:0 ≤ z) (h1:z ≤ 1000):iRange1 F δ s = some (rng 0 z.toNat,s'):=by
  have r1:=rOk_le h0 h1
  unfold iRange1
  rw [e]
  simp only [Option.bind_some,r1,if_true]
theorem iRange1_nat {F:FE} {δ:Sl} {s s':Sx} {n:Nat} (e:F δ s = some (.int (n:Int),s')) (h1:n ≤ 1000):iRange1 F δ s = some (rng 0 n,s'):=by
  have:=iRange1_r e (Int.natCast_nonneg _) (by lia)
  rwa [Int.toNat_natCast] at this
theorem rng_len (n:Nat):(rng 0 n).length = n:=by simp [rng]
theorem fCall_run {g:GF} {FL:FA} {δ:Sl} {s s1:Sx} {ds:List D} {r:Option (D × Sx)} (h:FL δ s = some (ds,s1)) (e:g ds s1 = r):fCall g FL δ s = r:=by
  unfold fCall; rw [h]; exact e
theorem fn_run {n m:Nat} {G:GS} {ds:List D} {s s':Sx} {d:D} (hl:ds.length = n) (h:G (ds.map .val ++ List.replicate m .non) s = some (.ret d,s')):mkFn n m G ds s = some (d,s'):=by
  unfold mkFn; rw [if_pos hl,h]

theorem sz_of {n:Nat} {T B:Int} {r:Rat} (h:num T B = enc r) (hB:B ≠ 0) (b1:Bt n T) (b2:Bt n B):Sz n r:=by
  obtain ⟨e1,_,_,c1,c2⟩:=Num.num hB b1 b2
  rw [h] at e1
  unfold enc at e1
  simp only [PyData.tuple.injEq,List.cons.injEq,PyData.int.injEq,and_true] at e1
  exact ⟨by rw [e1.1]; exact c1,by rw [e1.2]; exact c2⟩
theorem sz_sub {n:Nat} {a b:Rat} (ha:Sz n a) (hb:Sz n b):Sz (2 * n + 1) (a - b) :=
  sz_of (sub_enc a b) (Int.mul_ne_zero (den_int a) (den_int b)) (((ha.1.mul hb.2).sub (hb.1.mul ha.2)).mono (by lia)) ((ha.2.mul hb.2).mono (by lia))
theorem sz_add {p q:Nat} {a b:Rat} (ha:Sz p a) (hb:Sz q b):Sz (p + q + 1) (a + b) :=
  sz_of (add_enc a b) (Int.mul_ne_zero (den_int a) (den_int b)) (((ha.1.mul hb.2).add (hb.1.mul ha.2)).mono (by lia)) ((ha.2.mul hb.2).mono (by lia))
theorem sz_mul {p q:Nat} {a b:Rat} (ha:Sz p a) (hb:Sz q b):Sz (p + q) (a * b) :=
  sz_of (mul_enc a b) (Int.mul_ne_zero (den_int a) (den_int b)) (ha.1.mul hb.1) (ha.2.mul hb.2)
theorem sz_one:Sz 1 1:=⟨by show Bt 1 1; exact .lit (by decide),by show Bt 1 1; exact .lit (by decide)⟩
theorem sz_zero:Sz 1 0:=⟨by show Bt 1 0; exact .lit (by decide),by show Bt 1 1; exact .lit (by decide)⟩

theorem lplus_enc {n:Nat} {a b:Rat} (s:Sx) (hn:n ≤ 4000) (ha:Sz n a) (hb:Sz n b):g__law_plus [enc a,enc b] s = some (enc (a + b),s):=by
  rw [lplus_run s hn ha.num hb.num,add_enc]

theorem ltimes_enc {n:Nat} {a b:Rat} (s:Sx) (hn:n ≤ 4000) (ha:Sz n a) (hb:Sz n b):g__law_times [enc a,enc b] s = some (enc (a * b),s):=by
  rw [ltimes_run s hn ha.num hb.num,mul_enc]

theorem co_app {l:List Rat} {v:Rat} (k:Nat):co (l ++ [v]) k = if k < l.length then co l k else if k = l.length then v else 0:=by
  unfold co
  rw [List.getD_eq_getElem?_getD,List.getD_eq_getElem?_getD]
  by_cases h:k < l.length
  · rw [if_pos h,List.getElem?_append_left h]
  · rw [if_neg h,List.getElem?_append_right (by lia)]
    by_cases h2:k = l.length
    · rw [if_pos h2,h2,Nat.sub_self]; rfl
    · rw [if_neg h2,List.getElem?_eq_none (by simp; lia)]; rfl
theorem co_mem {l:List Rat} {P:Rat→Prop} (h:∀ r ∈ l,P r) (h0:P 0) (k:Nat):P (co l k):=by
  by_cases hk:k < l.length
  · unfold co
    rw [List.getD_eq_getElem?_getD,List.getElem?_eq_getElem hk]
    exact h _ (List.getElem_mem hk)
  · rw [co_out (by lia)]; exact h0
theorem rats {P:Rat→Prop}:∀ {l:List D},(∀ d ∈ l,∃ r,d = enc r∧P r)→∃ m:List Rat,l = m.map enc∧∀ r ∈ m,P r
  | [],_ => ⟨[],rfl,fun _ z => nomatch z⟩
  | d :: l,h => by
    obtain ⟨m,e,hm⟩:=rats (l:=l) fun x hx => h x (List.mem_cons_of_mem _ hx)
    obtain ⟨r,rfl,hr⟩:=h d List.mem_cons_self
    exact ⟨r :: m,by rw [e]; rfl,fun x hx => by
      rcases List.mem_cons.mp hx with rfl | hx
      · exact hr
      · exact hm x hx⟩
theorem catL {a b:List D} (h:a.length + b.length ≤ 1000):gAdd (.list a) (.list b) = some (.list (a ++ b)):=by
  have sm:small (a ++ b) = true:=small_le (by rw [List.length_append]; exact h)
  simp [gAdd,gAddI,gI,gCatL,sm]
theorem mul_1 (d:D):gMulA (.list [d]) (.int 1) = some (.list [d]):=by
  have:=rep_run (z:=1) (d:=d) (by decide) (by decide)
  simp only [gMulA,gMulI,gI,this,Option.map_some,Option.none_or]; rfl
theorem mul_0 (d:D):gMulA (.list [d]) (.int 0) = some (.list []):=by
  have:=rep_run (z:=0) (d:=d) (by decide) (by decide)
  simp only [gMulA,gMulI,gI,this,Option.map_some,Option.none_or]; rfl
theorem mulA_nat {m:Nat} {d:D} (h:m ≤ 1000):gMulA (.list [d]) (.int (m:Int)) = some (.list (List.replicate m d)):=by
  simp only [gMulA,gMulI,gI,rep_nat h,Option.map_some,Option.none_or]
theorem pick_run {δ:Sl} {s:Sx} {i v j:Nat} {xd:D} {a:List Rat} (hv:δ[v]? = some (.val xd)) (hi:δ[i]? = some (.val (.int (j:Int)))) (hx:seqOf xd = some (a.map enc)) :
    eIf (asB (f2 gLt (fVar i) (f1 gLen (fVar v)))) (f2 gIx (fVar v) (fVar i)) (eTup (aCons (fC (.int 0)) (aCons (fC (.int 1)) aNil))) δ s = some (enc (co a j),s):=by
  have f1':fVar v δ s = some (xd,s):=by unfold fVar; rw [hv]
  have f2':fVar i δ s = some (.int (j:Int),s):=by unfold fVar; rw [hi]
  have e1:f2 gLt (fVar i) (f1 gLen (fVar v)) δ s = some (.bool (decide (j < a.length)),s):=by
    refine f2_run f2' (f1_run f1' (len_seq hx)) ?_
    rw [List.length_map]
    have:decide ((j:Int) < (a.length:Int)) = decide (j < a.length):=decide_eq_decide.mpr (by omega)
    simp only [gLt,gI,if_true,this]
  unfold eIf asB
  rw [e1]
  simp only [Option.bind_some,decide_eq_true_eq]
  by_cases h:j < a.length
  · rw [if_pos h]
    exact f2_run f1' f2' (by rw [ix_seq hx,at_co h])
  · rw [if_neg h,co_out (by lia),enc_zero]
    simp [eTup,aCons,aNil,fC,small2,zD]

theorem common {n:Nat}:∀ {l:List Rat},(∀ r ∈ l,Sz n r)→∃ M,0 < M∧M ≤ 2 ^ (n * l.length)∧∀ r ∈ l,Fit M (2 ^ (n * (l.length + 1))) r
  | [],_ => ⟨1,by decide,Nat.pow_pos (by decide),fun r hr => nomatch hr⟩
  | a :: l,h => by
    obtain ⟨M,h0,h1,h2⟩:=common (l:=l) fun r hr => h r (List.mem_cons_of_mem _ hr)
    obtain ⟨ha,hb⟩:=h a List.mem_cons_self
    have hd:a.den ≤ 2 ^ n:=by have:(a.den:Int).natAbs < 2 ^ n:=hb; omega
    have hn:a.num.natAbs ≤ 2 ^ n:=Nat.le_of_lt ha
    have e1:2 ^ (n * (a :: l).length) = 2 ^ (n * l.length) * 2 ^ n:=by rw [List.length_cons,Nat.mul_succ,Nat.pow_add]
    have e2:2 ^ (n * ((a :: l).length + 1)) = 2 ^ (n * (l.length + 1)) * 2 ^ n:=by rw [List.length_cons,Nat.mul_succ n (l.length + 1),Nat.pow_add]
    refine ⟨M * a.den,Nat.mul_pos h0 (by have:=a.den_nz; lia),by rw [e1]; exact Nat.mul_le_mul h1 hd,fun r hr => ?_⟩
    rw [e2]
    rcases List.mem_cons.mp hr with rfl | hr
    · have:=(Fit.self r).scale M
      rw [Nat.mul_comm r.den M] at this
      refine this.mono ?_
      rw [Nat.mul_comm]
      refine Nat.mul_le_mul (Nat.le_trans h1 (Nat.pow_le_pow_right (by decide) (Nat.mul_le_mul_left _ (by lia)))) hn
    · exact ((h2 r hr).scale a.den).mono (Nat.mul_le_mul_left _ hd)

theorem sIf_t {Ft:FT} {G1 G2:GS} {δ:Sl} {s s':Sx} {r:Option (Out × Sx)} (h:Ft δ s = some (true,s')) (g:G1 δ s' = r):sIf Ft G1 G2 δ s = r:=by
  unfold sIf; rw [h]; exact g
theorem sIf_f {Ft:FT} {G1 G2:GS} {δ:Sl} {s s':Sx} {r:Option (Out × Sx)} (h:Ft δ s = some (false,s')) (g:G2 δ s' = r):sIf Ft G1 G2 δ s = r:=by
  unfold sIf; rw [h]; exact g
theorem draw_le {n:Nat} {s:Sx} {M:Int} (h:Good (n + 1) s) (h1:0 < M) (h2:M ≤ 1000):∃ r s',g__law_take [.dict [],.int M] s = some (.int r,s')∧0 ≤ r∧r < M∧Good n s':=draw h M h1 (by lia)
theorem draw_nat {n m:Nat} {s:Sx} (h:Good (n + 1) s) (h1:0 < m) (h2:m ≤ 1000):∃ (j:Nat) (s':Sx),g__law_take [.dict [],.int (m:Int)] s = some (.int (j:Int),s')∧j < m∧Good n s':=by
  obtain ⟨r,s',e,r0,r1,g⟩:=draw_le (M:=(m:Int)) h (by lia) (by lia)
  obtain ⟨j,hj⟩:∃ j:Nat,r = (j:Int):=⟨r.toNat,by lia⟩
  subst hj
  exact ⟨j,s',e,by lia,g⟩
noncomputable def IsSeq (d:D) (l:List D):Prop:=d = .list l ∨ d = .tuple l
theorem IsSeq.seq {d:D} {l:List D} (h:IsSeq d l):seqOf d = some l:=by rcases h with rfl | rfl <;> rfl
theorem IsSeq.tup {d:D} {l:List D} (h:IsSeq d l):gTuple d = some (.tuple l):=by rcases h with rfl | rfl <;> rfl
theorem eTup_run {FL:FA} {δ:Sl} {s s1:Sx} {ds:List D} (h:FL δ s = some (ds,s1)) (hs:small ds = true):eTup FL δ s = some (.tuple ds,s1):=by
  unfold eTup; rw [h]; simp only [Option.bind_some,hs,if_true]
theorem tOrF_f {Ga Gb:FT} {δ:Sl} {s s1:Sx} {r:Option (Bool × Sx)} (h:Ga δ s = some (false,s1)) (g:Gb δ s1 = r):tOrF Ga Gb δ s = r:=by
  unfold tOrF; rw [h]; exact g
theorem tNotF_r {Ga:FT} {δ:Sl} {s s1:Sx} {b:Bool} (h:Ga δ s = some (b,s1)):tNotF Ga δ s = some (!b,s1):=by
  unfold tNotF; rw [h]; rfl
theorem asT_r {F:FE} {δ:Sl} {s s1:Sx} {b:Bool} (h:F δ s = some (.bool b,s1)):asT F δ s = some (b,s1):=by
  unfold asT; rw [h]; rfl
theorem asB_r {F:FE} {δ:Sl} {s s1:Sx} {b:Bool} (h:F δ s = some (.bool b,s1)):asB F δ s = some (b,s1):=by
  unfold asB; rw [h]; rfl
theorem sSeq_n {G1 G2:GS} {δ δ1:Sl} {s s1:Sx} {r:Option (Out × Sx)} (h:G1 δ s = some (.next δ1,s1)) (h2:G2 δ1 s1 = r):sSeq G1 G2 δ s = r:=by
  rw [sSeq_next h]; exact h2
theorem sSeq_r {G1 G2:GS} {δ:Sl} {s s1:Sx} {d:D} (h:G1 δ s = some (.ret d,s1)):sSeq G1 G2 δ s = some (.ret d,s1):=by
  unfold sSeq; rw [h]
theorem sRet_run {F:FE} {δ:Sl} {s s1:Sx} {d:D} (h:F δ s = some (d,s1)):sRet F δ s = some (.ret d,s1):=by
  unfold sRet; rw [h]; rfl
theorem mulI {a b:Int} (h:mulOk a b = true):gMulI (.int a) (.int b) = some (.int (a * b)):=by simp only [gMulI,gI,h,if_true]
theorem divI {a b:Int} (h:divOk a b = true):gDivI (.int a) (.int b) = some (.int (a.fdiv b)):=by simp only [gDivI,gI,h,if_true]
theorem addI (a b:Int):gAdd (.int a) (.int b) = some (.int (a + b)):=rfl
theorem subI (a b:Int):gSubI (.int a) (.int b) = some (.int (a - b)):=rfl
theorem take_run {δ:Sl} {s s1:Sx} {i:Nat} {F:FE} {M r:Int} (hi:fVar i δ s = some (.dict [],s)) (hF:F δ s = some (.int M,s)) (e:g__law_take [.dict [],.int M] s = some (.int r,s1)):fCall g__law_take (aCons (fVar i) (aCons F aNil)) δ s = some (.int r,s1) :=
  fCall_run (aCons_run hi (aCons_run (FL:=aNil) hF rfl)) e
theorem eIf_t {Ga:FT} {Fa Fb:FE} {δ:Sl} {s s1:Sx} {r:Option (D × Sx)} (h:Ga δ s = some (true,s1)) (e:Fa δ s1 = r):eIf Ga Fa Fb δ s = r:=by
  unfold eIf; rw [h]; exact e
theorem eIf_f {Ga:FT} {Fa Fb:FE} {δ:Sl} {s s1:Sx} {r:Option (D × Sx)} (h:Ga δ s = some (false,s1)) (e:Fb δ s1 = r):eIf Ga Fa Fb δ s = r:=by
  unfold eIf; rw [h]; exact e
theorem asB_run {F:FE} {δ:Sl} {s s1:Sx} {b:Bool} (h:F δ s = some (.bool b,s1)):asB F δ s = some (b,s1):=by
  unfold asB; rw [h]; rfl

theorem getD_get {l:List D} {n:Nat} (h:n < l.length):l[n]? = some (l.getD n zD):=by
  rw [List.getD_eq_getElem?_getD,List.getElem?_eq_getElem h]; rfl
theorem tAnd_t {Ga Gb:FT} {δ:Sl} {s s1:Sx} {r:Option (Bool × Sx)} (h:Ga δ s = some (true,s1)) (h2:Gb δ s1 = r):tAndF Ga Gb δ s = r:=by
  unfold tAndF; rw [h]; exact h2
theorem tAnd_f {Ga Gb:FT} {δ:Sl} {s s1:Sx} (h:Ga δ s = some (false,s1)):tAndF Ga Gb δ s = some (false,s1):=by
  unfold tAndF; rw [h]; rfl
theorem sAug_run {i:Nat} {g:G2} {F:FE} {δ:Sl} {s s1:Sx} {a b d:D} (hv:δ[i]? = some (.val a)) (hF:F δ s = some (b,s1)) (e:g a b = some d):sAug i g F δ s = some (.next (δ.set i (.val d)),s1):=by
  unfold sAug; rw [hv]; simp only [hF,e,Option.bind_some,Option.map_some]
theorem while_f {Ft:FT} {G:GS} {n:Nat} {δ:Sl} {s s1:Sx} (h:Ft δ s = some (false,s1)):whileN Ft G (n + 1) δ s = some (.next δ,s1):=by
  rw [whileN.eq_2,h]; rfl
theorem while_t {Ft:FT} {G:GS} {n:Nat} {δ δ':Sl} {s s1 s2:Sx} {r:Option (Out × Sx)} (h:Ft δ s = some (true,s1)) (h2:G δ s1 = some (.next δ',s2)) (h3:whileN Ft G n δ' s2 = r):whileN Ft G (n + 1) δ s = r:=by
  rw [whileN.eq_2,h]; simp only [Option.bind_some,if_true,h2]; exact h3
theorem trim_z {l:List D} {k:Nat} (h:isZ (l.getD k zD) = true):trimLen l k = trimLen l (k + 1):=by rw [trimLen,if_pos h]
theorem trim_n {l:List D} {k:Nat} (h:isZ (l.getD k zD) = false):k + 1 = trimLen l (k + 1):=by rw [trimLen,if_neg (by rw [h]; decide)]
theorem gt0 (k:Nat):gGt (.int ((k + 1:Nat):Int)) (.int 0) = some (.bool true):=by
  simp only [gGt,gI,if_true]; rw [decide_eq_true (by lia)]
theorem sub1 (k:Nat):gSubI (.int ((k + 1:Nat):Int)) (.int 1) = some (.int (k:Int)):=by
  rw [subI,show ((k + 1:Nat):Int) - 1 = (k:Int) by lia]
theorem trimmed_run {n:Nat} {l:List D} (s:Sx) (h:AllN n l) (hb:l.length ≤ 1000):g_trimmed [zD,.list l] s = some (.tuple (trimD l),s):=by
  have loop:∀ k:Nat,k ≤ l.length→whileN (tAndF (asB (f2 gGt (fVar 2) (fC (.int 0)))) (asB (f2 gEq (f2 gIx (fVar 1) (f2 gSubI (fVar 2) (fC (.int 1)))) (fVar 0)))) (sAug 2 gSubI (fC (.int 1))) (k + 1) [.val zD,.val (.list l),.val (.int (k:Int))] s = some (.next [.val zD,.val (.list l),.val (.int (trimLen l k:Int))],s):=by
    intro k
    induction k with
    | zero => intro _; exact while_f (tAnd_f (asB_run (f2_run rfl rfl rfl)))
    | succ k ih =>
      intro hk
      have hg:=getD_get (l:=l) (n:=k) hk
      have t:tAndF (asB (f2 gGt (fVar 2) (fC (.int 0)))) (asB (f2 gEq (f2 gIx (fVar 1) (f2 gSubI (fVar 2) (fC (.int 1)))) (fVar 0))) [.val zD,.val (.list l),.val (.int ((k + 1:Nat):Int))] s = some (isZ (l.getD k zD),s) :=
        tAnd_t (asB_run (f2_run rfl rfl (gt0 k))) (asB_run (f2_run (f2_run rfl (f2_run rfl rfl (sub1 k)) (L3.atI_nat hg)) rfl (isZ_eq (h _ (List.mem_of_getElem? hg)))))
      cases hz:isZ (l.getD k zD) with
      | true => rw [hz] at t; exact while_t t (sAug_run rfl rfl (sub1 k)) ((ih (by lia)).trans (by rw [trim_z hz]))
      | false => rw [hz] at t; rw [← trim_n hz]; exact while_f t
  have hc:L3.cutD l none (some (trimLen l l.length:Int)) = trimD l:=by
    unfold L3.cutD trimD
    rw [HT.sIx_nat,HT.sIx_none,List.drop_zero,Nat.sub_zero,Nat.min_eq_left (trimLen_le l l.length)]
  rw [← hc]
  exact fn_run (n:=2) (m:=1) (G:=G_trimmed) rfl (sSeq_n (sSet_run (f1_run rfl (len_seq rfl))) (sSeq_n (whileN_mono (loop l.length (Nat.le_refl _)) (by unfold fuel; lia)) (sRet_run (f1_run (a:=.list (L3.cutD l none (some (trimLen l l.length:Int)))) rfl rfl))))
theorem ltrimmed_run {n:Nat} {l:List D} (s:Sx) (h:AllN n l) (hb:l.length ≤ 1000):g__law_trimmed [.list l] s = some (.tuple (trimD l),s):=by
  have loop:∀ k:Nat,k ≤ l.length→whileN (tAndF (asB (f2 gNe (fVarW 1) (eLst aNil))) (asB (f2 gEq (f2 gIx (f2 gIx (fVarW 1) (f1 gNeg (fC (.int 1)))) (fC (.int 0))) (fC (.int 0))))) (sPop 1) (k + 1) [.val (.list l),.own (l.take k)] s = some (.next [.val (.list l),.own (l.take (trimLen l k))],s):=by
    intro k
    induction k with
    | zero => intro _; exact while_f (tAnd_f (asB_run (f2_run rfl rfl (gNe_list_nil (n:=n) (l:=[]) (fun _ z => nomatch z)))))
    | succ k ih =>
      intro hk
      have hg:=getD_get (l:=l) (n:=k) hk
      have ne:l.take (k + 1) ≠ []:=fun z => by have:=congrArg List.length z; rw [List.length_take,Nat.min_eq_left hk] at this; cases this
      have hemp:(l.take (k + 1)).isEmpty = false:=Bool.eq_false_iff.mpr fun z => ne (List.isEmpty_iff.mp z)
      have hlast:(l.take (k + 1)).getLast ne = l.getD k zD:=by
        rw [List.getLast_eq_getElem,List.getElem_take,List.getD_eq_getElem?_getD,List.getElem?_eq_getElem hk]
        simp only [List.length_take,Nat.min_eq_left hk,Nat.add_sub_cancel,Option.getD_some]
      obtain ⟨p,q,hpq⟩:=h _ (List.mem_of_getElem? hg)
      have t:tAndF (asB (f2 gNe (fVarW 1) (eLst aNil))) (asB (f2 gEq (f2 gIx (f2 gIx (fVarW 1) (f1 gNeg (fC (.int 1)))) (fC (.int 0))) (fC (.int 0)))) [.val (.list l),.own (l.take (k + 1))] s = some (isZ (l.getD k zD),s) :=
        tAnd_t (asB_run (f2_run rfl rfl ((gNe_list_nil (h.take (k + 1))).trans (by rw [hemp]; rfl)))) (asB_run (f2_run (f2_run (f2_run rfl rfl ((atI_last ne).trans (by rw [hlast]))) rfl (num_ix0 hpq)) rfl (by rw [gEq_int,isZ_num hpq])))
      cases hz:isZ (l.getD k zD) with
      | true =>
        rw [hz] at t
        refine while_t t (δ':=[.val (.list l),.own (l.take k)]) (s2:=s) ?_ ((ih (by lia)).trans (by rw [trim_z hz]))
        simp only [sPop,List.getElem?_cons_zero,List.getElem?_cons_succ,hemp,Bool.false_eq_true,if_false]
        rw [List.dropLast_eq_take,List.length_take,Nat.min_eq_left hk,List.take_take,Nat.add_sub_cancel,Nat.min_eq_left (Nat.le_succ k)]
        rfl
      | false => rw [hz] at t; rw [← trim_n hz]; exact while_f t
  exact fn_run (n:=1) (m:=1) (G:=G__law_trimmed) rfl (sSeq_n (δ1:=[.val (.list l),.own (l.take l.length)]) (s1:=s) (by rw [List.take_length]; rfl) (sSeq_n (whileN_mono (loop l.length (Nat.le_refl _)) (by unfold fuel; lia)) rfl))

theorem tens_exact {m:Int} (s:Sx) (h0:0 ≤ m) (h1:m ≤ 100):g__law_tens [.int m] s = some (.int (10 ^ m.toNat),s):=by
  have bt:∀ j:Nat,Bt (1 + 4 * j) ((10:Int) ^ j):=fun j => by
    induction j with
    | zero => exact .lit (by decide)
    | succ j ih => rw [Int.pow_succ]; exact (ih.mul (.lit (n:=4) (by decide))).mono (by lia)
  obtain ⟨δ',s',e,hs,c,hδ⟩:=forD_at (T:=.one 2) (G:=B__law_tens_1) (fun k δ s' => s' = s∧∃ c,δ = [.val (.int m),.val (.int (10 ^ k)),c]) (rng 0 m.toNat) [.val (.int m),.val (.int 1),.non] s ⟨rfl,.non,rfl⟩ (fun k d δ s' hd x__164 => by
      obtain ⟨hs,c,hδ⟩:=x__164
      subst hδ hs
      have hk:=(rng_get hd).1
      exact ⟨[.val (.int m),.val (.int (10 ^ k)),.val d],[.val (.int m),.val (.int (10 ^ k * 10)),.val d],s',rfl,sSet_run (f2_run (a:=.int (10 ^ k)) (b:=.int 10) rfl rfl (mulI ((bt k).ok (m:=4) (.lit (by decide)) (by lia)))),rfl,.val d,by rw [Int.pow_succ]⟩)
  subst hs hδ
  rw [rng_len] at e
  refine fn_run (n:=1) (m:=2) (G:=G__law_tens) rfl (sSeq_n (δ1:=[.val (.int m),.val (.int 1),.non]) (s1:=s') rfl (sSeq_n (δ1:=[.val (.int m),.val (.int (10 ^ m.toNat)),c]) (s1:=s') ?_ rfl))
  unfold L__law_tens_2 sFor
  rw [iRange1_r (z:=m) rfl h0 (by lia)]
  exact e
theorem tens_small {m:Int} {k:Nat} (s:Sx) (h0:0 ≤ m) (h1:m ≤ k) (hk:k ≤ 100):∃ x,g__law_tens [.int m] s = some (.int x,s)∧0 < x∧x.natAbs ≤ 10 ^ k :=
  ⟨_,tens_exact s h0 (by lia),Int.pow_pos (by decide),by rw [Int.natAbs_pow]; exact Nat.pow_le_pow_right (by decide) (by lia)⟩

theorem lnum_run {n:Nat} {s:Sx} (h:Good (n + 5) s):∃ d p q s',g__law_number [.dict []] s = some (d,s')∧Num 40 d p q∧Good n s':=by
  obtain ⟨w,s1,e1,w0,w1,g1⟩:=draw (n:=n + 4) h 16 (by decide) (by decide)
  have a1:sSet 1 (fCall g__law_take (aCons (fVar 0) (aCons (fC (.int 16)) aNil))) [.val (.dict []),.non,.non] s = some (.next [.val (.dict []),.val (.int w),.non],s1):=sSet_run (take_run rfl rfl e1)
  have t1:asB (f2 gLt (fVar 1) (fC (.int 10))) [.val (.dict []),.val (.int w),.non] s1 = some (decide (w < 10),s1):=rfl
  have t2:asB (f2 gLt (fVar 1) (fC (.int 15))) [.val (.dict []),.val (.int w),.non] s1 = some (decide (w < 15),s1):=rfl
  by_cases h1:w < 10
  · rw [decide_eq_true h1] at t1
    obtain ⟨r,s2,e2,p1,p2,g2⟩:=draw (n:=n + 3) g1 9 (by decide) (by decide)
    exact ⟨.tuple [.int (r - 4),.int 1],r - 4,1,s2,fn_run (n:=1) (m:=2) (G:=G__law_number) rfl (sSeq_n a1 (sSeq_r (sIf_t t1 (sRet_run (eTup_run (aCons_run (f2_run (take_run rfl rfl e2) rfl (subI r 4)) (aCons_run (F:=fC (.int 1)) (FL:=aNil) rfl rfl)) (small2 _ _)))))),⟨rfl,by decide,by rw [Int.gcd_one_right],bt_lt (by lia) (by lia),.lit (by decide)⟩,g2.mono (by lia)⟩
  · rw [decide_eq_false h1] at t1
    by_cases h2:w < 15
    · rw [decide_eq_true h2] at t2
      obtain ⟨r,s2,e2,p1,p2,g2⟩:=draw (n:=n + 3) g1 25 (by decide) (by decide)
      obtain ⟨r',s3,e3,p3,p4,g3⟩:=draw (n:=n + 2) g2 4 (by decide) (by decide)
      have b1:Bt 40 (r - 12):=bt_lt (by lia) (by lia)
      have b2:Bt 40 (2 + r'):=bt_lt (by lia) (by lia)
      exact ⟨_,_,_,s3,fn_run (n:=1) (m:=2) (G:=G__law_number) rfl (sSeq_n a1 (sSeq_n (sIf_f t1 rfl) (sSeq_r (sIf_t t2 (sRet_run (fCall_run (aCons_run (f2_run (take_run rfl rfl e2) rfl (subI r 12)) (aCons_run (FL:=aNil) (f2_run (a:=.int 2) rfl (take_run rfl rfl e3) (addI 2 r')) rfl)) (part_run s3 b1 b2 (by decide) (by lia)))))))),Num.num (by lia) b1 b2,g3.mono (by lia)⟩
    · rw [decide_eq_false h2] at t2
      obtain ⟨r1,s2,e2,p1,p2,g2⟩:=draw (n:=n + 3) g1 1000 (by decide) (by decide)
      obtain ⟨r2,s3,e3,p3,p4,g3⟩:=draw (n:=n + 2) g2 1000000 (by decide) (by decide)
      obtain ⟨r3,s4,e4,p5,p6,g4⟩:=draw (n:=n + 1) g3 2 (by decide) (by decide)
      obtain ⟨r4,s5,e5,p7,p8,g5⟩:=draw (n:=n) g4 999999 (by decide) (by decide)
      have b1:Bt 32 (r1 * 1000000 + r2):=bt_lt (by lia) (by lia)
      have b3:Bt 1 (1 - 2 * r3):=bt_lt (by lia) (by lia)
      have b4:Bt 40 ((r1 * 1000000 + r2) * (1 - 2 * r3)):=(b1.mul b3).mono (by decide)
      have b5:Bt 40 (1 + r4):=bt_lt (by lia) (by lia)
      exact ⟨_,_,_,s5,fn_run (n:=1) (m:=2) (G:=G__law_number) rfl (sSeq_n a1 (sSeq_n (sIf_f t1 rfl) (sSeq_n (sIf_f t2 rfl) (sSeq_n (sSet_run (f2_run (f2_run (take_run rfl rfl e2) (b:=.int 1000000) rfl (mulI (Bt.ok (n:=20) (m:=20) (bt_lt (by lia) (by lia)) (.lit (by decide)) (by decide)))) (take_run rfl rfl e3) (addI _ r2)))
        (sRet_run (fCall_run (aCons_run (f2_run (a:=.int (r1 * 1000000 + r2)) rfl (f2_run (a:=.int 1) rfl (f2_run (a:=.int 2) rfl (take_run rfl rfl e4) (mulI (Bt.ok (n:=2) (m:=20) (.lit (by decide)) (bt_lt (by lia) (by lia)) (by decide)))) (subI 1 _)) (mulI (b1.ok b3 (by decide)))) (aCons_run (FL:=aNil) (f2_run (a:=.int 1) rfl (take_run rfl rfl e5) (addI 1 r4)) rfl)) (part_run s5 b4 b5 (by decide) (by lia)))))))),Num.num (by lia) b4 b5,g5⟩
theorem great_run {n:Nat} {s:Sx} (h:Good (n + 6) s):∃ d p q s',g__law_great [.dict []] s = some (d,s')∧Num 130 d p q∧Good n s':=by
  obtain ⟨r1,s1,e1,p1,p2,g1⟩:=draw (n:=n + 5) h 1000000000000000000 (by decide) (by decide)
  obtain ⟨r2,s2,e2,p3,p4,g2⟩:=draw (n:=n + 4) g1 21 (by decide) (by decide)
  obtain ⟨r3,s3,e3,p5,p6,g3⟩:=draw (n:=n + 3) g2 1000000000 (by decide) (by decide)
  obtain ⟨r4,s4,e4,p7,p8,g4⟩:=draw (n:=n + 2) g3 1000000000000000 (by decide) (by decide)
  obtain ⟨r5,s5,e5,p9,p10,g5⟩:=draw (n:=n + 1) g4 16 (by decide) (by decide)
  obtain ⟨r6,s6,e6,p11,p12,g6⟩:=draw (n:=n) g5 2 (by decide) (by decide)
  obtain ⟨x,t1,x0,bx⟩:=tens_small s2 (k:=20) (m:=r2) p3 (by lia) (by decide)
  replace bx:Bt 67 x:=Nat.lt_of_le_of_lt bx (by decide)
  obtain ⟨y,t2,y0,byy⟩:=tens_small s5 (k:=15) (m:=r5) p9 (by lia) (by decide)
  replace byy:Bt 50 y:=Nat.lt_of_le_of_lt byy (by decide)
  have b1:Bt 60 r1:=bt_lt (by lia) (by lia)
  have b3:Bt 30 r3:=bt_lt (by lia) (by lia)
  have b4:Bt 50 r4:=bt_lt (by lia) (by lia)
  have b6:Bt 1 (1 - 2 * r6):=bt_lt (by lia) (by lia)
  have bt:Bt 128 (r1 * x + r3):=((b1.mul bx).add b3).mono (by decide)
  have bb:Bt 130 (1 + r4 * y):=((Bt.lit (n:=1) (i:=1) (by decide)).add (b4.mul byy)).mono (by decide)
  have bt2:Bt 130 ((r1 * x + r3) * (1 - 2 * r6)):=(bt.mul b6).mono (by decide)
  have hb0:1 + r4 * y ≠ 0:=by
    have:0 ≤ r4 * y:=Int.mul_nonneg p7 (by lia)
    clear bt bt2 bb
    lia
  exact ⟨_,_,_,s6,fn_run (n:=1) (m:=2) (G:=G__law_great) rfl (sSeq_n (sSet_run (f2_run (f2_run (take_run rfl rfl e1) (fCall_run (aCons_run (FL:=aNil) (take_run rfl rfl e2) rfl) t1) (mulI (b1.ok bx (by decide)))) (take_run rfl rfl e3) (addI _ r3)))
    (sSeq_n (sSet_run (f2_run (a:=.int 1) rfl (f2_run (take_run rfl rfl e4) (fCall_run (aCons_run (FL:=aNil) (take_run rfl rfl e5) rfl) t2) (mulI (b4.ok byy (by decide)))) (addI 1 _)))
    (sRet_run (fCall_run (aCons_run (f2_run (a:=.int (r1 * x + r3)) rfl (f2_run (a:=.int 1) rfl (f2_run (a:=.int 2) rfl (take_run rfl rfl e6) (mulI (Bt.ok (n:=2) (m:=20) (.lit (by decide)) (bt_lt (by lia) (by lia)) (by decide)))) (subI 1 _)) (mulI (bt.ok b6 (by decide)))) (aCons_run (F:=fVar 2) (FL:=aNil) rfl rfl)) (part_run s6 bt2 bb (by decide) hb0))))),Num.num hb0 bt2 bb,g6⟩
theorem anynum_run {n:Nat} {s:Sx} (h:Good (n + 7) s):∃ d p q s',g__law_any_number [.dict []] s = some (d,s')∧Num 130 d p q∧Good n s':=by
  obtain ⟨r,s1,e1,p1,p2,g1⟩:=draw (n:=n + 6) h 8 (by decide) (by decide)
  have t:asB (f2 gEq (fCall g__law_take (aCons (fVar 0) (aCons (fC (.int 8)) aNil))) (fC (.int 0))) [.val (.dict [])] s = some (decide (r = 0),s1):=asB_r (f2_run (take_run rfl rfl e1) rfl (gEq_int r 0))
  by_cases hr:r = 0
  · rw [decide_eq_true hr] at t
    obtain ⟨d,p,q,s2,e2,hN,g2⟩:=great_run (n:=n) g1
    exact ⟨d,p,q,s2,fn_run (n:=1) (m:=0) (G:=G__law_any_number) rfl (sRet_run (eIf_t t (fCall_run (ds:=[.dict []]) rfl e2))),hN,g2⟩
  · rw [decide_eq_false hr] at t
    obtain ⟨d,p,q,s2,e2,hN,g2⟩:=lnum_run (n:=n + 1) g1
    exact ⟨d,p,q,s2,fn_run (n:=1) (m:=0) (G:=G__law_any_number) rfl (sRet_run (eIf_f t (fCall_run (ds:=[.dict []]) rfl e2))),hN.mono (by decide),g2.mono (by lia)⟩

theorem number_run {k m:Nat} {t b:Int} (s:Sx) (h:Bt m t ∨ Bt m b) (hm:m ≤ 2000) (hb:Bt k b) (hk:k ≤ 9000) (h0:b ≠ 0):g_number [.int t,.int b] s = some (num t b,s):=by
  have hg:=Bt.gcd (a:=t) hb h0
  have gp:=gcd_pos (t:=t) h0
  have e:=gd_run (a:=t) s h hm
  by_cases hn:b < 0
  · have d1:divOk t (-(Int.gcd t b:Int)) = true:=Bt.div hg.neg (by lia) (by omega)
    have d2:divOk b (-(Int.gcd t b:Int)) = true:=Bt.div hg.neg (by lia) (by omega)
    simp [g_number,mkFn,G_number,sSeq,sSet,fCall,aCons,aNil,fVar,fC,e,sIf,asB,f2,f1,gLt,gI,hn,gNeg,sRet,eTup,gDivI,d1,d2,small2,num,numT,numB,sgn,fdiv_neg_sgn]
  · have d1:divOk t (Int.gcd t b:Int) = true:=Bt.div hg (by lia) (by omega)
    have d2:divOk b (Int.gcd t b:Int) = true:=Bt.div hg (by lia) (by omega)
    simp [g_number,mkFn,G_number,sSeq,sSet,fCall,aCons,aNil,fVar,fC,e,sIf,asB,f2,f1,gLt,gI,hn,gNeg,sRet,eTup,gDivI,d1,d2,small2,num,numT,numB,sgn,sNext]
theorem summed_run {k m:Nat} {a b c d:Int} (s:Sx) (hk:k ≤ 4000) (hm:m ≤ 2000) (ba:Bt k a) (bb:Bt k b) (bc:Bt m c) (bd:Bt m d) (hb:0 < b) (hd:0 < d) (h1:Int.gcd a b = 1) (h2:Int.gcd c d = 1) :
    g_summed [.int a,.int b,.int c,.int d] s = some (num (a * d + c * b) (b * d),s):=by
  have e1:=gd_run (a:=b) (b:=d) s (.inr bd) hm
  have hg0:(Int.gcd b d:Int) ≠ 0:=by have:=gcd_pos (t:=b) (b:=d) (by lia); lia
  have bg:Bt m (Int.gcd b d:Int):=Bt.gcd bd (by lia)
  have d1:∀ x,divOk x (Int.gcd b d:Int) = true:=fun x => Bt.div bg hg0 (by lia)
  have b1:Bt k (b.fdiv (Int.gcd b d)):=bb.fdiv
  have b2:Bt m (d.fdiv (Int.gcd b d)):=bd.fdiv
  have m1:mulOk a (d.fdiv (Int.gcd b d)) = true:=ba.ok b2 (by lia)
  have m2:mulOk c (b.fdiv (Int.gcd b d)) = true:=bc.ok b1 (by lia)
  have e2:=number_run (t:=a * (d.fdiv (Int.gcd b d)) + c * (b.fdiv (Int.gcd b d))) s (.inr bg) hm bg (by lia) hg0
  have m3:mulOk (b.fdiv (Int.gcd b d)) (d.fdiv (Int.gcd b d)) = true:=b1.ok b2 (by lia)
  have m4:mulOk (b.fdiv (Int.gcd b d) * (d.fdiv (Int.gcd b d))) (numB (a * (d.fdiv (Int.gcd b d)) + c * (b.fdiv (Int.gcd b d))) (Int.gcd b d)) = true:=(b1.mul b2).ok (Bt.numB bg) (by lia)
  obtain ⟨r1,r2⟩:=sum_num hb hd h1 h2
  have e2':g_number [.int (a * (d.fdiv (Int.gcd b d)) + c * (b.fdiv (Int.gcd b d))),.int (Int.gcd b d:Int)] s = some (.tuple [.int (numT (a * (d.fdiv (Int.gcd b d)) + c * (b.fdiv (Int.gcd b d))) (Int.gcd b d)),.int (numB (a * (d.fdiv (Int.gcd b d)) + c * (b.fdiv (Int.gcd b d))) (Int.gcd b d))],s):=e2
  simp [g_summed,mkFn,G_summed,sSeq,sSet,sUnp,Tgt.run,setD,fCall,aCons,aNil,fVar,e1,f2,gDivI,gI,d1,gAdd,gAddI,gMulI,m1,m2,e2',sRet,eTup,m3,m4,small2]
  rw [r1,r2]; rfl
theorem plus_run {k m:Nat} {x y:D} {a b c d:Int} (s:Sx) (hk:k ≤ 4000) (hm:m ≤ 2000) (hx:Num k x a b) (hy:Num m y c d):g_plus [x,y] s = some (num (a * d + c * b) (b * d),s):=by
  obtain ⟨rfl,hb,h1,ba,bb⟩:=hx
  obtain ⟨rfl,hd,h2,bc,bd⟩:=hy
  have e:=summed_run s hk hm ba bb bc bd hb hd h1 h2
  simp [g_plus,mkFn,G_plus,sRet,fCall,aCons,aNil,f2,fVar,fC,gIx,atI0,atI1,e]
theorem minus_run {k m:Nat} {x y:D} {a b c d:Int} (s:Sx) (hk:k ≤ 4000) (hm:m ≤ 2000) (hx:Num k x a b) (hy:Num m y c d):g_minus [x,y] s = some (num (a * d - c * b) (b * d),s):=by
  obtain ⟨rfl,hb,h1,ba,bb⟩:=hx
  obtain ⟨rfl,hd,h2,bc,bd⟩:=hy
  have e:=summed_run s hk hm ba bb bc.neg bd hb hd h1 (by rw [Int.neg_gcd]; exact h2)
  have e3:a * d + -c * b = a * d - c * b:=by rw [Int.neg_mul,Int.sub_eq_add_neg]
  rw [e3] at e
  simp [g_minus,mkFn,G_minus,sRet,fCall,aCons,aNil,f2,f1,fVar,fC,gIx,gNeg,atI0,atI1,e]
theorem times_run {k m:Nat} {x y:D} {a b c d:Int} (s:Sx) (hk:k ≤ 4000) (hm:m ≤ 2000) (hx:Num k x a b) (hy:Num m y c d):g_times [x,y] s = some (num (a * c) (b * d),s):=by
  obtain ⟨rfl,hb,h1,ba,bb⟩:=hx
  obtain ⟨rfl,hd,h2,bc,bd⟩:=hy
  have e1:g_number [.int a,.int d] s = some (.tuple [.int (numT a d),.int (numB a d)],s):=number_run (t:=a) s (.inr bd) hm bd (by lia) (by lia)
  have e2:g_number [.int c,.int b] s = some (.tuple [.int (numT c b),.int (numB c b)],s):=number_run (t:=c) s (.inl bc) hm bb (by lia) (by lia)
  have m1:mulOk (numT a d) (numT c b) = true:=(Bt.numT ba).ok (Bt.numT bc) (by lia)
  have m2:mulOk (numB a d) (numB c b) = true:=(Bt.numB bd).ok (Bt.numB bb) (by lia)
  obtain ⟨r1,r2⟩:=mul_num hb (show d ≠ 0 by lia) h1 h2
  simp [g_times,mkFn,G_times,sSeq,sPar,sRet,fCall,aCons,aNil,f2,fVar,fC,gIx,atI0,atI1,e1,e2,eTup,gMulI,gI,m1,m2,small2]
  rw [r1,r2]; rfl
theorem plus_enc {k m:Nat} {a b:Rat} (s:Sx) (hk:k ≤ 4000) (hm:m ≤ 2000) (ha:Sz k a) (hb:Sz m b):g_plus [enc a,enc b] s = some (enc (a + b),s):=by
  rw [plus_run s hk hm ha.num hb.num,add_enc]
theorem minus_enc {k m:Nat} {a b:Rat} (s:Sx) (hk:k ≤ 4000) (hm:m ≤ 2000) (ha:Sz k a) (hb:Sz m b):g_minus [enc a,enc b] s = some (enc (a - b),s):=by
  rw [minus_run s hk hm ha.num hb.num,sub_enc]
theorem times_enc {k m:Nat} {a b:Rat} (s:Sx) (hk:k ≤ 4000) (hm:m ≤ 2000) (ha:Sz k a) (hb:Sz m b):g_times [enc a,enc b] s = some (enc (a * b),s):=by
  rw [times_run s hk hm ha.num hb.num,mul_enc]
noncomputable def fieldD:D:=.dict [(.str "",.str "FractionField"),(.str "nought",zD),(.str "unit",.tuple [.int 1,.int 1])]
theorem fld_nought:gFld ["FractionField"] "nought" fieldD = some zD:=by simp [gFld,fieldD,lookF]
theorem makeF {δ:Sl} {s:Sx}:fMake "FractionField" ["nought","unit"] gI_FractionField aNil δ s = some (fieldD,s):=rfl
theorem methF {m:Str} {g:GF} {Fo:FE} {FL:FA} {δ:Sl} {s s1:Sx} {ds:List D} {r:Option (D × Sx)} (h0:Fo δ s = some (fieldD,s)) (h1:FL δ s = some (ds,s1)) (e:g (fieldD :: ds) s1 = r)
    (hm:lookF m [(.str "nought",zD),(.str "unit",.tuple [.int 1,.int 1])] = none):fMeth [("FractionField",g)] m Fo FL δ s = r:=by
  unfold fMeth
  rw [h0]
  simp only [Option.bind_some,fieldD]
  rw [if_pos (by rw [hm]; rfl)]
  simp only [List.lookup,beq_self_eq_true,Option.bind_some,h1]
  exact e
theorem addF {k m:Nat} {a b:Rat} (s:Sx) (hk:k ≤ 4000) (hm:m ≤ 2000) (ha:Sz k a) (hb:Sz m b):g_FractionField_added [fieldD,enc a,enc b] s = some (enc (a + b),s):=by
  refine fn_run (n:=3) (m:=0) (G:=G_FractionField_added) rfl ?_
  show G_FractionField_added [.val fieldD,.val (enc a),.val (enc b)] s = _
  unfold G_FractionField_added sRet
  exact congrArg (Option.map _) (fCall_run (ds:=[enc a,enc b]) rfl (plus_enc s hk hm ha hb))
theorem subF {k m:Nat} {a b:Rat} (s:Sx) (hk:k ≤ 4000) (hm:m ≤ 2000) (ha:Sz k a) (hb:Sz m b):g_FractionField_lessened [fieldD,enc a,enc b] s = some (enc (a - b),s):=by
  refine fn_run (n:=3) (m:=0) (G:=G_FractionField_lessened) rfl ?_
  show G_FractionField_lessened [.val fieldD,.val (enc a),.val (enc b)] s = _
  unfold G_FractionField_lessened sRet
  exact congrArg (Option.map _) (fCall_run (ds:=[enc a,enc b]) rfl (minus_enc s hk hm ha hb))
theorem mulF {k m:Nat} {a b:Rat} (s:Sx) (hk:k ≤ 4000) (hm:m ≤ 2000) (ha:Sz k a) (hb:Sz m b):g_FractionField_multiplied [fieldD,enc a,enc b] s = some (enc (a * b),s):=by
  refine fn_run (n:=3) (m:=0) (G:=G_FractionField_multiplied) rfl ?_
  show G_FractionField_multiplied [.val fieldD,.val (enc a),.val (enc b)] s = _
  unfold G_FractionField_multiplied sRet
  exact congrArg (Option.map _) (fCall_run (ds:=[enc a,enc b]) rfl (times_enc s hk hm ha hb))

theorem small_fit:∀ t ∈ ([1,-1,2,-2,3,-3,1,-1]:List Int),∀ b ∈ ([1,2]:List Int),Rat.divInt t b ≠ 0∧Rat.divInt t b * ((2:Nat):Rat) = ((t * 2 / b:Int):Rat)∧(t * 2 / b).natAbs ≤ 6∧(Rat.divInt t b)⁻¹ * ((6:Nat):Rat) = ((6 * b / t:Int):Rat)∧(6 * b / t).natAbs ≤ 12∧b ≠ 0∧t.natAbs < 2 ^ 40∧b.natAbs < 2 ^ 40:=by decide +kernel
noncomputable def Lead (r:Rat):Prop:=r ≠ 0∧Fit 2 6 r∧Fit 6 12 r⁻¹
theorem lsmall_run {n:Nat} {s:Sx} (h:Good (n + 2) s):∃ r s',g__law_small [.dict []] s = some (enc r,s')∧Lead r∧Good n s':=by
  obtain ⟨a,s1,e1,a0,a1,g1⟩:=draw (n:=n + 1) h 8 (by decide) (by decide)
  obtain ⟨c,s2,e2,c0,c1,g2⟩:=draw (n:=n) g1 8 (by decide) (by decide)
  obtain ⟨j,rfl⟩:=Int.eq_ofNat_of_zero_le a0
  obtain ⟨t,ej⟩:∃ t,([1,-1,2,-2,3,-3,1,-1]:List Int)[j]? = some t:=⟨_,List.getElem?_eq_getElem (show j < 8 by lia)⟩
  have et:gIx (.list (([1,-1,2,-2,3,-3,1,-1]:List Int).map .int)) (.int (j:Nat)) = some (.int t):=(ix_seq rfl _).trans (L3.atI_nat (by rw [List.getElem?_map,ej]; rfl))
  have dk:divOk c 6 = true:=Bt.div (n:=7) (.lit (by decide)) (by decide) (by decide)
  obtain ⟨b,hb,eb⟩:∃ b:Int,b ∈ ([1,2]:List Int)∧1 + c.fdiv 6 = b:=by
    rw [Int.fdiv_eq_ediv_of_nonneg _ (by decide)]
    by_cases h6:c < 6
    · exact ⟨1,by decide,by lia⟩
    · exact ⟨2,by decide,by lia⟩
  obtain ⟨q1,q2,q3,q4,q5,q6,q7,q8⟩:=small_fit t (List.mem_of_getElem? ej) b hb
  have e3:=part_run (k:=40) (t:=t) (b:=b) s2 q7 q8 (by decide) q6
  refine ⟨Rat.divInt t b,s2,?_,⟨q1,⟨_,q2,q3⟩,⟨_,q4,q5⟩⟩,g2⟩
  rw [← num_enc q6]
  exact fn_run (n:=1) (m:=0) (G:=G__law_small) rfl (sRet_run (fCall_run (aCons_run (f2_run rfl (take_run (F:=fC (.int 8)) rfl rfl e1) et) (aCons_run (FL:=aNil) (f2_run rfl (f2_run (take_run (F:=fC (.int 8)) rfl rfl e2) rfl (divI dk)) (by rw [addI,eb])) rfl)) e3))
theorem trR_self {l:List Rat} (h:Trim l):trR l = l:=(trim_trR l).ext h (co_trR l)
theorem trim_snoc {l:List Rat} {v:Rat} (h:v ≠ 0):Trim (l ++ [v]):=fun _ => by
  rw [co_app,List.length_append,List.length_singleton,Nat.add_sub_cancel,if_neg (Nat.lt_irrefl _),if_pos rfl]; exact h
theorem little_fit {t:Int} (h:-3 ≤ t) (h':t ≤ 3):(PyData.tuple [.int t,.int 1]) = enc (t:Rat)∧(t:Rat) * ((2:Nat):Rat) = ((t * 2:Int):Rat)∧(t * 2).natAbs ≤ 6 :=
  ⟨rfl,by rw [Rat.intCast_mul]; rfl,by lia⟩
theorem max0 {z:Int}:gMax (.int 0) (.int z) = some (.int (if z > 0 then z else 0)):=by simp only [gMax,gI,if_true]
inductive RowD (F:FE) (P:Rat→Prop) (n:Nat) (most:Int) (s:Sx):Prop
  | mk (z:Int) (m L:List Rat) (v:Rat) (s1 s2 s3:Sx)
    (a1:sSet 2 (fCall g__law_take (aCons (fVar 0) (aCons (f2 gAdd (fVar 1) (fC (.int 2))) aNil))) [.val (.dict []),.val (.int most),.non,.non] s = some (.next [.val (.dict []),.val (.int most),.val (.int z),.non],s1))
    (a2:sSetL 3 (fComp 1 [0] (iRange1 (f2 gMax (fC (.int 0)) (f2 gSubI (fVar 2) (fC (.int 1))))) (.one 0) fTrue F) [.val (.dict []),.val (.int most),.val (.int z),.non] s1 = some (.next [.val (.dict []),.val (.int most),.val (.int z),.val (.list (m.map enc))],s2))
    (a3:f2 gAdd (fVar 3) (f2 gMulA (eLst (aCons (fCall g__law_small (aCons (fVar 0) aNil)) aNil)) (f1 gInt (f2 gGt (fVar 2) (fC (.int 0))))) [.val (.dict []),.val (.int most),.val (.int z),.val (.list (m.map enc))] s2 = some (.list (L.map enc),s3))
    (hm:∀ r ∈ m,P r) (hv:Lead v) (hL:L = [] ∨ L = m ++ [v]) (hl:(L.length:Int) ≤ most + 1) (g:Good n s3)
theorem row_run {F:FE} {P:Rat→Prop} {per n:Nat} {most:Int} {s:Sx} (step:∀ n s d,Good (n + per) s→∃ x s',F [.val d,.val (.dict [])] s = some (x,s')∧(∃ r,x = enc r∧P r)∧Good n s') (h0:0 ≤ most) (h1:most ≤ 16) (h:Good (n + 3 + per * most.toNat) s):RowD F P n most s:=by
  obtain ⟨z,s1,e1,z0,z1,g1⟩:=draw (n:=n + 2 + per * most.toNat) (h.mono (by lia)) (most + 2) (by lia) (by lia)
  have hz':(if z - 1 > 0 then z - 1 else 0) = ((z - 1).toNat:Int):=by split <;> lia
  obtain ⟨xs,s2,e2,hx,hlen,g2⟩:=compD_gen (T:=.one 0) (Ft:=fTrue) (F:=F) (δc:=[.non,.val (.dict [])]) (fun d => ∃ r,d = enc r∧P r) per (fun n s d hg => by
    obtain ⟨x,s',e,hp,g⟩:=step n s d hg
    exact ⟨_,x,s',rfl,rfl,e,hp,g⟩) (rng 0 (z - 1).toNat) (n + 2) s1 (g1.mono (by rw [rng_len]; have:=Nat.mul_le_mul_left per (show (z - 1).toNat ≤ most.toNat by lia); lia))
  obtain ⟨m,rfl,hm⟩:=rats hx
  rw [rng_len,List.length_map] at hlen
  obtain ⟨v,s3,e3,hv,g3⟩:=lsmall_run (n:=n) g2
  have em:gMulA (.list [enc v]) (.int (if decide (0 < z) then 1 else 0)) = some (.list ((if 0 < z then [v] else []).map enc)):=by
    by_cases hz:0 < z
    · simp only [hz,decide_true,if_true,mul_1]; rfl
    · simp only [hz,decide_false,Bool.false_eq_true,if_false,mul_0]; rfl
  have hi:(if 0 < z then [v] else ([]:List Rat)).length ≤ 1:=by split <;> simp
  refine ⟨z,m,m ++ (if 0 < z then [v] else []),v,s1,s2,s3,sSet_run (take_run (M:=most + 2) (F:=f2 gAdd (fVar 1) (fC (.int 2))) rfl (f2_run rfl rfl rfl) e1),?_,?_,hm,hv,?_,?_,g3⟩
  · unfold sSetL fComp
    rw [iRange1_r (s:=s1) (z:=((z - 1).toNat:Int)) (f2_run (d:=.int ((z - 1).toNat:Int)) rfl (f2_run rfl rfl (subI z 1)) (by rw [max0,hz'])) (Int.natCast_nonneg _) (by lia)]
    simp only [Option.bind_some,Int.toNat_natCast,small_le (l:=rng 0 (z - 1).toNat) (by rw [rng_len]; lia),if_true]
    rw [show compDl 1 [0] [.val (.dict []),.val (.int most),.val (.int z),.non] = [.non,.val (.dict [])] from rfl,e2]
    rfl
  · refine f2_run (a:=.list (m.map enc)) (s1:=s2) rfl (f2_run (a:=.list [enc v]) (b:=.int (if decide (0 < z) then 1 else 0)) (eLst_run (aCons_run (FL:=aNil) (s1:=s3) e3 rfl) (small_le (by simp))) (f1_run (f2_run (d:=.bool (decide (0 < z))) rfl rfl (by simp only [gGt,gI,if_true])) rfl) em) ?_
    rw [catL (by rw [List.length_map,List.length_map]; lia),List.map_append]
  · by_cases hz:0 < z
    · rw [if_pos hz]; exact .inr rfl
    · rw [if_neg hz,List.append_nil]; exact .inl (List.eq_nil_of_length_eq_zero (by lia))
  · rw [List.length_append]
    by_cases hz:0 < z
    · rw [if_pos hz,List.length_singleton]; lia
    · rw [if_neg hz,List.length_nil]; lia
theorem llittle_run {n:Nat} {most:Int} {s:Sx} (h0:0 ≤ most) (h1:most ≤ 16) (h:Good (n + 20) s):∃ (l:List Rat) (s':Sx),g__law_little [.dict [],.int most] s = some (.tuple (l.map enc),s')∧Trim l∧(∀ k,Fit 2 6 (co l k))∧(l.length:Int) ≤ most + 1∧(0 < l.length→Lead (co l (l.length - 1)))∧Good n s':=by
  obtain ⟨z,m,L,v,s1,s2,s3,a1,a2,a3,hm,hv,hL,hl,g⟩:=row_run (P:=Fit 2 6) (F:=eTup (aCons (f2 gSubI (fCall g__law_take (aCons (fVar 1) (aCons (fC (.int 7)) aNil))) (fC (.int 3))) (aCons (fC (.int 1)) aNil))) (per:=1) (n:=n) (fun n s d hg => by
    obtain ⟨r,s1,e1,p1,p2,g1⟩:=draw (n:=n) hg 7 (by decide) (by decide)
    obtain ⟨w1,w2,w3⟩:=little_fit (t:=r - 3) (by lia) (by lia)
    exact ⟨.tuple [.int (r - 3),.int 1],s1,eTup_run (aCons_run (f2_run (take_run (F:=fC (.int 7)) rfl rfl e1) rfl (subI r 3)) (aCons_run (FL:=aNil) rfl rfl)) (small2 _ _),⟨_,w1,_,w2,w3⟩,g1⟩) h0 h1 (h.mono (by lia))
  have q:Trim L∧(∀ k,Fit 2 6 (co L k))∧(0 < L.length→Lead (co L (L.length - 1))):=by
    rcases hL with rfl | rfl
    · exact ⟨fun z => absurd z (by simp),fun k => co_mem (fun _ z => nomatch z) (Fit.zero _ _) k,fun z => absurd z (by simp)⟩
    · refine ⟨trim_snoc hv.1,fun k => co_mem (fun r hr => ?_) (Fit.zero _ _) k,fun _ => ?_⟩
      · rcases List.mem_append.mp hr with hr | hr
        · exact hm r hr
        · rw [List.mem_singleton.mp hr]; exact hv.2.1
      · rw [co_app,List.length_append,List.length_singleton,Nat.add_sub_cancel,if_neg (Nat.lt_irrefl _),if_pos rfl]; exact hv
  have sL:∀ k,Sz 2000 (co L k):=fun k => (q.2.1 k).sz (by decide) (Nat.lt_of_lt_of_le (show 2 < 2 ^ 2 by decide) (Nat.pow_le_pow_right (by decide) (by decide))) (Nat.lt_of_lt_of_le (show 6 < 2 ^ 3 by decide) (Nat.pow_le_pow_right (by decide) (by decide)))
  have t:=ltrimmed_run (n:=2000) (l:=(L.map enc)) s3 (all_enc sL) (by rw [List.length_map]; lia)
  rw [trimD_enc,trR_self q.1] at t
  exact ⟨L,s3,fn_run (n:=2) (m:=2) (G:=G__law_little) rfl (sSeq_n a1 (sSeq_n a2 (sRet_run (fCall_run (aCons_run (FL:=aNil) a3 rfl) t)))),q.1,q.2.1,hl,q.2.2,g⟩

theorem lsum_run {ad bd:D} {a b:List Rat} {N:Nat} (s:Sx) (ha:seqOf ad = some (a.map enc)) (hb:seqOf bd = some (b.map enc)) (hN:N = max a.length b.length) (hl:N ≤ 40)
    (sa:∀ k,Sz 2000 (co a k)) (sb:∀ k,Sz 2000 (co b k)) (sp:∀ k,Sz 2000 (co a k + co b k)) :
    ∃ p:List Rat,g__law_sum [ad,bd] s = some (.tuple (p.map enc),s)∧Trim p∧p.length ≤ N∧∀ k,co p k = co a k + co b k:=by
  obtain ⟨δ',s',e,hs,found,x3,x4,x5,hδ,hlen,hc⟩:=forD_at (T:=.one 3) (G:=B__law_sum_1) (fun j δ s' => s' = s∧∃ found x3 x4 x5,δ = [.val ad,.val bd,.own (found.map enc),x3,x4,x5]∧found.length = j∧∀ k,k < j→co found k = co a k + co b k)
    (rng 0 N) [.val ad,.val bd,.own (([]:List Rat).map enc),.non,.non,.non] s ⟨rfl,[],.non,.non,.non,rfl,rfl,fun k hk => by lia⟩ (fun j d δ s' hd x__165 => by
      obtain ⟨hs,found,x3,x4,x5,hδ,hlen,hc⟩:=x__165
      subst hs hδ
      obtain ⟨hj,rfl⟩:=rng_get hd
      refine ⟨[.val ad,.val bd,.own (found.map enc),.val (.int (j:Int)),x4,x5],[.val ad,.val bd,.own ((found ++ [co a j + co b j]).map enc),.val (.int (j:Int)),.val (enc (co a j)),.val (enc (co b j))],s',rfl,?_,rfl,_,_,_,_,rfl,by simp [hlen],fun k hk => ?_⟩
      · unfold B__law_sum_1
        rw [sSeq_next (sSet_run (pick_run (i:=3) (v:=0) (j:=j) (a:=a) (xd:=ad) rfl rfl ha))]
        rw [sSeq_next (sSet_run (pick_run (i:=3) (v:=1) (j:=j) (a:=b) (xd:=bd) rfl rfl hb))]
        rw [sApp_run (v:=enc (co a j + co b j)) (s1:=s') (xs:=found.map enc) (lplus_enc s' (by decide) (sa j) (sb j)) rfl (by rw [List.length_map]; lia)]
        rw [List.map_append]
        rfl
      · rw [co_app,hlen]
        by_cases h:k < j
        · rw [if_pos h]; exact hc k h
        · rw [if_neg h,if_pos (by lia),show k = j by lia])
  subst hs hδ
  rw [rng_len] at hlen hc
  have hc2:∀ k,co found k = co a k + co b k:=fun k => by
    by_cases h:k < N
    · exact hc k h
    · rw [co_out (l:=found) (by lia),co_out (l:=a) (by lia),co_out (l:=b) (by lia)]; grind
  have t:=ltrimmed_run (n:=2000) (l:=(found.map enc)) s' (all_enc fun k => by rw [hc2]; exact sp k) (by rw [List.length_map]; lia)
  rw [trimD_enc] at t
  refine ⟨trR found,?_,trim_trR _,by rw [len_trR,← hlen]; exact trL_le _ _,fun k => by rw [co_trR]; exact hc2 k⟩
  have b1:gLen ad = some (.int (a.length:Int)):=by rw [len_seq ha,List.length_map]
  have b2:gLen bd = some (.int (b.length:Int)):=by rw [len_seq hb,List.length_map]
  have v1:gMax (.int (a.length:Int)) (.int (b.length:Int)) = some (.int (N:Int)):=by
    have:(if (b.length:Int) > (a.length:Int) then (b.length:Int) else (a.length:Int)) = (N:Int):=by
      split <;> lia
    simp only [gMax,gI,if_true,this]
  have a1:sSetO 2 (oLst aNil) [.val ad,.val bd,.non,.non,.non,.non] s' = some (.next [.val ad,.val bd,.own (([]:List Rat).map enc),.non,.non,.non],s'):=by
    have sm:small [] = true:=by decide
    simp [sSetO,oLst,aNil,sm]
  have a2:L__law_sum_2 [.val ad,.val bd,.own (([]:List Rat).map enc),.non,.non,.non] s' = some (.next [.val ad,.val bd,.own (found.map enc),x3,x4,x5],s'):=by
    have r:=iRange1_nat (F:=f2 gMax (f1 gLen (fVar 0)) (f1 gLen (fVar 1))) (δ:=[.val ad,.val bd,.own (([]:List Rat).map enc),.non,.non,.non]) (s:=s') (s':=s') (n:=N) (f2_run (f1_run rfl b1) (f1_run rfl b2) v1) (by lia)
    unfold L__law_sum_2 sFor
    rw [r]
    exact e
  show (match G__law_sum [.val ad,.val bd,.non,.non,.non,.non] s' with | some (.ret d,s') => some (d,s') | some (.next _,s') => some (.none,s') | _ => none) = _
  unfold G__law_sum
  rw [sSeq_next a1,sSeq_next a2]
  simp only [sSeq,sFrz,List.getElem?_cons_zero,List.getElem?_cons_succ,List.set_cons_zero,List.set_cons_succ,sRet,fCall,aCons,fVar,aNil,t,Option.bind_some,Option.map_some]

theorem Lead.sz {r:Rat} (h:Lead r):Sz 130 r:=h.2.1.sz (by decide) (Nat.lt_of_lt_of_le (show 2 < 2 ^ 2 by decide) (Nat.pow_le_pow_right (by decide) (by decide))) (Nat.lt_of_lt_of_le (show 6 < 2 ^ 3 by decide) (Nat.pow_le_pow_right (by decide) (by decide)))
theorem sz0:Sz 130 0:=⟨Nat.pow_pos (by decide),Nat.lt_of_lt_of_le (show (1:Nat) < 2 ^ 1 by decide) (Nat.pow_le_pow_right (by decide) (by decide))⟩
theorem lpoly_run {n:Nat} {most:Int} {s:Sx} (h0:0 ≤ most) (h1:most ≤ 12) (h:Good (n + 107) s):∃ (l:List Rat) (s':Sx),g__law_poly [.dict [],.int most] s = some (.tuple (l.map enc),s')∧Trim l∧(∀ r ∈ l,Sz 130 r)∧l.length ≤ 13∧Good n s':=by
  obtain ⟨z,m,L,v,s1,s2,s3,a1,a2,a3,hm,hv,hL,hl,g⟩:=row_run (P:=Sz 130) (F:=eIf (asB (f2 gGt (fCall g__law_take (aCons (fVar 1) (aCons (fC (.int 4)) aNil))) (fC (.int 0)))) (fCall g__law_any_number (aCons (fVar 1) aNil)) (eTup (aCons (fC (.int 0)) (aCons (fC (.int 1)) aNil)))) (per:=8) (n:=n) (fun n s d hg => by
    obtain ⟨r,s1,e1,p1,p2,g1⟩:=draw (n:=n + 7) hg 4 (by decide) (by decide)
    have e:=take_run (δ:=[.val d,.val (.dict [])]) (i:=1) (F:=fC (.int 4)) rfl rfl e1
    have eg:gGt (.int r) (.int 0) = some (.bool (decide (0 < r))):=by simp only [gGt,gI,if_true]
    by_cases hr:0 < r
    · obtain ⟨x,p,q,s2,e2,hN,g2⟩:=anynum_run (n:=n) g1
      exact ⟨x,s2,eIf_t (s1:=s1) (asB_run (f2_run e rfl (eg.trans (by rw [decide_eq_true hr])))) (fCall_run (aCons_run (FL:=aNil) rfl rfl) e2),IsN.enc ⟨p,q,hN⟩,g2⟩
    · exact ⟨zD,s1,eIf_f (s1:=s1) (asB_run (f2_run e rfl (eg.trans (by rw [decide_eq_false hr])))) rfl,⟨0,enc_zero.symm,sz0⟩,g1.mono (by lia)⟩) h0 (by lia) (h.mono (by lia))
  refine ⟨L,s3,fn_run (n:=2) (m:=2) (G:=G__law_poly) rfl (sSeq_n a1 (sSeq_n a2 (sRet_run (f1_run (g:=gTuple) a3 rfl)))),?_,?_,by lia,g⟩
  · rcases hL with rfl | rfl
    · exact fun z => absurd z (by simp)
    · exact trim_snoc hv.1
  · rcases hL with rfl | rfl
    · exact fun _ z => nomatch z
    · intro r hr
      rcases List.mem_append.mp hr with hr | hr
      · exact hm r hr
      · rw [List.mem_singleton.mp hr]; exact hv.sz

noncomputable def padR (a:List Rat) (N:Nat):List Rat:=a ++ List.replicate (N - a.length) 0
theorem padR_len {a:List Rat} {N:Nat} (h:a.length ≤ N):(padR a N).length = N:=by unfold padR; rw [List.length_append,List.length_replicate]; lia
theorem co_pad (a:List Rat) (N k:Nat):co (padR a N) k = co a k:=by
  unfold padR co
  rw [List.getD_eq_getElem?_getD,List.getD_eq_getElem?_getD]
  by_cases h:k < a.length
  · rw [List.getElem?_append_left h]
  · rw [List.getElem?_append_right (by lia),List.getElem?_replicate,List.getElem?_eq_none (l:=a) (by lia)]
    split <;> rfl
theorem asL_run {k:Nat} {fr:List Nat} {Fi:FI} {T:Tgt} {Ft:FT} {F:FE} {δ:Sl} {s s1 s2:Sx} {ds xs:List D} (h:Fi δ s = some (ds,s1)) (hs:ds.length ≤ 1000) (hc:compD T Ft F (compDl k fr δ) ds s1 = some (xs,s2)):asL (fComp k fr Fi T Ft F) δ s = some (.list xs,s2):=by
  unfold asL fComp
  rw [h]
  simp only [Option.bind_some]
  rw [if_pos (small_le hs),hc]; rfl
theorem pad_run {δ:Sl} {s:Sx} {i:Nat} {xd:D} {a:List Rat} {N:Nat} (h0:δ[0]? = some (.val fieldD)) (hi:δ[i]? = some (.val xd)) (h3:δ[3]? = some (.val (.int (N:Int)))) (hx:seqOf xd = some (a.map enc)) (hl:a.length ≤ N) (hN:N ≤ 100) :
    f2 gAdd (f1 gList (fVar i)) (f2 gMulA (eLst (aCons (f1 (gFld ["FractionField"] "nought") (fVar 0)) aNil)) (f2 gSubI (fVar 3) (f1 gLen (fVar i)))) δ s = some (.list ((padR a N).map enc),s):=by
  have v0:fVar 0 δ s = some (fieldD,s):=by unfold fVar; rw [h0]
  have vi:fVar i δ s = some (xd,s):=by unfold fVar; rw [hi]
  have v3:fVar 3 δ s = some (.int (N:Int),s):=by unfold fVar; rw [h3]
  have gl:gList xd = some (.list (a.map enc)):=by
    cases xd with
    | list xs => cases hx; rfl
    | tuple xs => cases hx; rfl
    | _ => cases hx
  have sb:gSubI (.int (N:Int)) (.int (a.length:Int)) = some (.int ((N - a.length:Nat):Int)):=by
    simp only [gSubI,gI,if_true]; congr 2; omega
  have e2:f2 gMulA (eLst (aCons (f1 (gFld ["FractionField"] "nought") (fVar 0)) aNil)) (f2 gSubI (fVar 3) (f1 gLen (fVar i))) δ s = some (.list (List.replicate (N - a.length) zD),s) :=
    f2_run (a:=.list [zD]) (b:=.int ((N - a.length:Nat):Int)) (eLst_run (aCons_run (FL:=aNil) (f1_run v0 fld_nought) rfl) (small_le (by simp))) (f2_run (a:=.int (N:Int)) (b:=.int (a.length:Int)) v3 (f1_run vi (by rw [len_seq hx,List.length_map])) sb) (mulA_nat (by lia))
  refine f2_run (a:=.list (a.map enc)) (b:=.list (List.replicate (N - a.length) zD)) (f1_run vi gl) e2 ?_
  rw [catL (by simp; omega)]
  unfold padR
  rw [List.map_append,List.map_replicate,enc_zero]
theorem paired_run {od othd:D} {a b:List Rat} {N:Nat} (s:Sx) (ha:seqOf od = some (a.map enc)) (hb:seqOf othd = some (b.map enc)) (hN:N = max a.length b.length) (hl:N ≤ 100) :
    g_paired [fieldD,od,othd] s = some (.list ((((padR a N).map enc).zip ((padR b N).map enc)).map fun z => PyData.tuple [z.1,z.2]),s):=by
  refine fn_run (n:=3) (m:=3) (G:=G_paired) rfl ?_
  show G_paired [.val fieldD,.val od,.val othd,.non,.non,.non] s = _
  have v1:gMax (.int (a.length:Int)) (.int (b.length:Int)) = some (.int (N:Int)):=by
    have:(if (b.length:Int) > (a.length:Int) then (b.length:Int) else (a.length:Int)) = (N:Int):=by split <;> lia
    simp only [gMax,gI,if_true,this]
  have a1:sSet 3 (f2 gMax (f1 gLen (fVar 1)) (f1 gLen (fVar 2))) [.val fieldD,.val od,.val othd,.non,.non,.non] s = some (.next [.val fieldD,.val od,.val othd,.val (.int (N:Int)),.non,.non],s) :=
    sSet_run (f2_run (f1_run (a:=od) rfl (by rw [len_seq ha,List.length_map])) (f1_run (a:=othd) rfl (by rw [len_seq hb,List.length_map])) v1)
  have a2:=sSet_run (i:=4) (pad_run (δ:=[.val fieldD,.val od,.val othd,.val (.int (N:Int)),.non,.non]) (s:=s) (i:=1) rfl rfl rfl ha (by lia) hl)
  have a3:=sSet_run (i:=5) (pad_run (δ:=[.val fieldD,.val od,.val othd,.val (.int (N:Int)),.val (.list ((padR a N).map enc)),.non]) (s:=s) (i:=2) rfl rfl rfl hb (by lia) hl)
  unfold G_paired
  rw [sSeq_next a1,sSeq_next a2]
  show sSeq _ _ [.val fieldD,.val od,.val othd,.val (.int (N:Int)),.val (.list ((padR a N).map enc)),.non] s = _
  rw [sSeq_next a3]
  rfl
theorem pairs_run {F:FE} {op:Rat→Rat→Rat} {P:Rat→Prop} {δ2:Ce} {s:Sx} (step:∀ x y,P x→P y→F [.val (enc x),.val (enc y),δ2] s = some (enc (op x y),s)) :
    ∀ l1 l2:List Rat,(∀ x ∈ l1,P x)→(∀ x ∈ l2,P x)→compD (.tup [0,1]) fTrue F [.non,.non,δ2] (((l1.map enc).zip (l2.map enc)).map fun z => PyData.tuple [z.1,z.2]) s = some ((List.zipWith op l1 l2).map enc,s)
  | [],_,_,_ => rfl
  | _ :: _,[],_,_ => rfl
  | x :: l1,y :: l2,h1,h2 => by
    have ih:=pairs_run step l1 l2 (fun z hz => h1 z (List.mem_cons_of_mem _ hz)) (fun z hz => h2 z (List.mem_cons_of_mem _ hz))
    rw [List.map_cons,List.map_cons,List.zip_cons_cons,List.map_cons,List.zipWith_cons_cons,List.map_cons]
    unfold compD
    rw [show Tgt.run (.tup [0,1]) (.tuple [enc x,enc y]) [.non,.non,δ2] = some [.val (enc x),.val (enc y),δ2] from rfl]
    simp only [Option.bind_some,fTrue,if_true,step x y (h1 x List.mem_cons_self) (h2 y List.mem_cons_self),ih,Option.map_some]
theorem co_zipWith {op:Rat→Rat→Rat} {l1 l2:List Rat} (h:l1.length = l2.length) (h0:op 0 0 = 0) (k:Nat):co (List.zipWith op l1 l2) k = op (co l1 k) (co l2 k):=by
  by_cases hk:k < l1.length
  · unfold co
    rw [List.getD_eq_getElem?_getD,List.getD_eq_getElem?_getD,List.getD_eq_getElem?_getD,List.getElem?_zipWith,List.getElem?_eq_getElem hk,List.getElem?_eq_getElem (show k < l2.length by lia)]
    rfl
  · rw [co_out (l:=l1) (by lia),co_out (l:=l2) (by lia),co_out (by rw [List.length_zipWith]; lia),h0]
theorem mem_co {l:List Rat} {P:Rat→Prop} (h:∀ k,P (co l k)):∀ r ∈ l,P r:=fun r hr => by
  obtain ⟨k,hk,rfl⟩:=List.getElem_of_mem hr
  have:=h k
  unfold co at this
  rwa [List.getD_eq_getElem?_getD,List.getElem?_eq_getElem hk] at this
theorem place_run {od othd:D} {a b:List Rat} {g:GF} {m:Str} {op:Rat→Rat→Rat} (s:Sx) (ha:seqOf od = some (a.map enc)) (hb:seqOf othd = some (b.map enc)) (la:a.length ≤ 40) (lb:b.length ≤ 40) (sa:∀ k,Sz 200 (co a k)) (sb:∀ k,Sz 200 (co b k)) (h0:op 0 0 = 0)
    (hop:∀ x y,Sz 200 x→Sz 200 y→Sz 500 (op x y)) (step:∀ x y,Sz 200 x→Sz 200 y→g [fieldD,enc x,enc y] s = some (enc (op x y),s)) (hm:lookF m [(.str "nought",zD),(.str "unit",.tuple [.int 1,.int 1])] = none) :
    ∃ p:List Rat,fCall g_trimmed (aCons (f1 (gFld ["FractionField"] "nought") (fVar 0)) (aCons (asL (fComp 2 [0] (iSeq (fCall g_paired (aCons (fVar 0) (aCons (fVar 1) (aCons (fVar 2) aNil))))) (.tup [0,1]) fTrue (fMeth [("FractionField",g)] m (fVar 2) (aCons (fVar 0) (aCons (fVar 1) aNil))))) aNil)) [.val fieldD,.val od,.val othd] s = some (.tuple (p.map enc),s)∧Trim p∧∀ k,co p k = op (co a k) (co b k):=by
  have hN:max a.length b.length = max a.length b.length:=rfl
  have ep:=paired_run (N:=max a.length b.length) s ha hb rfl (by lia)
  have l1:=padR_len (a:=a) (N:=max a.length b.length) (by lia)
  have l2:=padR_len (a:=b) (N:=max a.length b.length) (by lia)
  have ec:=pairs_run (F:=fMeth [("FractionField",g)] m (fVar 2) (aCons (fVar 0) (aCons (fVar 1) aNil))) (op:=op) (P:=Sz 200) (δ2:=.val fieldD) (s:=s) (fun x y hx hy => methF (Fo:=fVar 2) rfl (aCons_run (F:=fVar 0) rfl (aCons_run (F:=fVar 1) (FL:=aNil) rfl rfl)) (step x y hx hy) hm) (padR a (max a.length b.length)) (padR b (max a.length b.length)) (mem_co fun k => by rw [co_pad]; exact sa k) (mem_co fun k => by rw [co_pad]; exact sb k)
  have ei:iSeq (fCall g_paired (aCons (fVar 0) (aCons (fVar 1) (aCons (fVar 2) aNil)))) [.val fieldD,.val od,.val othd] s = some ((((padR a (max a.length b.length)).map enc).zip ((padR b (max a.length b.length)).map enc)).map fun z => PyData.tuple [z.1,z.2],s):=by
    unfold iSeq
    rw [fCall_run (ds:=[fieldD,od,othd]) rfl ep]; rfl
  have el:=asL_run (k:=2) (fr:=[0]) ei (by rw [List.length_map,List.length_zip,List.length_map,List.length_map]; lia) ec
  have hc:∀ k,co (List.zipWith op (padR a (max a.length b.length)) (padR b (max a.length b.length))) k = op (co a k) (co b k):=fun k => by rw [co_zipWith (by rw [l1,l2]) h0,co_pad,co_pad]
  have t:=trimmed_run (n:=500) (l:=((List.zipWith op (padR a (max a.length b.length)) (padR b (max a.length b.length))).map enc)) s (all_enc fun k => by rw [hc]; exact hop _ _ (sa k) (sb k)) (by rw [List.length_map,List.length_zipWith]; lia)
  rw [trimD_enc] at t
  exact ⟨trR (List.zipWith op (padR a (max a.length b.length)) (padR b (max a.length b.length))),fCall_run (ds:=[zD,.list ((List.zipWith op (padR a (max a.length b.length)) (padR b (max a.length b.length))).map enc)]) (aCons_run (f1_run (a:=fieldD) rfl fld_nought) (aCons_run (FL:=aNil) el rfl)) t,trim_trR _,fun k => by rw [co_trR,hc]⟩
theorem psum_run {od othd:D} {a b:List Rat} (s:Sx) (ha:seqOf od = some (a.map enc)) (hb:seqOf othd = some (b.map enc)) (la:a.length ≤ 40) (lb:b.length ≤ 40) (sa:∀ k,Sz 200 (co a k)) (sb:∀ k,Sz 200 (co b k)) :
    ∃ p:List Rat,g_poly_sum [od,othd] s = some (.tuple (p.map enc),s)∧Trim p∧∀ k,co p k = co a k + co b k:=by
  obtain ⟨p,e,hT,hc⟩:=place_run (g:=g_FractionField_added) (m:="added") (op:=fun x y => x + y) s ha hb la lb sa sb (by grind) (fun x y hx hy => (sz_add hx hy).mono (by decide)) (fun x y hx hy => addF s (by decide) (by decide) hx hy) rfl
  refine ⟨p,fn_run (n:=2) (m:=0) (G:=G_poly_sum) rfl ?_,hT,hc⟩
  show G_poly_sum [.val od,.val othd] s = _
  have e2:g_sum_in [fieldD,od,othd] s = some (.tuple (p.map enc),s):=by
    refine fn_run (n:=3) (m:=0) (G:=G_sum_in) rfl ?_
    show G_sum_in [.val fieldD,.val od,.val othd] s = _
    unfold G_sum_in C_sum_in_1 sRet
    exact congrArg (Option.map _) e
  unfold G_poly_sum sRet
  exact congrArg (Option.map _) (fCall_run (ds:=[fieldD,od,othd]) (aCons_run makeF (aCons_run (F:=fVar 0) rfl (aCons_run (F:=fVar 1) (FL:=aNil) rfl rfl))) e2)
theorem pless_run {od othd:D} {a b:List Rat} (s:Sx) (ha:seqOf od = some (a.map enc)) (hb:seqOf othd = some (b.map enc)) (la:a.length ≤ 40) (lb:b.length ≤ 40) (sa:∀ k,Sz 200 (co a k)) (sb:∀ k,Sz 200 (co b k)) :
    ∃ p:List Rat,g_poly_less [od,othd] s = some (.tuple (p.map enc),s)∧Trim p∧∀ k,co p k = co a k - co b k:=by
  obtain ⟨p,e,hT,hc⟩:=place_run (g:=g_FractionField_lessened) (m:="lessened") (op:=fun x y => x - y) s ha hb la lb sa sb (by grind) (fun x y hx hy => (sz_sub hx hy).mono (by decide)) (fun x y hx hy => subF s (by decide) (by decide) hx hy) rfl
  refine ⟨p,fn_run (n:=2) (m:=0) (G:=G_poly_less) rfl ?_,hT,hc⟩
  show G_poly_less [.val od,.val othd] s = _
  have e2:g_less_in [fieldD,od,othd] s = some (.tuple (p.map enc),s):=by
    refine fn_run (n:=3) (m:=0) (G:=G_less_in) rfl ?_
    show G_less_in [.val fieldD,.val od,.val othd] s = _
    unfold G_less_in C_less_in_1 sRet
    exact congrArg (Option.map _) e
  unfold G_poly_less sRet
  exact congrArg (Option.map _) (fCall_run (ds:=[fieldD,od,othd]) (aCons_run makeF (aCons_run (F:=fVar 0) rfl (aCons_run (F:=fVar 1) (FL:=aNil) rfl rfl))) e2)

theorem lprod_inner {n:Nat} {ad bd:D} {b found:List Rat} {i:Nat} {w:Rat} {c5 c6:Ce} (s:Sx) (hn:n ≤ 4000) (hb:seqOf bd = some (b.map enc)) (hlen:i + b.length ≤ found.length)
    (hR:∀ k,Sz n (co found k)) (hw:Sz n w) (hO:∀ k,Sz n (co b k)) (hP:∀ k,Sz n (w * co b k)) :
    ∃ found' c5' c6',L__law_product_2 [.val ad,.val bd,.own (found.map enc),.val (.int (i:Int)),.val (enc w),c5,c6] s = some (.next [.val ad,.val bd,.own (found'.map enc),.val (.int (i:Int)),.val (enc w),c5',c6'],s) ∧
      found'.length = found.length∧∀ k,co found' k = co found k + w * sh i (co b) k:=by
  obtain ⟨δ',s',e,hs,found',x,y,hδ,hl,hc⟩:=forD_at (T:=.tup [5,6]) (G:=B__law_product_1) (fun j δ s' => s' = s∧∃ found' x y,δ = [.val ad,.val bd,.own (found'.map enc),.val (.int (i:Int)),.val (enc w),x,y]∧found'.length = found.length∧∀ k,co found' k = if i ≤ k∧k < i + j then co found k + w * co b (k - i) else co found k)
    (enumD (b.map enc)) [.val ad,.val bd,.own (found.map enc),.val (.int (i:Int)),.val (enc w),c5,c6] s ⟨rfl,found,c5,c6,rfl,rfl,fun k => by rw [if_neg (by lia)]⟩ (fun j d δ s' hd x__166 => by
      obtain ⟨hs,found',x,y,hδ,hl,hc⟩:=x__166
      subst hs hδ
      obtain ⟨x,hx,rfl⟩:=enumD_get hd
      obtain ⟨hj,rfl⟩:=co_of_get hx
      have hbd:i + j < found'.length:=by lia
      have hcj:co found' (i + j) = co found (i + j):=by rw [hc,if_neg (by lia)]
      have e1:=at_co hbd
      refine ⟨[.val ad,.val bd,.own (found'.map enc),.val (.int (i:Int)),.val (enc w),.val (.int (j:Int)),.val (enc (co b j))],[.val ad,.val bd,.own ((found'.set (i + j) (co found' (i + j) + w * co b j)).map enc),.val (.int (i:Int)),.val (enc w),.val (.int (j:Int)),.val (enc (co b j))],s',rfl,?_,rfl,_,_,_,rfl,by rw [List.length_set,hl],?_⟩
      · have e2:fCall g__law_times (aCons (fVar 4) (aCons (fVar 6) aNil)) [.val ad,.val bd,.own (found'.map enc),.val (.int (i:Int)),.val (enc w),.val (.int (j:Int)),.val (enc (co b j))] s' = some (enc (w * co b j),s'):=ltimes_enc s' hn hw (hO j)
        have e3:aCons (f2 gIx (fVarW 2) (f2 gAdd (fVar 3) (fVar 5))) (aCons (fCall g__law_times (aCons (fVar 4) (aCons (fVar 6) aNil))) aNil) [.val ad,.val bd,.own (found'.map enc),.val (.int (i:Int)),.val (enc w),.val (.int (j:Int)),.val (enc (co b j))] s' = some ([enc (co found' (i + j)),enc (w * co b j)],s') :=
          aCons_run (f2_run (a:=.list (found'.map enc)) (b:=.int ((i + j:Nat):Int)) rfl (f2_run rfl rfl (add_int _ _)) e1) (aCons_run e2 rfl)
        have e4:fCall g__law_plus (aCons (f2 gIx (fVarW 2) (f2 gAdd (fVar 3) (fVar 5))) (aCons (fCall g__law_times (aCons (fVar 4) (aCons (fVar 6) aNil))) aNil)) [.val ad,.val bd,.own (found'.map enc),.val (.int (i:Int)),.val (enc w),.val (.int (j:Int)),.val (enc (co b j))] s' = some (enc (co found' (i + j) + w * co b j),s'):=by
          unfold fCall at e3 ⊢
          rw [e3]
          exact lplus_enc s' hn (by rw [hcj]; exact hR _) (hP j)
        exact sPut_run e4 (f2_run rfl rfl (add_int _ _)) rfl (put_enc hbd)
      · intro k
        rw [co_set hbd]
        by_cases hk:k = i + j
        · subst hk
          rw [if_pos rfl,if_pos (by lia),hcj,show i + j - i = j by lia]
        · rw [if_neg hk,hc]
          by_cases h2:i ≤ k∧k < i + j
          · rw [if_pos h2,if_pos (by lia)]
          · rw [if_neg h2,if_neg (by lia)])
  subst hs hδ
  refine ⟨found',x,y,?_,hl,fun k => ?_⟩
  · simp only [L__law_product_2,sFor,iEnumF,fVar,List.getElem?_cons_zero,List.getElem?_cons_succ,Option.bind_some,hb,Option.map_some]
    exact e
  · rw [hc,enumD_len,List.length_map]
    unfold sh
    by_cases h1:i ≤ k
    · rw [if_pos h1]
      by_cases h2:k < i + b.length
      · rw [if_pos ⟨h1,h2⟩]
      · rw [if_neg (by lia),co_out (l:=b) (by omega)]; grind
    · rw [if_neg (by lia),if_neg h1]; grind
theorem co_rep0 (n i:Nat):co (List.replicate n (0:Rat)) i = 0:=by
  unfold co
  rw [List.getD_eq_getElem?_getD,List.getElem?_replicate]
  split <;> rfl
theorem lprod_run {ad bd:D} {a b:List Rat} {M M2 B B2:Nat} (s:Sx) (ha:seqOf ad = some (a.map enc)) (hb:seqOf bd = some (b.map enc)) (hla:a.length ≤ 20) (hlb:b.length ≤ 20)
    (fa:∀ k,Fit M B (co a k)) (fb:∀ k,Fit M2 B2 (co b k)) (sa:∀ k,Sz 4000 (co a k)) (sb:∀ k,Sz 4000 (co b k)) (sp:∀ i k,Sz 4000 (co a i * co b k)) (hS:∀ r,Fit (M * M2) (B * B2 * 20) r→Sz 4000 r) :
    ∃ p:List Rat,g__law_product [ad,bd] s = some (.tuple (p.map enc),s)∧Trim p∧p.length ≤ a.length + b.length - 1∧(∀ k,co p k = cv a.length (co a) (co b) k)∧∀ k,Fit (M * M2) (B * B2 * 20) (co p k):=by
  have fp:∀ i k,Fit (M * M2) (B * B2) (co a i * co b k):=fun i k => (fa i).mul (fb k)
  obtain ⟨δ',s',e,hs,found,x3,x4,x5,x6,hδ,hl,hc,hf⟩:=forD_at (T:=.tup [3,4]) (G:=B__law_product_3) (fun i δ s' => s' = s∧∃ found x3 x4 x5 x6,δ = [.val ad,.val bd,.own (found.map enc),x3,x4,x5,x6]∧found.length = a.length + b.length - 1∧(∀ k,co found k = cv i (co a) (co b) k)∧∀ k,Fit (M * M2) (B * B2 * i) (co found k))
    (enumD (a.map enc)) [.val ad,.val bd,.own ((List.replicate (a.length + b.length - 1) (0:Rat)).map enc),.non,.non,.non,.non] s ⟨rfl,_,.non,.non,.non,.non,rfl,List.length_replicate,fun k => co_rep0 _ k,fun k => by rw [co_rep0]; exact Fit.zero _ _⟩ (fun i d δ s' hd x__167 => by
      obtain ⟨hs,found,x3,x4,x5,x6,hδ,hl,hc,hf⟩:=x__167
      subst hs hδ
      obtain ⟨x,hx,rfl⟩:=enumD_get hd
      obtain ⟨hi,rfl⟩:=co_of_get hx
      obtain ⟨found',y5,y6,e1,l1,hc1⟩:=lprod_inner (n:=4000) (ad:=ad) (bd:=bd) (b:=b) (found:=found) (i:=i) (w:=co a i) (c5:=x5) (c6:=x6) s' (by decide) hb (by omega) (fun k => hS _ ((hf k).mono (Nat.mul_le_mul_left _ (by lia)))) (sa i) sb (fun k => sp i k)
      refine ⟨[.val ad,.val bd,.own (found.map enc),.val (.int (i:Int)),.val (enc (co a i)),x5,x6],_,s',rfl,e1,rfl,found',_,_,_,_,rfl,by rw [l1,hl],fun k => by rw [hc1,hc,cv],fun k => ?_⟩
      rw [hc1]
      have h2:Fit (M * M2) (B * B2) (co a i * sh i (co b) k):=by
        unfold sh
        split
        · exact fp _ _
        · rw [Rat.mul_zero]; exact Fit.zero _ _
      refine ((hf k).add h2).mono ?_
      rw [Nat.mul_succ]; exact Nat.le_refl _)
  subst hs hδ
  rw [enumD_len,List.length_map] at hc hf
  have hf2:∀ k,Fit (M * M2) (B * B2 * 20) (co found k):=fun k => (hf k).mono (Nat.mul_le_mul_left _ (by omega))
  have t:=ltrimmed_run (n:=4000) (l:=(found.map enc)) s' (all_enc fun k => hS _ (hf2 k)) (by rw [List.length_map]; lia)
  rw [trimD_enc] at t
  refine ⟨trR found,?_,trim_trR _,by rw [len_trR,← hl]; exact trL_le _ _,fun k => by rw [co_trR]; exact hc k,fun k => by rw [co_trR]; exact hf2 k⟩
  have b1:gLen ad = some (.int (a.length:Int)):=by rw [len_seq ha,List.length_map]
  have b2:gLen bd = some (.int (b.length:Int)):=by rw [len_seq hb,List.length_map]
  have v1:gMax (.int 0) (.int (((a.length + b.length:Nat):Int) - 1)) = some (.int ((a.length + b.length - 1:Nat):Int)):=by
    have:(if (((a.length + b.length:Nat):Int) - 1) > (0:Int) then (((a.length + b.length:Nat):Int) - 1) else (0:Int)) = ((a.length + b.length - 1:Nat):Int):=by
      split <;> omega
    simp only [gMax,gI,if_true,this]
  have a1:sSetO 2 (o2 lRep (eLst (aCons (eTup (aCons (fC (.int 0)) (aCons (fC (.int 1)) aNil))) aNil)) (f2 gMax (fC (.int 0)) (f2 gSubI (f2 gAdd (f1 gLen (fVar 0)) (f1 gLen (fVar 1))) (fC (.int 1))))) [.val ad,.val bd,.non,.non,.non,.non,.non] s' = some (.next [.val ad,.val bd,.own ((List.replicate (a.length + b.length - 1) (0:Rat)).map enc),.non,.non,.non,.non],s'):=by
    rw [List.map_replicate,enc_zero]
    have et:eTup (aCons (fC (.int 0)) (aCons (fC (.int 1)) aNil)) [.val ad,.val bd,.non,.non,.non,.non,.non] s' = some (zD,s'):=by
      simp [eTup,aCons,aNil,fC,small2,zD]
    exact sSetO_run (o2_run (eLst_run (aCons_run (FL:=aNil) et rfl) (by decide)) (f2_run rfl (f2_run (f2_run (f1_run rfl b1) (f1_run rfl b2) (add_int _ _)) rfl (show gSubI (.int ((a.length + b.length:Nat):Int)) (.int 1) = some (.int (((a.length + b.length:Nat):Int) - 1)) by simp [gSubI,gI])) v1) (rep_nat (by omega)))
  have a2:L__law_product_4 [.val ad,.val bd,.own ((List.replicate (a.length + b.length - 1) (0:Rat)).map enc),.non,.non,.non,.non] s' = some (.next [.val ad,.val bd,.own (found.map enc),x3,x4,x5,x6],s'):=by
    simp only [L__law_product_4,sFor,iEnumF,fVar,List.getElem?_cons_zero,List.getElem?_cons_succ,Option.bind_some,ha,Option.map_some]
    exact e
  show (match G__law_product [.val ad,.val bd,.non,.non,.non,.non,.non] s' with | some (.ret d,s') => some (d,s') | some (.next _,s') => some (.none,s') | _ => none) = _
  unfold G__law_product
  rw [sSeq_next a1,sSeq_next a2]
  simp only [sSeq,sFrz,List.getElem?_cons_zero,List.getElem?_cons_succ,List.set_cons_zero,List.set_cons_succ,sRet,fCall,aCons,fVar,aNil,t,Option.bind_some,Option.map_some]

theorem pprod_inner {ad bd:D} {b row:List Rat} {i:Nat} {w:Rat} {c6 c7:Ce} (s:Sx) (hb:seqOf bd = some (b.map enc)) (hlen:i + b.length ≤ row.length)
    (hR:∀ k,Sz 4000 (co row k)) (hw:Sz 500 w) (hO:∀ k,Sz 500 (co b k)) :
    ∃ row' c6' c7',L_product_in_2 [.val fieldD,.val ad,.val bd,.own (row.map enc),.val (.int (i:Int)),.val (enc w),c6,c7] s = some (.next [.val fieldD,.val ad,.val bd,.own (row'.map enc),.val (.int (i:Int)),.val (enc w),c6',c7'],s) ∧
      row'.length = row.length∧∀ k,co row' k = co row k + w * sh i (co b) k:=by
  obtain ⟨δ',s',e,hs,row',x,y,hδ,hl,hc⟩:=forD_at (T:=.tup [6,7]) (G:=B_product_in_1) (fun j δ s' => s' = s∧∃ row' x y,δ = [.val fieldD,.val ad,.val bd,.own (row'.map enc),.val (.int (i:Int)),.val (enc w),x,y]∧row'.length = row.length∧∀ k,co row' k = if i ≤ k∧k < i + j then co row k + w * co b (k - i) else co row k)
    (enumD (b.map enc)) [.val fieldD,.val ad,.val bd,.own (row.map enc),.val (.int (i:Int)),.val (enc w),c6,c7] s ⟨rfl,row,c6,c7,rfl,rfl,fun k => by rw [if_neg (by lia)]⟩ (fun j d δ s' hd x__168 => by
      obtain ⟨hs,row',x,y,hδ,hl,hc⟩:=x__168
      subst hs hδ
      obtain ⟨x,hx,rfl⟩:=enumD_get hd
      obtain ⟨hj,rfl⟩:=co_of_get hx
      have hbd:i + j < row'.length:=by lia
      have hcj:co row' (i + j) = co row (i + j):=by rw [hc,if_neg (by lia)]
      have e1:=at_co hbd
      refine ⟨[.val fieldD,.val ad,.val bd,.own (row'.map enc),.val (.int (i:Int)),.val (enc w),.val (.int (j:Int)),.val (enc (co b j))],[.val fieldD,.val ad,.val bd,.own ((row'.set (i + j) (co row' (i + j) + w * co b j)).map enc),.val (.int (i:Int)),.val (enc w),.val (.int (j:Int)),.val (enc (co b j))],s',rfl,?_,rfl,_,_,_,rfl,by rw [List.length_set,hl],?_⟩
      · have e2:fMeth [("FractionField",g_FractionField_multiplied)] "multiplied" (fVar 0) (aCons (fVar 5) (aCons (fVar 7) aNil)) [.val fieldD,.val ad,.val bd,.own (row'.map enc),.val (.int (i:Int)),.val (enc w),.val (.int (j:Int)),.val (enc (co b j))] s' = some (enc (w * co b j),s') :=
          methF (Fo:=fVar 0) rfl (aCons_run (F:=fVar 5) rfl (aCons_run (F:=fVar 7) (FL:=aNil) rfl rfl)) (mulF s' (by decide) (by decide) hw (hO j)) rfl
        have e4:fMeth [("FractionField",g_FractionField_added)] "added" (fVar 0) (aCons (f2 gIx (fVarW 3) (f2 gAdd (fVar 4) (fVar 6))) (aCons (fMeth [("FractionField",g_FractionField_multiplied)] "multiplied" (fVar 0) (aCons (fVar 5) (aCons (fVar 7) aNil))) aNil)) [.val fieldD,.val ad,.val bd,.own (row'.map enc),.val (.int (i:Int)),.val (enc w),.val (.int (j:Int)),.val (enc (co b j))] s' = some (enc (co row' (i + j) + w * co b j),s') :=
          methF (Fo:=fVar 0) rfl (aCons_run (f2_run (a:=.list (row'.map enc)) (b:=.int ((i + j:Nat):Int)) rfl (f2_run rfl rfl (add_int _ _)) e1) (aCons_run (FL:=aNil) e2 rfl)) (addF s' (k:=4000) (m:=1000) (by decide) (by decide) (by rw [hcj]; exact hR _) (sz_mul hw (hO j))) rfl
        exact sPut_run e4 (f2_run rfl rfl (add_int _ _)) rfl (put_enc hbd)
      · intro k
        rw [co_set hbd]
        by_cases hk:k = i + j
        · subst hk
          rw [if_pos rfl,if_pos (by lia),hcj,show i + j - i = j by lia]
        · rw [if_neg hk,hc]
          by_cases h2:i ≤ k∧k < i + j
          · rw [if_pos h2,if_pos (by lia)]
          · rw [if_neg h2,if_neg (by lia)])
  subst hs hδ
  refine ⟨row',x,y,?_,hl,fun k => ?_⟩
  · simp only [L_product_in_2,sFor,iEnumF,fVar,List.getElem?_cons_zero,List.getElem?_cons_succ,Option.bind_some,hb,Option.map_some]
    exact e
  · rw [hc,enumD_len,List.length_map]
    unfold sh
    by_cases h1:i ≤ k
    · rw [if_pos h1]
      by_cases h2:k < i + b.length
      · rw [if_pos ⟨h1,h2⟩]
      · rw [if_neg (by lia),co_out (l:=b) (by omega)]; grind
    · rw [if_neg (by lia),if_neg h1]; grind
theorem rep_any {z:Int} {d:D} (h0:-1000 ≤ z) (h1:z ≤ 1000):lRep (.list [d]) (.int z) = some (List.replicate z.toNat d):=by
  have e:[d].length * z.toNat ≤ sizeLine:=by
    have:[d].length * z.toNat ≤ 1000:=by simp; omega
    exact Nat.le_trans this (by decide)
  have c:(decide (-(2 ^ 63) ≤ z) && decide (z < 2 ^ 63) && decide ([d].length * z.toNat ≤ sizeLine)) = true:=by
    simp only [Bool.and_eq_true,decide_eq_true_eq]; exact ⟨⟨by lia,by lia⟩,e⟩
  unfold lRep
  simp only
  rw [if_pos c]
  simp
theorem pprod_run {ad bd:D} {a b:List Rat} {M M2 B B2:Nat} (s:Sx) (ha:seqOf ad = some (a.map enc)) (hb:seqOf bd = some (b.map enc)) (hla:a.length ≤ 20) (hlb:b.length ≤ 20)
    (fa:∀ k,Fit M B (co a k)) (fb:∀ k,Fit M2 B2 (co b k)) (sa:∀ k,Sz 500 (co a k)) (sb:∀ k,Sz 500 (co b k)) (hS:∀ r,Fit (M * M2) (B * B2 * 20) r→Sz 4000 r) :
    ∃ p:List Rat,g_poly_product [ad,bd] s = some (.tuple (p.map enc),s)∧Trim p∧∀ k,co p k = cv a.length (co a) (co b) k:=by
  have fp:∀ i k,Fit (M * M2) (B * B2) (co a i * co b k):=fun i k => (fa i).mul (fb k)
  obtain ⟨δ',s',e,hs,found,x4,x5,x6,x7,hδ,hl,hc,hf⟩:=forD_at (T:=.tup [4,5]) (G:=B_product_in_3) (fun i δ s' => s' = s∧∃ found x4 x5 x6 x7,δ = [.val fieldD,.val ad,.val bd,.own (found.map enc),x4,x5,x6,x7]∧found.length = a.length + b.length - 1∧(∀ k,co found k = cv i (co a) (co b) k)∧∀ k,Fit (M * M2) (B * B2 * i) (co found k))
    (enumD (a.map enc)) [.val fieldD,.val ad,.val bd,.own ((List.replicate (a.length + b.length - 1) (0:Rat)).map enc),.non,.non,.non,.non] s ⟨rfl,_,.non,.non,.non,.non,rfl,List.length_replicate,fun k => co_rep0 _ k,fun k => by rw [co_rep0]; exact Fit.zero _ _⟩ (fun i d δ s' hd x__169 => by
      obtain ⟨hs,found,x4,x5,x6,x7,hδ,hl,hc,hf⟩:=x__169
      subst hs hδ
      obtain ⟨x,hx,rfl⟩:=enumD_get hd
      obtain ⟨hi,rfl⟩:=co_of_get hx
      obtain ⟨found',y6,y7,e1,l1,hc1⟩:=pprod_inner (ad:=ad) (bd:=bd) (b:=b) (row:=found) (i:=i) (w:=co a i) (c6:=x6) (c7:=x7) s' hb (by omega) (fun k => hS _ ((hf k).mono (Nat.mul_le_mul_left _ (by lia)))) (sa i) sb
      refine ⟨[.val fieldD,.val ad,.val bd,.own (found.map enc),.val (.int (i:Int)),.val (enc (co a i)),x6,x7],_,s',rfl,e1,rfl,found',_,_,_,_,rfl,by rw [l1,hl],fun k => by rw [hc1,hc,cv],fun k => ?_⟩
      rw [hc1]
      have h2:Fit (M * M2) (B * B2) (co a i * sh i (co b) k):=by
        unfold sh
        split
        · exact fp _ _
        · rw [Rat.mul_zero]; exact Fit.zero _ _
      refine ((hf k).add h2).mono ?_
      rw [Nat.mul_succ]; exact Nat.le_refl _)
  subst hs hδ
  rw [enumD_len,List.length_map] at hc hf
  have hf2:∀ k,Fit (M * M2) (B * B2 * 20) (co found k):=fun k => (hf k).mono (Nat.mul_le_mul_left _ (by omega))
  have t:=trimmed_run (n:=4000) (l:=(found.map enc)) s' (all_enc fun k => hS _ (hf2 k)) (by rw [List.length_map]; lia)
  rw [trimD_enc] at t
  have b1:gLen ad = some (.int (a.length:Int)):=by rw [len_seq ha,List.length_map]
  have b2:gLen bd = some (.int (b.length:Int)):=by rw [len_seq hb,List.length_map]
  have a1:sSetO 3 (o2 lRep (eLst (aCons (f1 (gFld ["FractionField"] "nought") (fVar 0)) aNil)) (f2 gSubI (f2 gAdd (f1 gLen (fVar 1)) (f1 gLen (fVar 2))) (fC (.int 1)))) [.val fieldD,.val ad,.val bd,.non,.non,.non,.non,.non] s' = some (.next [.val fieldD,.val ad,.val bd,.own ((List.replicate (a.length + b.length - 1) (0:Rat)).map enc),.non,.non,.non,.non],s'):=by
    have hr:=rep_any (z:=((a.length + b.length:Nat):Int) - 1) (d:=zD) (by lia) (by lia)
    rw [show (((a.length + b.length:Nat):Int) - 1).toNat = a.length + b.length - 1 by omega] at hr
    rw [List.map_replicate,enc_zero]
    exact sSetO_run (o2_run (eLst_run (aCons_run (FL:=aNil) (f1_run (a:=fieldD) rfl fld_nought) rfl) (small_le (by simp))) (f2_run (f2_run (f1_run (a:=ad) rfl b1) (f1_run (a:=bd) rfl b2) (add_int _ _)) rfl (show gSubI (.int ((a.length + b.length:Nat):Int)) (.int 1) = some (.int (((a.length + b.length:Nat):Int) - 1)) by simp [gSubI,gI])) hr)
  have a2:L_product_in_4 [.val fieldD,.val ad,.val bd,.own ((List.replicate (a.length + b.length - 1) (0:Rat)).map enc),.non,.non,.non,.non] s' = some (.next [.val fieldD,.val ad,.val bd,.own (found.map enc),x4,x5,x6,x7],s'):=by
    simp only [L_product_in_4,sFor,iEnumF,fVar,List.getElem?_cons_zero,List.getElem?_cons_succ,Option.bind_some,ha,Option.map_some]
    exact e
  have e3:g_product_in [fieldD,ad,bd] s' = some (.tuple ((trR found).map enc),s'):=by
    refine fn_run (n:=3) (m:=5) (G:=G_product_in) rfl ?_
    show G_product_in [.val fieldD,.val ad,.val bd,.non,.non,.non,.non,.non] s' = _
    unfold G_product_in
    rw [sSeq_next a1,sSeq_next a2,sSeq_next (δ':=[.val fieldD,.val ad,.val bd,.val (.list (found.map enc)),x4,x5,x6,x7]) (s':=s') rfl]
    unfold sRet
    exact congrArg (Option.map _) (fCall_run (ds:=[zD,.list (found.map enc)]) (aCons_run (f1_run (a:=fieldD) rfl fld_nought) (aCons_run (F:=fVar 3) (FL:=aNil) rfl rfl)) t)
  refine ⟨trR found,fn_run (n:=2) (m:=0) (G:=G_poly_product) rfl ?_,trim_trR _,fun k => by rw [co_trR]; exact hc k⟩
  show G_poly_product [.val ad,.val bd] s' = _
  unfold G_poly_product sRet
  exact congrArg (Option.map _) (fCall_run (ds:=[fieldD,ad,bd]) (aCons_run makeF (aCons_run (F:=fVar 0) rfl (aCons_run (F:=fVar 1) (FL:=aNil) rfl rfl))) e3)

theorem forD_cons {T:Tgt} {G:GS} {d:D} {ds:List D} {δ δ1 δ2:Sl} {s s1:Sx} {r:Option (Out × Sx)} (h:T.run d δ = some δ1) (g:G δ1 s = some (.next δ2,s1)) (w:forD T G ds δ2 s1 = r):forD T G (d :: ds) δ s = r:=by
  show ((T.run d δ).bind fun δ1 => _) = _
  rw [h]
  simp only [Option.bind_some,g]
  exact w

noncomputable def pvR (x:Rat):List Rat→Rat
  | [] => 0
  | a :: l => pvR x l * x + a
noncomputable def pwR (x:Rat):Nat→Rat
  | 0 => 1
  | n + 1 => pwR x n * x
theorem forD_app {T:Tgt} {G:GS} {ys:List D}:∀ {xs:List D} {δ δ':Sl} {s s':Sx},forD T G xs δ s = some (.next δ',s')→(∀ (δ:Sl) (s:Sx) (o:Out) (s':Sx),G δ s = some (o,s')→∃ δ'',o = .next δ'')→forD T G (xs ++ ys) δ s = forD T G ys δ' s'
  | [],δ,δ',s,s',h,_ => by cases h; rfl
  | d :: xs,δ,δ',s,s',h,hG => by
    show ((T.run d δ).bind fun δ1 => _) = _
    have h':((T.run d δ).bind fun δ1 => match G δ1 s with | some (.next δ',s') => forD T G xs δ' s' | some (.cnt δ',s') => forD T G xs δ' s' | some (.brk δ',s') => some (.next δ',s') | some (.ret r,s') => some (.ret r,s') | some (.own r,s') => some (.own r,s') | none => none) = some (.next δ',s'):=h
    cases e1:T.run d δ with
    | none => rw [e1] at h'; cases h'
    | some δ1 =>
      rw [e1] at h'
      simp only [Option.bind_some] at h' ⊢
      cases e2:G δ1 s with
      | none => rw [e2] at h'; cases h'
      | some r =>
        obtain ⟨o,s1⟩:=r
        obtain ⟨δ2,rfl⟩:=hG δ1 s o s1 e2
        rw [e2] at h'
        exact forD_app h' hG
structure Val (M B q p:Nat) (x:Rat):Prop where
  fx:Fit q p x
  q0:0 < q
  qs:q ≤ 2 ^ 40
  ps:p ≤ 2 ^ 40
  m0:0 < M
  ms:M ≤ 2 ^ 1800
  bs:B ≤ 2 ^ 1900
theorem Val.sz {M B q p t:Nat} {x r:Rat} (V:Val M B q p x) (ht:t ≤ 14) (h:Fit (M * q ^ t) (B * 2 ^ (41 * t)) r):Sz 3000 r:=by
  have h1:q ^ t ≤ 2 ^ (40 * 14):=Nat.le_trans (Nat.pow_le_pow_left V.qs t) (by rw [← Nat.pow_mul]; exact Nat.pow_le_pow_right (by decide) (by lia))
  have h2:M * q ^ t ≤ 2 ^ 1800 * 2 ^ (40 * 14):=Nat.mul_le_mul V.ms h1
  have h3:B * 2 ^ (41 * t) ≤ 2 ^ 1900 * 2 ^ (41 * 14):=Nat.mul_le_mul V.bs (Nat.pow_le_pow_right (by decide) (by lia))
  rw [← Nat.pow_add] at h2 h3
  exact h.sz (Nat.mul_pos V.m0 (Nat.pow_pos V.q0)) (Nat.lt_of_le_of_lt h2 (Nat.pow_lt_pow_right (by decide) (by decide))) (Nat.lt_of_le_of_lt h3 (Nat.pow_lt_pow_right (by decide) (by decide)))
theorem Val.step {M B q p t:Nat} {x v a:Rat} (V:Val M B q p x) (h:Fit (M * q ^ t) (B * 2 ^ (41 * t)) v) (ha:Fit M B a):Fit (M * q ^ (t + 1)) (B * 2 ^ (41 * t) * p) (v * x)∧Fit (M * q ^ (t + 1)) (B * 2 ^ (41 * (t + 1))) (v * x + a):=by
  have h1:=h.mul V.fx
  rw [Nat.mul_assoc M,← Nat.pow_succ] at h1
  have h2:=ha.scale (q ^ (t + 1))
  refine ⟨h1,(h1.add h2).mono ?_⟩
  have e1:B * 2 ^ (41 * t) * p ≤ B * 2 ^ (41 * t + 40):=by
    rw [Nat.pow_add,← Nat.mul_assoc]
    exact Nat.mul_le_mul_left _ V.ps
  have e2:B * q ^ (t + 1) ≤ B * 2 ^ (41 * t + 40):=Nat.mul_le_mul_left _ (Nat.le_trans (Nat.pow_le_pow_left V.qs _) (by rw [← Nat.pow_mul]; exact Nat.pow_le_pow_right (by decide) (by lia)))
  have e3:B * 2 ^ (41 * (t + 1)) = B * 2 ^ (41 * t + 40) + B * 2 ^ (41 * t + 40):=by
    rw [show 41 * (t + 1) = 41 * t + 40 + 1 by lia,Nat.pow_succ,← Nat.mul_assoc,Nat.mul_two]
  omega
theorem Val.pv {M B q p:Nat} {x:Rat} (V:Val M B q p x):∀ l:List Rat,(∀ a ∈ l,Fit M B a)→Fit (M * q ^ l.length) (B * 2 ^ (41 * l.length)) (pvR x l)
  | [],_ => Fit.zero _ _
  | a :: l,h => (V.step (V.pv l fun b hb => h b (List.mem_cons_of_mem _ hb)) (h a List.mem_cons_self)).2
theorem value_run {ad:D} {a:List Rat} {M B q p:Nat} {x:Rat} (s:Sx) (V:Val M B q p x) (ha:seqOf ad = some (a.map enc)) (hl:a.length ≤ 13) (fa:∀ r ∈ a,Fit M B r) (sa:∀ r ∈ a,Sz 500 r) (sx:Sz 500 x) :
    g_value_at [ad,enc x] s = some (enc (pvR x a),s):=by
  have loop:∀ l:List Rat,l.length ≤ 13→(∀ r ∈ l,Fit M B r)→(∀ r ∈ l,Sz 500 r)→∃ c4,forD (.one 4) B_value_in_1 (l.map enc).reverse [.val fieldD,.val ad,.val (enc x),.val zD,.non] s = some (.next [.val fieldD,.val ad,.val (enc x),.val (enc (pvR x l)),c4],s):=by
    intro l
    induction l with
    | nil => intro _ _ _; exact ⟨.non,rfl⟩
    | cons b l ih =>
      intro hl hf hz
      rw [List.length_cons] at hl
      obtain ⟨c4,e⟩:=ih (by lia) (fun r hr => hf r (List.mem_cons_of_mem _ hr)) (fun r hr => hz r (List.mem_cons_of_mem _ hr))
      have fl:=V.pv l fun r hr => hf r (List.mem_cons_of_mem _ hr)
      have st:=V.step fl (hf b List.mem_cons_self)
      have s1:Sz 4000 (pvR x l):=(V.sz (t:=l.length) (by lia) fl).mono (by decide)
      have s2:Sz 4000 (pvR x l * x):=(V.sz (t:=l.length + 1) (by lia) (st.1.mono (by
        rw [show 41 * (l.length + 1) = 41 * l.length + 41 by lia,Nat.pow_add,← Nat.mul_assoc]
        exact Nat.mul_le_mul_left _ (Nat.le_trans V.ps (Nat.pow_le_pow_right (by decide) (by decide)))))).mono (by decide)
      refine ⟨.val (enc b),?_⟩
      rw [List.map_cons,List.reverse_cons,forD_app e (fun δ s o s' h => ?_)]
      · refine forD_cons (δ1:=[.val fieldD,.val ad,.val (enc x),.val (enc (pvR x l)),.val (enc b)]) (δ2:=[.val fieldD,.val ad,.val (enc x),.val (enc (pvR x l * x + b)),.val (enc b)]) (s1:=s) rfl ?_ rfl
        exact sSet_run (methF (Fo:=fVar 0) rfl (aCons_run (methF (Fo:=fVar 0) rfl (aCons_run (F:=fVar 3) rfl (aCons_run (F:=fVar 2) (FL:=aNil) rfl rfl)) (mulF s (k:=4000) (m:=500) (by decide) (by decide) s1 sx) rfl) (aCons_run (F:=fVar 4) (FL:=aNil) rfl rfl)) (addF s (k:=4000) (m:=500) (by decide) (by decide) s2 (hz b List.mem_cons_self)) rfl)
      · unfold B_value_in_1 sSet at h
        refine mpp2 h fun d s1 e1 h => ?_
        cases h
        exact ⟨_,rfl⟩
  obtain ⟨c4,e⟩:=loop a hl fa sa
  have e2:g_value_in [fieldD,ad,enc x] s = some (enc (pvR x a),s):=by
    refine fn_run (n:=3) (m:=2) (G:=G_value_in) rfl ?_
    show G_value_in [.val fieldD,.val ad,.val (enc x),.non,.non] s = _
    have a1:sSet 3 (f1 (gFld ["FractionField"] "nought") (fVar 0)) [.val fieldD,.val ad,.val (enc x),.non,.non] s = some (.next [.val fieldD,.val ad,.val (enc x),.val zD,.non],s):=sSet_run (f1_run (a:=fieldD) rfl fld_nought)
    have a2:L_value_in_2 [.val fieldD,.val ad,.val (enc x),.val zD,.non] s = some (.next [.val fieldD,.val ad,.val (enc x),.val (enc (pvR x a)),c4],s):=by
      have ei:iBackF (fVar 1) [.val fieldD,.val ad,.val (enc x),.val zD,.non] s = some ((a.map enc).reverse,s):=by
        unfold iBackF
        show ((seqOf ad).map _) = _
        rw [ha]; rfl
      unfold L_value_in_2 sFor
      rw [ei]
      exact e
    unfold G_value_in
    rw [sSeq_next a1,sSeq_next a2]
    rfl
  refine fn_run (n:=2) (m:=0) (G:=G_value_at) rfl ?_
  show G_value_at [.val ad,.val (enc x)] s = _
  unfold G_value_at sRet
  exact congrArg (Option.map _) (fCall_run (ds:=[fieldD,ad,enc x]) (aCons_run makeF (aCons_run (F:=fVar 0) rfl (aCons_run (F:=fVar 1) (FL:=aNil) rfl rfl))) e2)
theorem pw_sz {x:Rat} (h:Sz 40 x):∀ t,Sz (40 * t + 1) (pwR x t)
  | 0 => sz_one
  | t + 1 => (sz_mul (pw_sz h t) h).mono (by lia)
theorem pw_fit {q p:Nat} {x:Rat} (h:Fit q p x):∀ t,Fit (q ^ t) (p ^ t) (pwR x t)
  | 0 => ⟨1,by show (1:Rat) * ((q ^ 0:Nat):Rat) = ((1:Int):Rat); rw [Nat.pow_zero]; grind,by rw [Nat.pow_zero]; decide⟩
  | t + 1 => by rw [Nat.pow_succ,Nat.pow_succ]; exact (pw_fit h t).mul h
theorem Val.term {M B q p t:Nat} {x a:Rat} (V:Val M B q p x) (ht:t ≤ 13) (ha:Fit M B a):Fit (M * q ^ 13) (B * 2 ^ 520) (a * pwR x t):=by
  have h:=(ha.mul (pw_fit V.fx t)).scale (q ^ (13 - t))
  rw [Nat.mul_assoc M,← Nat.pow_add,show t + (13 - t) = 13 by omega] at h
  refine h.mono ?_
  rw [Nat.mul_assoc]
  refine Nat.mul_le_mul_left _ ?_
  have h1:p ^ t ≤ 2 ^ (40 * t):=Nat.le_trans (Nat.pow_le_pow_left V.ps t) (by rw [← Nat.pow_mul]; exact Nat.le_refl _)
  have h2:q ^ (13 - t) ≤ 2 ^ (40 * (13 - t)):=Nat.le_trans (Nat.pow_le_pow_left V.qs _) (by rw [← Nat.pow_mul]; exact Nat.le_refl _)
  refine Nat.le_trans (Nat.mul_le_mul h1 h2) ?_
  rw [← Nat.pow_add]
  exact Nat.pow_le_pow_right (by decide) (by lia)
theorem Val.tot {M B q p t:Nat} {x r:Rat} (V:Val M B q p x) (ht:t ≤ 14) (h:Fit (M * q ^ 13) (B * 2 ^ 520 * t) r):Sz 3000 r:=by
  refine V.sz (t:=13) (by decide) (h.mono ?_)
  rw [Nat.mul_assoc]
  refine Nat.mul_le_mul_left _ ?_
  rw [show (41 * 13:Nat) = 520 + 13 from rfl,Nat.pow_add]
  exact Nat.mul_le_mul_left _ (Nat.le_trans ht (by decide))
theorem lat_run {ad:D} {a:List Rat} {M B q p:Nat} {x:Rat} (s:Sx) (V:Val M B q p x) (ha:seqOf ad = some (a.map enc)) (hl:a.length ≤ 13) (fa:∀ r ∈ a,Fit M B r) (sa:∀ r ∈ a,Sz 500 r) (sx:Sz 40 x) :
    g__law_at [ad,enc x] s = some (enc (pvR x a),s):=by
  have loop:∀ (l:List Rat) (t:Nat) (f:Rat) (c4:Ce),t + l.length ≤ 13→(∀ r ∈ l,Fit M B r)→(∀ r ∈ l,Sz 500 r)→Fit (M * q ^ 13) (B * 2 ^ 520 * t) f →
      ∃ c3 c4',forD (.one 4) B__law_at_1 (l.map enc) [.val ad,.val (enc x),.val (enc f),.val (enc (pwR x t)),c4] s = some (.next [.val ad,.val (enc x),.val (enc (f + pwR x t * pvR x l)),c3,c4'],s):=by
    intro l
    induction l with
    | nil =>
      intro t f c4 _ _ _ _
      refine ⟨.val (enc (pwR x t)),c4,?_⟩
      rw [show f + pwR x t * pvR x [] = f by show f + pwR x t * 0 = f; grind]; rfl
    | cons b l ih =>
      intro t f c4 ht hf hz hF
      rw [List.length_cons] at ht
      have tm:=V.term (t:=t) (by lia) (hf b List.mem_cons_self)
      have hF2:Fit (M * q ^ 13) (B * 2 ^ 520 * (t + 1)) (f + b * pwR x t):=by
        refine (hF.add tm).mono ?_
        rw [Nat.mul_succ]; exact Nat.le_refl _
      obtain ⟨c3,c4',e⟩:=ih (t + 1) (f + b * pwR x t) (.val (enc b)) (by lia) (fun r hr => hf r (List.mem_cons_of_mem _ hr)) (fun r hr => hz r (List.mem_cons_of_mem _ hr)) hF2
      refine ⟨c3,c4',?_⟩
      rw [show f + pwR x t * pvR x (b :: l) = f + b * pwR x t + pwR x (t + 1) * pvR x l by show f + pwR x t * (pvR x l * x + b) = f + b * pwR x t + pwR x t * x * pvR x l; grind]
      have sf:=(V.tot (t:=t) (by lia) hF).mono (show 3000 ≤ 4000 by decide)
      have sp:Sz 4000 (pwR x t):=(pw_sz sx t).mono (by lia)
      have stm:Sz 4000 (b * pwR x t):=(V.tot (t:=1) (by decide) (by rw [Nat.mul_one]; exact tm)).mono (by decide)
      have a1:sSet 2 (fCall g__law_plus (aCons (fVar 2) (aCons (fCall g__law_times (aCons (fVar 4) (aCons (fVar 3) aNil))) aNil))) [.val ad,.val (enc x),.val (enc f),.val (enc (pwR x t)),.val (enc b)] s = some (.next [.val ad,.val (enc x),.val (enc (f + b * pwR x t)),.val (enc (pwR x t)),.val (enc b)],s) :=
        sSet_run (fCall_run (ds:=[enc f,enc (b * pwR x t)]) (aCons_run (F:=fVar 2) rfl (aCons_run (FL:=aNil) (fCall_run (ds:=[enc b,enc (pwR x t)]) rfl (ltimes_enc s (n:=4000) (by decide) ((hz b List.mem_cons_self).mono (by decide)) sp)) rfl)) (lplus_enc s (n:=4000) (by decide) sf stm))
      have a2:sSet 3 (fCall g__law_times (aCons (fVar 3) (aCons (fVar 1) aNil))) [.val ad,.val (enc x),.val (enc (f + b * pwR x t)),.val (enc (pwR x t)),.val (enc b)] s = some (.next [.val ad,.val (enc x),.val (enc (f + b * pwR x t)),.val (enc (pwR x (t + 1))),.val (enc b)],s) :=
        sSet_run (fCall_run (ds:=[enc (pwR x t),enc x]) rfl (ltimes_enc s (n:=4000) (by decide) sp (sx.mono (by decide))))
      refine forD_cons (δ1:=[.val ad,.val (enc x),.val (enc f),.val (enc (pwR x t)),.val (enc b)]) (δ2:=[.val ad,.val (enc x),.val (enc (f + b * pwR x t)),.val (enc (pwR x (t + 1))),.val (enc b)]) (s1:=s) rfl ?_ e
      unfold B__law_at_1
      rw [sSeq_next a1,a2]
  obtain ⟨c3,c4,e⟩:=loop a 0 0 .non (by lia) fa sa (Fit.zero _ _)
  rw [show (0:Rat) + pwR x 0 * pvR x a = pvR x a by show (0:Rat) + 1 * pvR x a = pvR x a; grind] at e
  refine fn_run (n:=2) (m:=3) (G:=G__law_at) rfl ?_
  show G__law_at [.val ad,.val (enc x),.non,.non,.non] s = _
  have a1:sSet 2 (eTup (aCons (fC (.int 0)) (aCons (fC (.int 1)) aNil))) [.val ad,.val (enc x),.non,.non,.non] s = some (.next [.val ad,.val (enc x),.val (enc 0),.non,.non],s):=sSet_run (eTup_run rfl (small2 _ _))
  have a2:sSet 3 (eTup (aCons (fC (.int 1)) (aCons (fC (.int 1)) aNil))) [.val ad,.val (enc x),.val (enc 0),.non,.non] s = some (.next [.val ad,.val (enc x),.val (enc 0),.val (enc (pwR x 0)),.non],s):=sSet_run (eTup_run rfl (small2 _ _))
  have a3:L__law_at_2 [.val ad,.val (enc x),.val (enc 0),.val (enc (pwR x 0)),.non] s = some (.next [.val ad,.val (enc x),.val (enc (pvR x a)),c3,c4],s):=by
    have ei:iSeq (fVar 0) [.val ad,.val (enc x),.val (enc 0),.val (enc (pwR x 0)),.non] s = some (a.map enc,s):=by
      unfold iSeq
      show ((seqOf ad).map _) = _
      rw [ha]; rfl
    unfold L__law_at_2 sFor
    rw [ei]
    exact e
  unfold G__law_at
  rw [sSeq_next a1,sSeq_next a2,sSeq_next a3]
  rfl

theorem gNe_tuple_self {n:Nat} {l:List D} (h:AllN n l):gNe (.tuple l) (.tuple l) = some (.bool false):=by
  simp [gNe,shaped_tuple h,PyData.eqv,eqv_nums h]
structure Row5 (l:List Rat):Prop where
  tr:Trim l
  ln:l.length ≤ 13
  sz:∀ k,Sz 134 (co l k)
theorem Row5.mem {l:List Rat} (h:Row5 l):∀ r ∈ l,Sz 134 r:=mem_co h.sz
theorem scale_run (s:Sx) (x:Rat) (sx:Sz 134 x):∀ l:List Rat,(∀ r ∈ l,Sz 134 r)→compD (.one 0) fTrue (fCall g__law_times (aCons (fVar 0) (aCons (fVar 1) aNil))) [.non,.val (enc x)] (l.map enc) s = some ((l.map fun r => r * x).map enc,s)
  | [],_ => rfl
  | r :: l,h => by
    have ih:=scale_run s x sx l fun y hy => h y (List.mem_cons_of_mem _ hy)
    have e:fCall g__law_times (aCons (fVar 0) (aCons (fVar 1) aNil)) [.val (enc r),.val (enc x)] s = some (enc (r * x),s):=fCall_run (ds:=[enc r,enc x]) rfl (ltimes_enc s (n:=134) (by decide) (h r List.mem_cons_self) sx)
    rw [List.map_cons,List.map_cons,List.map_cons]
    unfold compD
    rw [show Tgt.run (.one 0) (enc r) [.non,.val (enc x)] = some [.val (enc r),.val (enc x)] from rfl]
    simp only [Option.bind_some,fTrue,if_true,e,ih,Option.map_some]
theorem co_map {l:List Rat} {f:Rat→Rat} (h0:f 0 = 0) (k:Nat):co (l.map f) k = f (co l k):=by
  unfold co
  rw [List.getD_eq_getElem?_getD,List.getD_eq_getElem?_getD,List.getElem?_map]
  cases l[k]? with
  | none => exact h0.symm
  | some r => rfl
theorem sz_neg {n:Nat} {r:Rat} (h:Sz n r):Sz n (r * ((-1:Int):Rat)):=by
  have:r * ((-1:Int):Rat) = -r:=by grind
  rw [this]
  exact ⟨show Bt n (-r.num) from h.1.neg,h.2⟩
theorem scaled_run {l:List Rat} (s:Sx) (h:Row5 l):∃ p:List Rat,g__law_scaled [.tuple (l.map enc),enc ((-1:Int):Rat)] s = some (.tuple (p.map enc),s)∧Row5 p∧∀ k,co p k = co l k * ((-1:Int):Rat):=by
  have sx:Sz 134 ((-1:Int):Rat):=⟨Bt.mono (n:=1) (.lit (by decide)) (by decide),Bt.mono (n:=1) (.lit (by decide)) (by decide)⟩
  have ec:=scale_run s ((-1:Int):Rat) sx l h.mem
  have hc:∀ k,co (l.map fun r => r * ((-1:Int):Rat)) k = co l k * ((-1:Int):Rat):=fun k => co_map (by grind) k
  have el:=asL_run (k:=1) (fr:=[1]) (Fi:=iSeq (fVar 0)) (δ:=[.val (.tuple (l.map enc)),.val (enc ((-1:Int):Rat))]) (s:=s) (s1:=s) rfl (by rw [List.length_map]; have:=h.ln; lia) ec
  have t:=ltrimmed_run (n:=134) (l:=((l.map fun r => r * ((-1:Int):Rat)).map enc)) s (all_enc fun k => by rw [hc]; exact sz_neg (h.sz k)) (by rw [List.length_map,List.length_map]; have:=h.ln; lia)
  rw [trimD_enc] at t
  refine ⟨trR (l.map fun r => r * ((-1:Int):Rat)),fn_run (n:=2) (m:=0) (G:=G__law_scaled) rfl ?_,⟨trim_trR _,?_,fun k => by rw [co_trR,hc]; exact sz_neg (h.sz k)⟩,fun k => by rw [co_trR,hc]⟩
  · show G__law_scaled [.val (.tuple (l.map enc)),.val (enc ((-1:Int):Rat))] s = _
    unfold G__law_scaled C__law_scaled_1 sRet
    exact congrArg (Option.map _) (fCall_run (ds:=[.list ((l.map fun r => r * ((-1:Int):Rat)).map enc)]) (aCons_run (FL:=aNil) el rfl) t)
  · rw [len_trR]
    have:=trL_le (l.map fun r => r * ((-1:Int):Rat)) (l.map fun r => r * ((-1:Int):Rat)).length
    rw [List.length_map] at this
    rw [List.length_map]
    have:=h.ln
    lia
theorem neg_one {δ:Sl} {s:Sx}:eTup (aCons (f1 gNeg (fC (.int 1))) (aCons (fC (.int 1)) aNil)) δ s = some (enc ((-1:Int):Rat),s):=eTup_run (ds:=[.int (-1),.int 1]) rfl (small2 _ _)
theorem fit26 {r:Rat} (h:Fit 2 6 r):Sz 3 r:=h.sz (by decide) (by decide) (by decide)
theorem handed_run {n:Nat} {l:List D} {s:Sx} (h:Good (n + 1) s):∃ d s',g__law_handed [.dict [],.tuple l] s = some (d,s')∧IsSeq d l∧Good n s':=by
  obtain ⟨j,s1,e1,hj,g1⟩:=draw_nat (n:=n) (m:=3) h (by decide) (by decide)
  have t:asB (f2 gEq (fCall g__law_take (aCons (fVar 0) (aCons (fC (.int 3)) aNil))) (fC (.int 0))) [.val (.dict []),.val (.tuple l)] s = some (decide ((j:Int) = 0),s1):=asB_r (f2_run (a:=.int (j:Int)) (b:=.int 0) (fCall_run (ds:=[.dict [],.int 3]) rfl e1) rfl (gEq_int _ _))
  by_cases hz:(j:Int) = 0
  · rw [decide_eq_true hz] at t
    refine ⟨.list l,s1,fn_run (n:=2) (m:=0) (G:=G__law_handed) rfl ?_,.inl rfl,g1⟩
    show G__law_handed [.val (.dict []),.val (.tuple l)] s = _
    unfold G__law_handed sRet eIf
    rw [t]; rfl
  · rw [decide_eq_false hz] at t
    refine ⟨.tuple l,s1,fn_run (n:=2) (m:=0) (G:=G__law_handed) rfl ?_,.inr rfl,g1⟩
    show G__law_handed [.val (.dict []),.val (.tuple l)] s = _
    unfold G__law_handed sRet eIf
    rw [t]; rfl
theorem div_nat {m k:Nat} (h0:0 < k) (h1:k < 100):gDivI (.int (m:Int)) (.int (k:Int)) = some (.int ((m / k:Nat):Int)):=by
  have dk:divOk (m:Int) (k:Int) = true:=Bt.div (n:=7) (bt_lt (by lia) (by lia)) (by lia) (by decide)
  have e:((m:Int)).fdiv (k:Int) = ((m / k:Nat):Int):=by rw [Int.fdiv_eq_ediv_of_nonneg _ (Int.natCast_nonneg _)]; rfl
  simp only [gDivI,gI,dk,if_true,e]
theorem pair_run {n:Nat} {s:Sx} (h:Good (n + 236) s):∃ (a b:List Rat) (s':Sx),g__law_pair [.dict []] s = some (.tuple [.tuple (a.map enc),.tuple (b.map enc)],s')∧Row5 a∧Row5 b∧Good n s':=by
  obtain ⟨j,s1,e1,hj,g1⟩:=draw_nat (n:=n + 235) (m:=8) h (by decide) (by decide)
  obtain ⟨most,m1,a1⟩:∃ most:Nat,most ≤ 12∧sSet 1 (f2 gIx (eLst (aCons (fC (.int 5)) (aCons (fC (.int 12)) aNil))) (f2 gDivI (fCall g__law_take (aCons (fVar 0) (aCons (fC (.int 8)) aNil))) (fC (.int 7)))) [.val (.dict []),.non,.non,.non,.non] s = some (.next [.val (.dict []),.val (.int (most:Int)),.non,.non,.non],s1):=by
    have dv:=div_nat (m:=j) (k:=7) (by decide) (by decide)
    have q:f2 gDivI (fCall g__law_take (aCons (fVar 0) (aCons (fC (.int 8)) aNil))) (fC (.int 7)) [.val (.dict []),.non,.non,.non,.non] s = some (.int ((j / 7:Nat):Int),s1):=f2_run (a:=.int (j:Int)) (b:=.int 7) (fCall_run (ds:=[.dict [],.int 8]) rfl e1) rfl dv
    have:j / 7 = 0 ∨ j / 7 = 1:=by lia
    rcases this with hz | hz
    · rw [hz] at q
      exact ⟨5,by decide,sSet_run (f2_run (a:=.list [.int 5,.int 12]) (b:=.int 0) (eLst_run rfl (small2 _ _)) q rfl)⟩
    · rw [hz] at q
      exact ⟨12,by decide,sSet_run (f2_run (a:=.list [.int 5,.int 12]) (b:=.int 1) (eLst_run rfl (small2 _ _)) q rfl)⟩
  obtain ⟨a,s2,e2,ta,sa,la,g2⟩:=lpoly_run (n:=n + 128) (most:=(most:Int)) (by lia) (by lia) g1
  obtain ⟨b,s3,e3,tb,sb,lb,g3⟩:=lpoly_run (n:=n + 21) (most:=(most:Int)) (by lia) (by lia) g2
  have ra:Row5 a:=⟨ta,la,fun k => (co_mem sa sz0 k).mono (by decide)⟩
  have rb:Row5 b:=⟨tb,lb,fun k => (co_mem sb sz0 k).mono (by decide)⟩
  have a2:sPar 2 3 (aCons (fCall g__law_poly (aCons (fVar 0) (aCons (fVar 1) aNil))) (aCons (fCall g__law_poly (aCons (fVar 0) (aCons (fVar 1) aNil))) aNil)) [.val (.dict []),.val (.int (most:Int)),.non,.non,.non] s1 = some (.next [.val (.dict []),.val (.int (most:Int)),.val (.tuple (a.map enc)),.val (.tuple (b.map enc)),.non],s3):=by
    unfold sPar
    rw [aCons_run (d:=.tuple (a.map enc)) (fCall_run (ds:=[.dict [],.int (most:Int)]) rfl e2) (aCons_run (d:=.tuple (b.map enc)) (FL:=aNil) (fCall_run (ds:=[.dict [],.int (most:Int)]) rfl e3) rfl)]
    rfl
  obtain ⟨w,s4,e4,hw,g4⟩:=draw_nat (n:=n + 20) (m:=6) g3 (by decide) (by decide)
  have a3:sSet 4 (fCall g__law_take (aCons (fVar 0) (aCons (fC (.int 6)) aNil))) [.val (.dict []),.val (.int (most:Int)),.val (.tuple (a.map enc)),.val (.tuple (b.map enc)),.non] s3 = some (.next [.val (.dict []),.val (.int (most:Int)),.val (.tuple (a.map enc)),.val (.tuple (b.map enc)),.val (.int (w:Int))],s4):=sSet_run (fCall_run (ds:=[.dict [],.int 6]) rfl e4)
  obtain ⟨c,rc,a4⟩:∃ c:List Rat,Row5 c∧sIf (asB (f2 gEq (fVar 4) (fC (.int 0)))) (sSet 3 (fCall g__law_scaled (aCons (fVar 2) (aCons (eTup (aCons (f1 gNeg (fC (.int 1))) (aCons (fC (.int 1)) aNil))) aNil)))) sNext [.val (.dict []),.val (.int (most:Int)),.val (.tuple (a.map enc)),.val (.tuple (b.map enc)),.val (.int (w:Int))] s4 = some (.next [.val (.dict []),.val (.int (most:Int)),.val (.tuple (a.map enc)),.val (.tuple (c.map enc)),.val (.int (w:Int))],s4):=by
    have t:asB (f2 gEq (fVar 4) (fC (.int 0))) [.val (.dict []),.val (.int (most:Int)),.val (.tuple (a.map enc)),.val (.tuple (b.map enc)),.val (.int (w:Int))] s4 = some (decide ((w:Int) = 0),s4):=asB_r (f2_run (a:=.int (w:Int)) (b:=.int 0) rfl rfl (gEq_int _ _))
    by_cases hz:(w:Int) = 0
    · rw [decide_eq_true hz] at t
      obtain ⟨p,ep,rp,_⟩:=scaled_run s4 ra
      exact ⟨p,rp,sIf_t t (sSet_run (fCall_run (ds:=[.tuple (a.map enc),enc ((-1:Int):Rat)]) (aCons_run (F:=fVar 2) rfl (aCons_run (FL:=aNil) neg_one rfl)) ep))⟩
    · rw [decide_eq_false hz] at t
      exact ⟨b,rb,sIf_f t rfl⟩
  obtain ⟨d,s5,rd,g5,a5⟩:∃ (d:List Rat) (s5:Sx),Row5 d∧Good n s5∧sIf (asB (f2 gEq (fVar 4) (fC (.int 1)))) (sSet 3 (fCall g__law_sum (aCons (fVar 2) (aCons (fCall g__law_little (aCons (fVar 0) (aCons (fC (.int 2)) aNil))) aNil)))) sNext [.val (.dict []),.val (.int (most:Int)),.val (.tuple (a.map enc)),.val (.tuple (c.map enc)),.val (.int (w:Int))] s4 = some (.next [.val (.dict []),.val (.int (most:Int)),.val (.tuple (a.map enc)),.val (.tuple (d.map enc)),.val (.int (w:Int))],s5):=by
    have t:asB (f2 gEq (fVar 4) (fC (.int 1))) [.val (.dict []),.val (.int (most:Int)),.val (.tuple (a.map enc)),.val (.tuple (c.map enc)),.val (.int (w:Int))] s4 = some (decide ((w:Int) = 1),s4):=asB_r (f2_run (a:=.int (w:Int)) (b:=.int 1) rfl rfl (gEq_int _ _))
    by_cases hz:(w:Int) = 1
    · rw [decide_eq_true hz] at t
      obtain ⟨t5,s5,e5,_,f5,l5,_,g5⟩:=llittle_run (n:=n) (most:=2) (by decide) (by decide) g4
      have sm:∀ k,Sz 134 (co a k + co t5 k):=fun k => (sz_add (co_mem sa sz0 k) (fit26 (f5 k))).mono (by decide)
      obtain ⟨p,ep,tp,lp,cp⟩:=lsum_run (ad:=.tuple (a.map enc)) (bd:=.tuple (t5.map enc)) (a:=a) (b:=t5) s5 rfl rfl rfl (by lia) (fun k => (ra.sz k).mono (by decide)) (fun k => (fit26 (f5 k)).mono (by decide)) (fun k => (sm k).mono (by decide))
      exact ⟨p,s5,⟨tp,by lia,fun k => by rw [cp]; exact sm k⟩,g5,sIf_t t (sSet_run (fCall_run (ds:=[.tuple (a.map enc),.tuple (t5.map enc)]) (aCons_run (F:=fVar 2) rfl (aCons_run (FL:=aNil) (fCall_run (ds:=[.dict [],.int 2]) rfl e5) rfl)) ep))⟩
    · rw [decide_eq_false hz] at t
      exact ⟨c,s4,rc,g4.mono (by lia),sIf_f t rfl⟩
  refine ⟨a,d,s5,fn_run (n:=1) (m:=4) (G:=G__law_pair) rfl ?_,ra,rd,g5⟩
  show G__law_pair [.val (.dict []),.non,.non,.non,.non] s = _
  unfold G__law_pair
  rw [sSeq_next a1,sSeq_next a2,sSeq_next a3,sSeq_next a4,sSeq_next a5]
  unfold sRet
  exact congrArg (Option.map _) (eTup_run (aCons_run (F:=fVar 2) rfl (aCons_run (F:=fVar 3) (FL:=aNil) rfl rfl)) (small2 _ _))
theorem row_fit {l:List Rat} (h:Row5 l):∃ M B:Nat,0 < M∧M ≤ 2 ^ 1742∧B ≤ 2 ^ 1876∧∀ r ∈ l,Fit M B r:=by
  obtain ⟨M,h0,h1,h2⟩:=common (n:=134) h.mem
  have:=h.ln
  exact ⟨M,2 ^ (134 * (l.length + 1)),h0,Nat.le_trans h1 (Nat.pow_le_pow_right (by decide) (by lia)),Nat.pow_le_pow_right (by decide) (by lia),h2⟩
theorem prod_sz {M M2 B B2:Nat} {r:Rat} (m0:0 < M) (n0:0 < M2) (hM:M ≤ 2 ^ 1742) (hM2:M2 ≤ 2 ^ 1742) (hB:B ≤ 2 ^ 1876) (hB2:B2 ≤ 2 ^ 1876) (h:Fit (M * M2) (B * B2 * 20) r):Sz 4000 r:=by
  have h1:M * M2 ≤ 2 ^ 1742 * 2 ^ 1742:=Nat.mul_le_mul hM hM2
  have h2:B * B2 * 20 ≤ 2 ^ 1876 * 2 ^ 1876 * 2 ^ 5:=Nat.mul_le_mul (Nat.mul_le_mul hB hB2) (by decide)
  rw [← Nat.pow_add] at h1
  rw [← Nat.pow_add,← Nat.pow_add] at h2
  exact h.sz (Nat.mul_pos m0 n0) (Nat.lt_of_le_of_lt h1 (Nat.pow_lt_pow_right (by decide) (by decide))) (Nat.lt_of_le_of_lt h2 (Nat.pow_lt_pow_right (by decide) (by decide)))
theorem body_run {n:Nat} {s:Sx} {c0 c2 c3 c4 c5 c6 c7:Ce} (h:Good (n + 250) s):∃ d3 d4 d5 d6 d7 s',B_law_1 [c0,.val (.dict []),c2,c3,c4,c5,c6,c7] s = some (.next [c0,.val (.dict []),c2,d3,d4,d5,d6,d7],s')∧Good n s':=by
  obtain ⟨a,b,s1,e1,ra,rb,g1⟩:=pair_run (n:=n + 14) h
  have a1:sUnp (.tup [3,4]) (fCall g__law_pair (aCons (fVar 1) aNil)) [c0,.val (.dict []),c2,c3,c4,c5,c6,c7] s = some (.next [c0,.val (.dict []),c2,.val (.tuple (a.map enc)),.val (.tuple (b.map enc)),c5,c6,c7],s1):=by
    unfold sUnp
    rw [fCall_run (ds:=[.dict []]) rfl e1]; rfl
  obtain ⟨ld,s2,e2,hld,g2⟩:=handed_run (n:=n + 13) (l:=a.map enc) g1
  obtain ⟨rd,s3,e3,hrd,g3⟩:=handed_run (n:=n + 12) (l:=b.map enc) g2
  have a2:sPar 5 6 (aCons (fCall g__law_handed (aCons (fVar 1) (aCons (fVar 3) aNil))) (aCons (fCall g__law_handed (aCons (fVar 1) (aCons (fVar 4) aNil))) aNil)) [c0,.val (.dict []),c2,.val (.tuple (a.map enc)),.val (.tuple (b.map enc)),c5,c6,c7] s1 = some (.next [c0,.val (.dict []),c2,.val (.tuple (a.map enc)),.val (.tuple (b.map enc)),.val ld,.val rd,c7],s3):=by
    unfold sPar
    rw [aCons_run (d:=ld) (fCall_run (ds:=[.dict [],.tuple (a.map enc)]) rfl e2) (aCons_run (d:=rd) (FL:=aNil) (fCall_run (ds:=[.dict [],.tuple (b.map enc)]) rfl e3) rfl)]
    rfl
  have la:=ra.ln
  have lb:=rb.ln
  have szs:∀ k,Sz 500 (co a k + co b k):=fun k => (sz_add (ra.sz k) (rb.sz k)).mono (by decide)
  have szd:∀ k,Sz 500 (co a k - co b k):=fun k => (sz_sub (ra.sz k) (rb.sz k)).mono (by decide)
  -- sums
  obtain ⟨p1,ep1,tp1,cp1⟩:=psum_run s3 hld.seq hrd.seq (by lia) (by lia) (fun k => (ra.sz k).mono (by decide)) (fun k => (rb.sz k).mono (by decide))
  obtain ⟨q1,eq1,tq1,lq1,cq1⟩:=lsum_run (ad:=.tuple (a.map enc)) (bd:=.tuple (b.map enc)) (a:=a) (b:=b) s3 rfl rfl rfl (by lia) (fun k => (ra.sz k).mono (by decide)) (fun k => (rb.sz k).mono (by decide)) (fun k => (szs k).mono (by decide))
  have hpq1:p1 = q1:=tp1.ext tq1 fun k => by rw [cp1,cq1]
  subst hpq1
  have a3:sIf (tNotF (asT (fCall g__law_same (aCons (fCall g_poly_sum (aCons (fVar 5) (aCons (fVar 6) aNil))) (aCons (fCall g__law_sum (aCons (fVar 3) (aCons (fVar 4) aNil))) aNil))))) (sRet (fC (.bool false))) sNext [c0,.val (.dict []),c2,.val (.tuple (a.map enc)),.val (.tuple (b.map enc)),.val ld,.val rd,c7] s3 = some (.next [c0,.val (.dict []),c2,.val (.tuple (a.map enc)),.val (.tuple (b.map enc)),.val ld,.val rd,c7],s3) :=
    sIf_f (s':=s3) (tNotF_r (asT_r (fCall_run (ds:=[.tuple (p1.map enc),.tuple (p1.map enc)]) (aCons_run (fCall_run (ds:=[ld,rd]) rfl ep1) (aCons_run (FL:=aNil) (fCall_run (ds:=[.tuple (a.map enc),.tuple (b.map enc)]) rfl eq1) rfl)) (same_nums (n:=500) (k:=3) s3 (all_enc fun k => by rw [cp1]; exact szs k) (by rw [List.length_map]; lia))))) rfl
  -- differences
  obtain ⟨nb,enb,rnb,cnb⟩:=scaled_run s3 rb
  obtain ⟨p2,ep2,tp2,cp2⟩:=pless_run s3 hld.seq hrd.seq (by lia) (by lia) (fun k => (ra.sz k).mono (by decide)) (fun k => (rb.sz k).mono (by decide))
  have hdif:∀ k,co a k + co nb k = co a k - co b k:=fun k => by rw [cnb]; grind
  obtain ⟨q2,eq2,tq2,lq2,cq2⟩:=lsum_run (ad:=.tuple (a.map enc)) (bd:=.tuple (nb.map enc)) (a:=a) (b:=nb) s3 rfl rfl rfl (by have:=rnb.ln; lia) (fun k => (ra.sz k).mono (by decide)) (fun k => (rnb.sz k).mono (by decide)) (fun k => by rw [hdif]; exact (szd k).mono (by decide))
  have hpq2:p2 = q2:=tp2.ext tq2 fun k => by rw [cp2,cq2,hdif]
  subst hpq2
  have a4:sIf (tNotF (asT (fCall g__law_same (aCons (fCall g_poly_less (aCons (fVar 5) (aCons (fVar 6) aNil))) (aCons (fCall g__law_sum (aCons (fVar 3) (aCons (fCall g__law_scaled (aCons (fVar 4) (aCons (eTup (aCons (f1 gNeg (fC (.int 1))) (aCons (fC (.int 1)) aNil))) aNil))) aNil))) aNil))))) (sRet (fC (.bool false))) sNext [c0,.val (.dict []),c2,.val (.tuple (a.map enc)),.val (.tuple (b.map enc)),.val ld,.val rd,c7] s3 = some (.next [c0,.val (.dict []),c2,.val (.tuple (a.map enc)),.val (.tuple (b.map enc)),.val ld,.val rd,c7],s3) :=
    sIf_f (s':=s3) (tNotF_r (asT_r (fCall_run (ds:=[.tuple (p2.map enc),.tuple (p2.map enc)]) (aCons_run (fCall_run (ds:=[ld,rd]) rfl ep2) (aCons_run (FL:=aNil) (fCall_run (ds:=[.tuple (a.map enc),.tuple (nb.map enc)]) (aCons_run (F:=fVar 3) rfl (aCons_run (FL:=aNil) (fCall_run (ds:=[.tuple (b.map enc),enc ((-1:Int):Rat)]) (aCons_run (F:=fVar 4) rfl (aCons_run (FL:=aNil) neg_one rfl)) enb) rfl)) eq2) rfl)) (same_nums (n:=500) (k:=3) s3 (all_enc fun k => by rw [cp2]; exact szd k) (by rw [List.length_map]; have:=rnb.ln; lia))))) rfl
  -- products
  obtain ⟨M,B,m0,m1,b1,fa⟩:=row_fit ra
  obtain ⟨M2,B2,n0,n1,b2,fb⟩:=row_fit rb
  have fca:∀ k,Fit M B (co a k):=fun k => co_mem fa (Fit.zero _ _) k
  have fcb:∀ k,Fit M2 B2 (co b k):=fun k => co_mem fb (Fit.zero _ _) k
  have hS:∀ r,Fit (M * M2) (B * B2 * 20) r→Sz 4000 r:=fun r hr => prod_sz m0 n0 m1 n1 b1 b2 hr
  obtain ⟨p3,ep3,tp3,cp3⟩:=pprod_run s3 hld.seq hrd.seq (by lia) (by lia) fca fcb (fun k => (ra.sz k).mono (by decide)) (fun k => (rb.sz k).mono (by decide)) hS
  obtain ⟨q3,eq3,tq3,lq3,cq3,fq3⟩:=lprod_run (ad:=.tuple (a.map enc)) (bd:=.tuple (b.map enc)) s3 rfl rfl (by lia) (by lia) fca fcb (fun k => (ra.sz k).mono (by decide)) (fun k => (rb.sz k).mono (by decide)) (fun i k => (sz_mul (ra.sz i) (rb.sz k)).mono (by decide)) hS
  have hpq3:p3 = q3:=tp3.ext tq3 fun k => by rw [cp3,cq3]
  subst hpq3
  have a5:sIf (tNotF (asT (fCall g__law_same (aCons (fCall g_poly_product (aCons (fVar 5) (aCons (fVar 6) aNil))) (aCons (fCall g__law_product (aCons (fVar 3) (aCons (fVar 4) aNil))) aNil))))) (sRet (fC (.bool false))) sNext [c0,.val (.dict []),c2,.val (.tuple (a.map enc)),.val (.tuple (b.map enc)),.val ld,.val rd,c7] s3 = some (.next [c0,.val (.dict []),c2,.val (.tuple (a.map enc)),.val (.tuple (b.map enc)),.val ld,.val rd,c7],s3) :=
    sIf_f (s':=s3) (tNotF_r (asT_r (fCall_run (ds:=[.tuple (p3.map enc),.tuple (p3.map enc)]) (aCons_run (fCall_run (ds:=[ld,rd]) rfl ep3) (aCons_run (FL:=aNil) (fCall_run (ds:=[.tuple (a.map enc),.tuple (b.map enc)]) rfl eq3) rfl)) (same_nums (n:=4000) (k:=3) s3 (all_enc fun k => hS _ (fq3 k)) (by rw [List.length_map]; omega))))) rfl
  -- x
  obtain ⟨x1,s4,e4,hx1,g4⟩:=lsmall_run (n:=n + 10) g3
  obtain ⟨d2,u,v,s5,e5,hN,g5⟩:=lnum_run (n:=n + 5) g4
  obtain ⟨x2,rfl,hx2⟩:=IsN.enc ⟨u,v,hN⟩
  obtain ⟨j,s6,e6,hj,g6⟩:=draw_nat (n:=n + 4) (m:=3) g5 (by decide) (by decide)
  obtain ⟨x,sx,a6⟩:∃ x:Rat,Sz 40 x∧sSet 7 (f2 gIx (eLst (aCons (eTup (aCons (fC (.int 0)) (aCons (fC (.int 1)) aNil))) (aCons (fCall g__law_small (aCons (fVar 1) aNil)) (aCons (fCall g__law_number (aCons (fVar 1) aNil)) aNil)))) (fCall g__law_take (aCons (fVar 1) (aCons (fC (.int 3)) aNil)))) [c0,.val (.dict []),c2,.val (.tuple (a.map enc)),.val (.tuple (b.map enc)),.val ld,.val rd,c7] s3 = some (.next [c0,.val (.dict []),c2,.val (.tuple (a.map enc)),.val (.tuple (b.map enc)),.val ld,.val rd,.val (enc x)],s6):=by
    have el:eLst (aCons (eTup (aCons (fC (.int 0)) (aCons (fC (.int 1)) aNil))) (aCons (fCall g__law_small (aCons (fVar 1) aNil)) (aCons (fCall g__law_number (aCons (fVar 1) aNil)) aNil))) [c0,.val (.dict []),c2,.val (.tuple (a.map enc)),.val (.tuple (b.map enc)),.val ld,.val rd,c7] s3 = some (.list [enc 0,enc x1,enc x2],s5):=eLst_run (aCons_run (eTup_run rfl (small2 _ _)) (aCons_run (fCall_run (ds:=[.dict []]) rfl e4) (aCons_run (FL:=aNil) (fCall_run (ds:=[.dict []]) rfl e5) rfl))) (small_le (by simp))
    have et:fCall g__law_take (aCons (fVar 1) (aCons (fC (.int 3)) aNil)) [c0,.val (.dict []),c2,.val (.tuple (a.map enc)),.val (.tuple (b.map enc)),.val ld,.val rd,c7] s5 = some (.int (j:Int),s6):=fCall_run (ds:=[.dict [],.int 3]) rfl e6
    have:j = 0 ∨ j = 1 ∨ j = 2:=by lia
    rcases this with rfl | rfl | rfl
    · exact ⟨0,sz_zero.mono (by decide),sSet_run (f2_run el et rfl)⟩
    · exact ⟨x1,(fit26 hx1.2.1).mono (by decide),sSet_run (f2_run el et rfl)⟩
    · exact ⟨x2,hx2,sSet_run (f2_run el et rfl)⟩
  have V:Val M B x.den x.num.natAbs x:=⟨Fit.self x,by have:=x.den_nz; lia,by have:(x.den:Int).natAbs < 2 ^ 40:=sx.2; omega,Nat.le_of_lt sx.1,m0,Nat.le_trans m1 (Nat.pow_le_pow_right (by decide) (by decide)),Nat.le_trans b1 (Nat.pow_le_pow_right (by decide) (by decide))⟩
  have ev:=value_run s6 V hld.seq la fa (fun r hr => (ra.mem r hr).mono (by decide)) (sx.mono (by decide))
  have el:=lat_run (ad:=.tuple (a.map enc)) s6 V rfl la fa (fun r hr => (ra.mem r hr).mono (by decide)) sx
  have szv:Sz 3000 (pvR x a):=V.sz (t:=a.length) (by lia) (V.pv a fa)
  refine ⟨.val (.tuple (a.map enc)),.val (.tuple (b.map enc)),.val ld,.val rd,.val (enc x),s6,?_,g6.mono (by lia)⟩
  unfold B_law_1
  rw [sSeq_next a1,sSeq_next a2,sSeq_next a3,sSeq_next a4,sSeq_next a5,sSeq_next a6]
  refine sIf_f (s':=s6) (tOrF_f (s1:=s6) (tNotF_r (asT_r (fCall_run (ds:=[enc (pvR x a),enc (pvR x a)]) (aCons_run (fCall_run (ds:=[ld,enc x]) rfl ev) (aCons_run (FL:=aNil) (fCall_run (ds:=[.tuple (a.map enc),enc x]) rfl el) rfl)) (same_isN (k:=4) s6 szv.isN)))) (tOrF_f (s1:=s6) (asB_r (f2_run (a:=.tuple (a.map enc)) (b:=.tuple (a.map enc)) (f1_run (a:=ld) rfl hld.tup) rfl (gNe_tuple_self (all_enc ra.sz)))) (asB_r (f2_run (a:=.tuple (b.map enc)) (b:=.tuple (b.map enc)) (f1_run (a:=rd) rfl hrd.tup) rfl (gNe_tuple_self (all_enc rb.sz)))))) rfl
theorem law_run:∀ cells:List Int,0 < cells.length→cells.length ≤ 63→∃ s',G_law d_law (cells,0) = some (.ret (.bool true),s'):=fun cells h0 h1 => by
  have g0:Good (250 * 6) ((cells,0):Sx):=⟨h0,h1,(by show (0:Int) ≤ 0; decide),(by show (0:Int) + ((250 * 6:Nat):Int) < 1000000; decide)⟩
  obtain ⟨δ',s1,e1,x2,x3,x4,x5,x6,x7,hδ,g1⟩:=forD_run (T:=.one 2) (G:=B_law_1) (fun k δ s => ∃ x2 x3 x4 x5 x6 x7,δ = [.non,.val (.dict []),x2,x3,x4,x5,x6,x7]∧Good (250 * k) s) (rng 0 6) d_law (cells,0) ⟨.non,.non,.non,.non,.non,.non,rfl,by rw [rng_len]; exact g0⟩ (fun k d δ s hd x__170 => by
    obtain ⟨x2,x3,x4,x5,x6,x7,hδ,hg⟩:=x__170
    subst hδ
    obtain ⟨d3,d4,d5,d6,d7,s',e,g⟩:=body_run (n:=250 * k) (c0:=.non) (c2:=.val d) (c3:=x3) (c4:=x4) (c5:=x5) (c6:=x6) (c7:=x7) (hg.mono (by lia))
    exact ⟨_,_,s',rfl,e,_,_,_,_,_,_,rfl,g⟩)
  subst hδ
  refine ⟨s1,?_⟩
  have l1:L_law_2 d_law (cells,0) = some (.next [.non,.val (.dict []),x2,x3,x4,x5,x6,x7],s1):=by
    have er:iRange1 (fC (.int 6)) d_law (cells,0) = some (rng 0 6,(cells,0)):=iRange1_nat (n:=6) rfl (by decide)
    unfold L_law_2 sFor
    rw [er]
    exact e1
  unfold G_law
  rw [sSeq_next l1]
  rfl

theorem ok_law {f:Addr} {fd:FuncData} (F:Fun K "law" "law" s_law f fd) (hb:∃ f fd,FnOk P w K mg base CX0 1 f fd ["_law_script"] (spBegin K)∧mg "_law_begin" = some (.ref f)∧PySem.W.keepIn K (.ref f) = true∧Binds K fd ["_law_script"] []) (h_poly_sum:Cal P w K mg base "poly_sum" ["one","other"] 8 g_poly_sum) (h_poly_less:Cal P w K mg base "poly_less" ["one","other"] 8 g_poly_less) (h_poly_product:Cal P w K mg base "poly_product" ["one","other"] 8 g_poly_product) (h_value_at:Cal P w K mg base "value_at" ["one","x"] 8 g_value_at) (h__law_take:Cal P w K mg base "_law_take" ["_law_state","_law_many"] 1 g__law_take) (h__law_same:Cal P w K mg base "_law_same" ["_law_found","_law_due"] 7 g__law_same) (h__law_number:Cal P w K mg base "_law_number" ["_law_state"] 2 g__law_number) (h__law_small:Cal P w K mg base "_law_small" ["_law_state"] 2 g__law_small) (h__law_product:Cal P w K mg base "_law_product" ["_law_one","_law_other"] 3 g__law_product) (h__law_sum:Cal P w K mg base "_law_sum" ["_law_one","_law_other"] 3 g__law_sum) (h__law_scaled:Cal P w K mg base "_law_scaled" ["_law_one","_law_share"] 3 g__law_scaled) (h__law_at:Cal P w K mg base "_law_at" ["_law_one","_law_x"] 3 g__law_at) (h__law_handed:Cal P w K mg base "_law_handed" ["_law_state","_law_thing"] 2 g__law_handed) (h__law_pair:Cal P w K mg base "_law_pair" ["_law_state"] 5 g__law_pair) (n_range:mg "range" = none) (n_tuple:mg "tuple" = none)
    (run:∀ cells:List Int,0 < cells.length→cells.length ≤ 63→∃ s',G_law d_law (cells,0) = some (.ret (.bool true),s')):FnOk P w K mg base CX0 9 f fd ["_law_script"] (spLaw K):=by
  obtain ⟨fb,fdb,Gb,mb,kb,bb⟩:=hb
  have nd:=sc_law.nd
  refine F.ok sc_law (fun vs H Q E x__171 => by obtain ⟨a,ns,e,_⟩:=x__171; subst e; rfl) (fun cdv A outer s H vs Q E hr x__172 => ?_)
  obtain ⟨a,ns,e,sq,hl,q⟩:=x__172
  subst e
  refine ⟨_,pss_cons (ps_set (i:=1) nd rfl (by first | exact Or.inl rfl | exact Or.inr rfl) (pe_call Gb (hr.mono (by decide)) rfl mb kb bb .nil pass0 (pa_cons (pv 0) pa_nil)))
    (DSs.any ((dss_cons (ds_for (di_range1 n_range de_int) (dg_name (i:=2) nd) (dss_cons (ds_asg (de_cal h__law_pair hr (da_cons (dv 1) da_nil)) (dg_tup (pgn_cons (i:=3) nd (pgn_cons (i:=4) nd pgn_nil))))
      (dss_cons (ds_par (i:=5) (j:=6) nd (by decide) (da_cons (de_cal h__law_handed hr (da_cons (dv 1) (da_cons (dv 3) da_nil))) (da_cons (de_cal h__law_handed hr (da_cons (dv 1) (da_cons (dv 4) da_nil))) da_nil)) (by first | rfl | with_unfolding_all rfl))
      (dss_cons (ds_if (dt_not (dt_tru (de_cal h__law_same hr (da_cons (de_cal h_poly_sum hr (da_cons (dv 5) (da_cons (dv 6) da_nil))) (da_cons (de_cal h__law_sum hr (da_cons (dv 3) (da_cons (dv 4) da_nil))) da_nil))).w (fun _ => rfl))) (dss_one (ds_ret de_bl)) dss_nil)
      (dss_cons (ds_if (dt_not (dt_tru (de_cal h__law_same hr (da_cons (de_cal h_poly_less hr (da_cons (dv 5) (da_cons (dv 6) da_nil))) (da_cons (de_cal h__law_sum hr (da_cons (dv 3) (da_cons (de_cal h__law_scaled hr (da_cons (dv 4) (da_cons (de_tup (da_cons (de_neg (de_int).w) (da_cons de_int da_nil))) da_nil))) da_nil))) da_nil))).w (fun _ => rfl))) (dss_one (ds_ret de_bl)) dss_nil)
      (dss_cons (ds_if (dt_not (dt_tru (de_cal h__law_same hr (da_cons (de_cal h_poly_product hr (da_cons (dv 5) (da_cons (dv 6) da_nil))) (da_cons (de_cal h__law_product hr (da_cons (dv 3) (da_cons (dv 4) da_nil))) da_nil))).w (fun _ => rfl))) (dss_one (ds_ret de_bl)) dss_nil)
      (dss_cons (ds_set (i:=7) nd (de_ix (de_lst (da_cons (de_tup (da_cons de_int (da_cons de_int da_nil))) (da_cons (de_cal h__law_small hr (da_cons (dv 1) da_nil)) (da_cons (de_cal h__law_number hr (da_cons (dv 1) da_nil)) da_nil)))).w (de_cal h__law_take hr (da_cons (dv 1) (da_cons de_int da_nil))).w (fun _ _ => rfl)))
      (dss_one (ds_if (dw_or (dt_not (dt_tru (de_cal h__law_same hr (da_cons (de_cal h_value_at hr (da_cons (dv 5) (da_cons (dv 7) da_nil))) (da_cons (de_cal h__law_at hr (da_cons (dv 3) (da_cons (dv 7) da_nil))) da_nil))).w (fun _ => rfl))) (dw_or (dt_cmp (dne hr.units) (de_t1 dc_tuple (by first | rfl | decide +kernel) n_tuple (dv 5).w).w (dv 3).w (nomark _)) (dw_or1 (dt_cmp (dne hr.units) (de_t1 dc_tuple (by first | rfl | decide +kernel) n_tuple (dv 6).w).w (dv 4).w (nomark _))))).t (dss_one (ds_ret de_bl)) dss_nil)))))))))
      (dss_one (ds_ret de_bl))):DSs _ _ G_law)),?_⟩
  refine ⟨_,rfl,a,ns,rfl,sq,hl,fun st c H' same h1 h2 => ?_⟩
  obtain ⟨s',hrun⟩:=run (beginCells ns) (begin_len ns hl).1 (begin_len ns hl).2
  refine ⟨some (st,c),[],[],d_law,(beginCells ns,0),_,s',Al.repS (.non (.val (.st rfl) (.non (.non (.non (.non (.non (.non .nil)))))))) (fun q hq => nomatch hq) (fun b o eb _ => same b o eb),(fun a c h => by cases h; exact ⟨h1,h2⟩),hrun,fun v H2 x S r => by cases r; exact q H2⟩
end
theorem all_mk {l:PySem.W.OpenLaw} {w:World} {K:PySem.W.Frag} {h:Heap} {mg:Str→Option Value} {fa:Addr} (X:K.In h) (G:h.Ns mainGlobals mg) (hfa:mg "law" = some (.ref fa))
    {C0:Addr}
    {t_GREAT_BITS:Nat}
    {p_NOUGHT:Addr} {q_NOUGHT:Option Addr} {n_NOUGHT:Nat} {w_NOUGHT:Array (Option Value)} {t0_NOUGHT:Nat} {t1_NOUGHT:Nat}
    {p_UNIT:Addr} {q_UNIT:Option Addr} {n_UNIT:Nat} {w_UNIT:Array (Option Value)} {t0_UNIT:Nat} {t1_UNIT:Nat}
    (d0:FD K "_wall" s__wall)
    (d1:FD K "greatest_divisor" s_greatest_divisor)
    (d2:FD K "leapt" s_leapt)
    (d3:FD K "number" s_number)
    (d4:FD K "plus" s_plus)
    (d5:FD K "minus" s_minus)
    (d6:FD K "summed" s_summed)
    (d7:FD K "times" s_times)
    (d8:FD K "trimmed" s_trimmed)
    (d9:FD K "paired" s_paired)
    (d10:FD K "sum_in" s_sum_in)
    (d11:FD K "less_in" s_less_in)
    (d12:FD K "product_in" s_product_in)
    (d13:FD K "value_in" s_value_in)
    (d14:FD K "poly_sum" s_poly_sum)
    (d15:FD K "poly_less" s_poly_less)
    (d16:FD K "poly_product" s_poly_product)
    (d17:FD K "value_at" s_value_at)
    (d18:FD K "_law_begin" s__law_begin)
    (d19:FD K "_law_take" s__law_take)
    (d20:FD K "_law_same" s__law_same)
    (d21:FD K "_law_part" s__law_part)
    (d22:FD K "_law_plus" s__law_plus)
    (d23:FD K "_law_times" s__law_times)
    (d24:FD K "_law_number" s__law_number)
    (d25:FD K "_law_small" s__law_small)
    (d26:FD K "_law_trimmed" s__law_trimmed)
    (d27:FD K "_law_product" s__law_product)
    (d28:FD K "_law_tens" s__law_tens)
    (d29:FD K "_law_great" s__law_great)
    (d30:FD K "_law_any_number" s__law_any_number)
    (d31:FD K "_law_poly" s__law_poly)
    (d32:FD K "_law_sum" s__law_sum)
    (d33:FD K "_law_scaled" s__law_scaled)
    (d34:FD K "_law_at" s__law_at)
    (d35:FD K "_law_handed" s__law_handed)
    (d36:FD K "_law_little" s__law_little)
    (d37:FD K "_law_pair" s__law_pair)
    (d38:FD K "law" s_law)
    (aC0:PySem.W.nsIn K mainGlobals "FractionField" = some (some (.ref C0))) (cl0:Cls K C0) (mk0:PySem.W.makesIn K C0 = true) (kc0:PySem.W.keepIn K (.ref C0) = true)
    (na0_nought:PySem.W.findIn K (.ref C0) "nought" = some none)
    (na0_unit:PySem.W.findIn K (.ref C0) "unit" = some none)
    (m0___init__:MD K C0 "__init__" "FractionField.__init__" s_FractionField___init__)
    (m0_added:MD K C0 "added" "FractionField.added" s_FractionField_added)
    (m0_lessened:MD K C0 "lessened" "FractionField.lessened" s_FractionField_lessened)
    (m0_multiplied:MD K C0 "multiplied" "FractionField.multiplied" s_FractionField_multiplied)
    (m0_divided:MD K C0 "divided" "FractionField.divided" s_FractionField_divided)
    (m0_simplest:MD K C0 "simplest" "FractionField.simplest" s_FractionField_simplest)
    (z_abs:PySem.W.nsIn K mainGlobals "abs" = some none)
    (z_all:PySem.W.nsIn K mainGlobals "all" = some none)
    (z_bool:PySem.W.nsIn K mainGlobals "bool" = some none)
    (z_divmod:PySem.W.nsIn K mainGlobals "divmod" = some none)
    (z_enumerate:PySem.W.nsIn K mainGlobals "enumerate" = some none)
    (z_int:PySem.W.nsIn K mainGlobals "int" = some none)
    (z_isinstance:PySem.W.nsIn K mainGlobals "isinstance" = some none)
    (z_len:PySem.W.nsIn K mainGlobals "len" = some none)
    (z_list:PySem.W.nsIn K mainGlobals "list" = some none)
    (z_max:PySem.W.nsIn K mainGlobals "max" = some none)
    (z_range:PySem.W.nsIn K mainGlobals "range" = some none)
    (z_reversed:PySem.W.nsIn K mainGlobals "reversed" = some none)
    (z_str:PySem.W.nsIn K mainGlobals "str" = some none)
    (z_tuple:PySem.W.nsIn K mainGlobals "tuple" = some none)
    (z_zip:PySem.W.nsIn K mainGlobals "zip" = some none)
    (y_GREAT_BITS:PySem.W.nsIn K mainGlobals "GREAT_BITS" = some (some (.int 2000 t_GREAT_BITS)))
    (y_NOUGHT:PySem.W.nsIn K mainGlobals "NOUGHT" = some (some (.ref p_NOUGHT))) (x_NOUGHT:K.lookup p_NOUGHT = some ⟨.type "tuple",q_NOUGHT,.seq #[.int 0 t0_NOUGHT,.int 1 t1_NOUGHT] n_NOUGHT,w_NOUGHT⟩)
    (y_UNIT:PySem.W.nsIn K mainGlobals "UNIT" = some (some (.ref p_UNIT))) (x_UNIT:K.lookup p_UNIT = some ⟨.type "tuple",q_UNIT,.seq #[.int 1 t0_UNIT,.int 1 t1_UNIT] n_UNIT,w_UNIT⟩) :
    ∃ fd:FuncData,(∀ (s:Shared) (v:Value),BindsTo s fd ⟨[v],[]⟩ [("_law_script",v)])∧∀ base:Heap,K.In base→base.Ns mainGlobals mg→FnOk l.prog w K mg base CX0 9 fa fd ["_law_script"] (spLaw K):=by
  cases d38 with
  | @mk fL od an sl oc kV dc pm cd ct aL lL cL kL =>
  have e:=hfa.symm.trans (PySem.W.mg_of X G aL)
  cases e
  have n_abs:=PySem.W.mg_none_of X G z_abs
  have n_all:=PySem.W.mg_none_of X G z_all
  have n_bool:=PySem.W.mg_none_of X G z_bool
  have n_divmod:=PySem.W.mg_none_of X G z_divmod
  have n_enumerate:=PySem.W.mg_none_of X G z_enumerate
  have n_int:=PySem.W.mg_none_of X G z_int
  have n_isinstance:=PySem.W.mg_none_of X G z_isinstance
  have n_len:=PySem.W.mg_none_of X G z_len
  have n_list:=PySem.W.mg_none_of X G z_list
  have n_max:=PySem.W.mg_none_of X G z_max
  have n_range:=PySem.W.mg_none_of X G z_range
  have n_reversed:=PySem.W.mg_none_of X G z_reversed
  have n_str:=PySem.W.mg_none_of X G z_str
  have n_tuple:=PySem.W.mg_none_of X G z_tuple
  have n_zip:=PySem.W.mg_none_of X G z_zip
  have c_GREAT_BITS:Cst K mg "GREAT_BITS" (.int 2000):=⟨fun hK hm hg => de_modI (by rw [hm]; exact PySem.W.mg_of X G y_GREAT_BITS) hg (by decide +kernel)⟩
  have c_NOUGHT:Cst K mg "NOUGHT" (.tuple [.int 0,.int 1]):=⟨fun hK hm hg => de_mod (vs:=[.int (0),.int (1)]) (by rw [hm]; exact PySem.W.mg_of X G y_NOUGHT) (by rw [hK]; exact ⟨_,_,_,x_NOUGHT,rfl,rfl,(by show 2 ≤ sizeLine; decide),(.cons ⟨_,rfl⟩ (.cons ⟨_,rfl⟩ .nil))⟩) (fun _ _ _ => (.cons (.int _) (.cons (.int _) .nil))) hg (by decide +kernel)⟩
  have c_UNIT:Cst K mg "UNIT" (.tuple [.int 1,.int 1]):=⟨fun hK hm hg => de_mod (vs:=[.int (1),.int (1)]) (by rw [hm]; exact PySem.W.mg_of X G y_UNIT) (by rw [hK]; exact ⟨_,_,_,x_UNIT,rfl,rfl,(by show 2 ≤ sizeLine; decide),(.cons ⟨_,rfl⟩ (.cons ⟨_,rfl⟩ .nil))⟩) (fun _ _ _ => (.cons (.int _) (.cons (.int _) .nil))) hg (by decide +kernel)⟩
  have v_NOUGHT:CstV K mg "NOUGHT" (.tuple [.int 0,.int 1]):=⟨.ref p_NOUGHT,_,PySem.W.mg_of X G y_NOUGHT,rfl,fun _ _ _ => .mod (vs:=[.int (0),.int (1)]) ⟨_,_,_,x_NOUGHT,rfl,rfl,(by show 2 ≤ sizeLine; decide),(.cons ⟨_,rfl⟩ (.cons ⟨_,rfl⟩ .nil))⟩ (.cons (.int _) (.cons (.int _) .nil))⟩
  have v_UNIT:CstV K mg "UNIT" (.tuple [.int 1,.int 1]):=⟨.ref p_UNIT,_,PySem.W.mg_of X G y_UNIT,rfl,fun _ _ _ => .mod (vs:=[.int (1),.int (1)]) ⟨_,_,_,x_UNIT,rfl,rfl,(by show 2 ≤ sizeLine; decide),(.cons ⟨_,rfl⟩ (.cons ⟨_,rfl⟩ .nil))⟩ (.cons (.int _) (.cons (.int _) .nil))⟩
  have ii0:IsI K mg "FractionField" "FractionField.__init__" s_FractionField___init__ ["nought","unit"]:=MD.init X G aC0 cl0 mk0 kc0 (by intro x hx; simp only [List.mem_cons,List.not_mem_nil,or_false] at hx; (rcases hx with rfl | rfl) <;> first | exact na0_nought | exact na0_unit) m0___init__
  have j_FractionField_added:=MD.is aC0 cl0 m0_added
  have j_FractionField_lessened:=MD.is aC0 cl0 m0_lessened
  have j_FractionField_multiplied:=MD.is aC0 cl0 m0_multiplied
  have j_FractionField_divided:=MD.is aC0 cl0 m0_divided
  have j_FractionField_simplest:=MD.is aC0 cl0 m0_simplest
  have f_nought:∀ c ∈ (["FractionField"]:List Str),FCal K c "nought":=by intro c hc; simp only [List.mem_cons,List.not_mem_nil,or_false] at hc; (rcases hc with rfl) <;> first | exact ⟨C0,aC0,cl0,na0_nought⟩
  have i__wall:=FD.is X G d0
  have i_greatest_divisor:=FD.is X G d1
  have i_leapt:=FD.is X G d2
  have i_number:=FD.is X G d3
  have i_plus:=FD.is X G d4
  have i_minus:=FD.is X G d5
  have i_summed:=FD.is X G d6
  have i_times:=FD.is X G d7
  have i_trimmed:=FD.is X G d8
  have i_paired:=FD.is X G d9
  have i_sum_in:=FD.is X G d10
  have i_less_in:=FD.is X G d11
  have i_product_in:=FD.is X G d12
  have i_value_in:=FD.is X G d13
  have i_poly_sum:=FD.is X G d14
  have i_poly_less:=FD.is X G d15
  have i_poly_product:=FD.is X G d16
  have i_value_at:=FD.is X G d17
  have i__law_begin:=FD.is X G d18
  have i__law_take:=FD.is X G d19
  have i__law_same:=FD.is X G d20
  have i__law_part:=FD.is X G d21
  have i__law_plus:=FD.is X G d22
  have i__law_times:=FD.is X G d23
  have i__law_number:=FD.is X G d24
  have i__law_small:=FD.is X G d25
  have i__law_trimmed:=FD.is X G d26
  have i__law_product:=FD.is X G d27
  have i__law_tens:=FD.is X G d28
  have i__law_great:=FD.is X G d29
  have i__law_any_number:=FD.is X G d30
  have i__law_poly:=FD.is X G d31
  have i__law_sum:=FD.is X G d32
  have i__law_scaled:=FD.is X G d33
  have i__law_at:=FD.is X G d34
  have i__law_handed:=FD.is X G d35
  have i__law_little:=FD.is X G d36
  have i__law_pair:=FD.is X G d37
  refine ⟨PySem.W.fnOf "law" "law" (defArgs s_law) (defBody s_law) (defScope s_law) .none kV dc pm an cd ct,fun s v => .of_eq rfl,fun base _ _ => ?_⟩
  have k_FractionField:KCal l.prog w K mg base "FractionField" 1 ["nought","unit"] gI_FractionField:=ok_FractionField___init__ ii0 v_NOUGHT v_UNIT
  have h_leapt:Cal l.prog w K mg base "leapt" ["one","other"] 1 g_leapt:=ok_leapt i_leapt
  have h_greatest_divisor:Cal l.prog w K mg base "greatest_divisor" ["one","other"] 2 g_greatest_divisor:=ok_greatest_divisor i_greatest_divisor h_leapt n_abs c_GREAT_BITS
  have h_number:Cal l.prog w K mg base "number" ["top","below"] 3 g_number:=ok_number i_number h_greatest_divisor
  have h_summed:Cal l.prog w K mg base "summed" ["top","below","other_top","other_below"] 4 g_summed:=ok_summed i_summed h_greatest_divisor h_number
  have h_plus:Cal l.prog w K mg base "plus" ["one","other"] 5 g_plus:=ok_plus i_plus h_summed
  have h_FractionField_added:MCal l.prog w K mg base "FractionField" "added" 6 g_FractionField_added:=ok_FractionField_added j_FractionField_added h_plus
  have h_minus:Cal l.prog w K mg base "minus" ["one","other"] 5 g_minus:=ok_minus i_minus h_summed
  have h_FractionField_lessened:MCal l.prog w K mg base "FractionField" "lessened" 6 g_FractionField_lessened:=ok_FractionField_lessened j_FractionField_lessened h_minus
  have h_times:Cal l.prog w K mg base "times" ["one","other"] 4 g_times:=ok_times i_times h_number
  have h_FractionField_multiplied:MCal l.prog w K mg base "FractionField" "multiplied" 5 g_FractionField_multiplied:=ok_FractionField_multiplied j_FractionField_multiplied h_times
  have h__wall:Cal l.prog w K mg base "_wall" ["k"] 1 g__wall:=ok__wall i__wall
  have h_FractionField_divided:MCal l.prog w K mg base "FractionField" "divided" 2 g_FractionField_divided:=ok_FractionField_divided j_FractionField_divided h__wall
  have h_FractionField_simplest:MCal l.prog w K mg base "FractionField" "simplest" 2 g_FractionField_simplest:=ok_FractionField_simplest j_FractionField_simplest h__wall
  have h_trimmed:Cal l.prog w K mg base "trimmed" ["nought","row"] 1 g_trimmed:=ok_trimmed i_trimmed n_len n_tuple
  have h_paired:Cal l.prog w K mg base "paired" ["field","one","other"] 1 g_paired:=ok_paired i_paired n_len n_list n_max n_zip f_nought
  have m_added:∀ c g,([("FractionField",g_FractionField_added)]:List (Str × GF)).lookup c = some g→∃ k,k ≤ 6∧MCal l.prog w K mg base c "added" k g:=(tab_cons ⟨6,(by decide),h_FractionField_added⟩ tab_nil)
  have h_sum_in:Cal l.prog w K mg base "sum_in" ["field","one","other"] 7 g_sum_in:=ok_sum_in i_sum_in h_trimmed h_paired f_nought m_added
  have m_lessened:∀ c g,([("FractionField",g_FractionField_lessened)]:List (Str × GF)).lookup c = some g→∃ k,k ≤ 6∧MCal l.prog w K mg base c "lessened" k g:=(tab_cons ⟨6,(by decide),h_FractionField_lessened⟩ tab_nil)
  have h_less_in:Cal l.prog w K mg base "less_in" ["field","one","other"] 7 g_less_in:=ok_less_in i_less_in h_trimmed h_paired f_nought m_lessened
  have m_multiplied:∀ c g,([("FractionField",g_FractionField_multiplied)]:List (Str × GF)).lookup c = some g→∃ k,k ≤ 5∧MCal l.prog w K mg base c "multiplied" k g:=(tab_cons ⟨5,(by decide),h_FractionField_multiplied⟩ tab_nil)
  have h_product_in:Cal l.prog w K mg base "product_in" ["field","one","other"] 7 g_product_in:=ok_product_in i_product_in h_trimmed n_enumerate n_len f_nought m_added m_multiplied
  have h_value_in:Cal l.prog w K mg base "value_in" ["field","one","x"] 7 g_value_in:=ok_value_in i_value_in n_reversed f_nought m_added m_multiplied
  have h_poly_sum:Cal l.prog w K mg base "poly_sum" ["one","other"] 8 g_poly_sum:=ok_poly_sum i_poly_sum h_sum_in k_FractionField
  have h_poly_less:Cal l.prog w K mg base "poly_less" ["one","other"] 8 g_poly_less:=ok_poly_less i_poly_less h_less_in k_FractionField
  have h_poly_product:Cal l.prog w K mg base "poly_product" ["one","other"] 8 g_poly_product:=ok_poly_product i_poly_product h_product_in k_FractionField
  have h_value_at:Cal l.prog w K mg base "value_at" ["one","x"] 8 g_value_at:=ok_value_at i_value_at h_value_in k_FractionField
  have h__law_begin:=ok__law_begin (P:=l.prog) (w:=w) (base:=base) i__law_begin n_list
  have h__law_take:Cal l.prog w K mg base "_law_take" ["_law_state","_law_many"] 1 g__law_take:=ok__law_take i__law_take n_len n_divmod
  have h__law_same:Cal l.prog w K mg base "_law_same" ["_law_found","_law_due"] 7 g__law_same:=rec__law_same i__law_same n_all n_bool n_int n_isinstance n_len n_list n_str n_tuple n_zip 6
  have h__law_part:Cal l.prog w K mg base "_law_part" ["_law_top","_law_below"] 1 g__law_part:=ok__law_part i__law_part n_abs n_int
  have h__law_plus:Cal l.prog w K mg base "_law_plus" ["_law_one","_law_other"] 2 g__law_plus:=ok__law_plus i__law_plus h__law_part
  have h__law_times:Cal l.prog w K mg base "_law_times" ["_law_one","_law_other"] 2 g__law_times:=ok__law_times i__law_times h__law_part
  have h__law_number:Cal l.prog w K mg base "_law_number" ["_law_state"] 2 g__law_number:=ok__law_number i__law_number h__law_take h__law_part
  have h__law_small:Cal l.prog w K mg base "_law_small" ["_law_state"] 2 g__law_small:=ok__law_small i__law_small h__law_take h__law_part
  have h__law_trimmed:Cal l.prog w K mg base "_law_trimmed" ["_law_numbers"] 1 g__law_trimmed:=ok__law_trimmed i__law_trimmed n_list n_tuple
  have h__law_product:Cal l.prog w K mg base "_law_product" ["_law_one","_law_other"] 3 g__law_product:=ok__law_product i__law_product h__law_plus h__law_times h__law_trimmed n_enumerate n_len n_max
  have h__law_tens:Cal l.prog w K mg base "_law_tens" ["_law_many"] 1 g__law_tens:=ok__law_tens i__law_tens n_range
  have h__law_great:Cal l.prog w K mg base "_law_great" ["_law_state"] 2 g__law_great:=ok__law_great i__law_great h__law_take h__law_part h__law_tens
  have h__law_any_number:Cal l.prog w K mg base "_law_any_number" ["_law_state"] 3 g__law_any_number:=ok__law_any_number i__law_any_number h__law_take h__law_number h__law_great
  have h__law_poly:Cal l.prog w K mg base "_law_poly" ["_law_state","_law_most"] 4 g__law_poly:=ok__law_poly i__law_poly h__law_take h__law_small h__law_any_number n_int n_max n_range n_tuple
  have h__law_sum:Cal l.prog w K mg base "_law_sum" ["_law_one","_law_other"] 3 g__law_sum:=ok__law_sum i__law_sum h__law_plus h__law_trimmed n_len n_max n_range
  have h__law_scaled:Cal l.prog w K mg base "_law_scaled" ["_law_one","_law_share"] 3 g__law_scaled:=ok__law_scaled i__law_scaled h__law_times h__law_trimmed
  have h__law_at:Cal l.prog w K mg base "_law_at" ["_law_one","_law_x"] 3 g__law_at:=ok__law_at i__law_at h__law_plus h__law_times
  have h__law_handed:Cal l.prog w K mg base "_law_handed" ["_law_state","_law_thing"] 2 g__law_handed:=ok__law_handed i__law_handed h__law_take n_list
  have h__law_little:Cal l.prog w K mg base "_law_little" ["_law_state","_law_most"] 3 g__law_little:=ok__law_little i__law_little h__law_take h__law_small h__law_trimmed n_int n_max n_range
  have h__law_pair:Cal l.prog w K mg base "_law_pair" ["_law_state"] 5 g__law_pair:=ok__law_pair i__law_pair h__law_take h__law_poly h__law_sum h__law_scaled h__law_little
  exact ok_law (fun_mk (st:=s_law) lL cL kL) h__law_begin h_poly_sum h_poly_less h_poly_product h_value_at h__law_take h__law_same h__law_number h__law_small h__law_product h__law_sum h__law_scaled h__law_at h__law_handed h__law_pair n_range n_tuple law_run
theorem walk {l:PySem.W.OpenLaw} {q:Program} {loose:List Str} {XP:(Str→Option Value)→Heap→Prop} {YP:World→Heap→Prop} {d:DefRec} {K:Params→PySem.W.Frag} (hn:l.most = some 63) (hdf:d.params.defaults = [])
    (hY:∀ (w:World) (h:Heap),YP w h→(K w.params).In h)
    (F:∀ (w:World) (mg:Str→Option Value) (fa:Addr) (h:Heap),(K w.params).In h→h.Ns mainGlobals mg→mg d.name = some (.ref fa) →
      ∃ fd:FuncData,(∀ (s:Shared) (u:Value),BindsTo s fd ⟨[u],[]⟩ [("_law_script",u)])∧∀ base:Heap,(K w.params).In base→base.Ns mainGlobals mg→FnOk l.prog w (K w.params) mg base CX0 9 fa fd ["_law_script"] (spLaw (K w.params))) :
    PySem.W.WalkO q loose XP YP l.row.toRowW d [] (fun f vs => PySem.call f vs) :=
  L2.walk_ofK (n:=63) (k:=9) (x:="_law_script") (CX:=CX0) (sp:=spLaw) hn (by decide) hdf ⟨rfl,by decide,by decide⟩ hY F (fun _ H a ns hl _ hS => ⟨a,ns,rfl,hS,hl,fun _ => rfl⟩) fun _ _ _ _ z => z
end Law
open PySem PySem.W PyProof.Rows
set_option maxRecDepth 100000 in
set_option maxHeartbeats 0 in
theorem PySem.Challenge.cw_farquotient_k05_sums_products_values_holds : PySem.Challenge.rw_farquotient_k05_sums_products_values.Holds := by
  w_on; o_law; k_head; (case hw => w_witness2)
  k_fill
  refine Law.walk (l:=PySem.Challenge.rw_farquotient_k05_sums_products_values) rfl rfl (fun w h Y => PySem.W.kIn_of Y) ?F
  case F =>
    intro w mg fa h KX G hmg
    refine' Law.all_mk KX G hmg (.mk ?a0 ?l0 ?c0 ?k0) (.mk ?a1 ?l1 ?c1 ?k1) (.mk ?a2 ?l2 ?c2 ?k2) (.mk ?a3 ?l3 ?c3 ?k3) (.mk ?a4 ?l4 ?c4 ?k4) (.mk ?a5 ?l5 ?c5 ?k5) (.mk ?a6 ?l6 ?c6 ?k6) (.mk ?a7 ?l7 ?c7 ?k7) (.mk ?a8 ?l8 ?c8 ?k8) (.mk ?a9 ?l9 ?c9 ?k9) (.mk ?a10 ?l10 ?c10 ?k10) (.mk ?a11 ?l11 ?c11 ?k11) (.mk ?a12 ?l12 ?c12 ?k12) (.mk ?a13 ?l13 ?c13 ?k13) (.mk ?a14 ?l14 ?c14 ?k14) (.mk ?a15 ?l15 ?c15 ?k15) (.mk ?a16 ?l16 ?c16 ?k16) (.mk ?a17 ?l17 ?c17 ?k17) (.mk ?a18 ?l18 ?c18 ?k18) (.mk ?a19 ?l19 ?c19 ?k19) (.mk ?a20 ?l20 ?c20 ?k20) (.mk ?a21 ?l21 ?c21 ?k21) (.mk ?a22 ?l22 ?c22 ?k22) (.mk ?a23 ?l23 ?c23 ?k23) (.mk ?a24 ?l24 ?c24 ?k24) (.mk ?a25 ?l25 ?c25 ?k25) (.mk ?a26 ?l26 ?c26 ?k26) (.mk ?a27 ?l27 ?c27 ?k27) (.mk ?a28 ?l28 ?c28 ?k28) (.mk ?a29 ?l29 ?c29 ?k29) (.mk ?a30 ?l30 ?c30 ?k30) (.mk ?a31 ?l31 ?c31 ?k31) (.mk ?a32 ?l32 ?c32 ?k32) (.mk ?a33 ?l33 ?c33 ?k33) (.mk ?a34 ?l34 ?c34 ?k34) (.mk ?a35 ?l35 ?c35 ?k35) (.mk ?a36 ?l36 ?c36 ?k36) (.mk ?a37 ?l37 ?c37 ?k37) (.mk ?a38 ?l38 ?c38 ?k38) ?aC0 ⟨?pg0,?hd0,?po0,?sa0⟩ ?mk0 ?kc0 ?na0_nought ?na0_unit (.mk ?am0___init__ ?im0___init__ ?lm0___init__ ?cm0___init__ ?km0___init__) (.mk ?am0_added ?im0_added ?lm0_added ?cm0_added ?km0_added) (.mk ?am0_lessened ?im0_lessened ?lm0_lessened ?cm0_lessened ?km0_lessened) (.mk ?am0_multiplied ?im0_multiplied ?lm0_multiplied ?cm0_multiplied ?km0_multiplied) (.mk ?am0_divided ?im0_divided ?lm0_divided ?cm0_divided ?km0_divided) (.mk ?am0_simplest ?im0_simplest ?lm0_simplest ?cm0_simplest ?km0_simplest) ?z_abs ?z_all ?z_bool ?z_divmod ?z_enumerate ?z_int ?z_isinstance ?z_len ?z_list ?z_max ?z_range ?z_reversed ?z_str ?z_tuple ?z_zip ?y_GREAT_BITS ?y_NOUGHT ?x_NOUGHT ?y_UNIT ?x_UNIT
    (case a0 => k_is)
    (case l0 => k_is)
    (case c0 => k_is)
    (case k0 => k_is)
    (case a1 => k_is)
    (case l1 => k_is)
    (case c1 => k_is)
    (case k1 => k_is)
    (case a2 => k_is)
    (case l2 => k_is)
    (case c2 => k_is)
    (case k2 => k_is)
    (case a3 => k_is)
    (case l3 => k_is)
    (case c3 => k_is)
    (case k3 => k_is)
    (case a4 => k_is)
    (case l4 => k_is)
    (case c4 => k_is)
    (case k4 => k_is)
    (case a5 => k_is)
    (case l5 => k_is)
    (case c5 => k_is)
    (case k5 => k_is)
    (case a6 => k_is)
    (case l6 => k_is)
    (case c6 => k_is)
    (case k6 => k_is)
    (case a7 => k_is)
    (case l7 => k_is)
    (case c7 => k_is)
    (case k7 => k_is)
    (case a8 => k_is)
    (case l8 => k_is)
    (case c8 => k_is)
    (case k8 => k_is)
    (case a9 => k_is)
    (case l9 => k_is)
    (case c9 => k_is)
    (case k9 => k_is)
    (case a10 => k_is)
    (case l10 => k_is)
    (case c10 => k_is)
    (case k10 => k_is)
    (case a11 => k_is)
    (case l11 => k_is)
    (case c11 => k_is)
    (case k11 => k_is)
    (case a12 => k_is)
    (case l12 => k_is)
    (case c12 => k_is)
    (case k12 => k_is)
    (case a13 => k_is)
    (case l13 => k_is)
    (case c13 => k_is)
    (case k13 => k_is)
    (case a14 => k_is)
    (case l14 => k_is)
    (case c14 => k_is)
    (case k14 => k_is)
    (case a15 => k_is)
    (case l15 => k_is)
    (case c15 => k_is)
    (case k15 => k_is)
    (case a16 => k_is)
    (case l16 => k_is)
    (case c16 => k_is)
    (case k16 => k_is)
    (case a17 => k_is)
    (case l17 => k_is)
    (case c17 => k_is)
    (case k17 => k_is)
    (case a18 => k_is)
    (case l18 => k_is)
    (case c18 => k_is)
    (case k18 => k_is)
    (case a19 => k_is)
    (case l19 => k_is)
    (case c19 => k_is)
    (case k19 => k_is)
    (case a20 => k_is)
    (case l20 => k_is)
    (case c20 => k_is)
    (case k20 => k_is)
    (case a21 => k_is)
    (case l21 => k_is)
    (case c21 => k_is)
    (case k21 => k_is)
    (case a22 => k_is)
    (case l22 => k_is)
    (case c22 => k_is)
    (case k22 => k_is)
    (case a23 => k_is)
    (case l23 => k_is)
    (case c23 => k_is)
    (case k23 => k_is)
    (case a24 => k_is)
    (case l24 => k_is)
    (case c24 => k_is)
    (case k24 => k_is)
    (case a25 => k_is)
    (case l25 => k_is)
    (case c25 => k_is)
    (case k25 => k_is)
    (case a26 => k_is)
    (case l26 => k_is)
    (case c26 => k_is)
    (case k26 => k_is)
    (case a27 => k_is)
    (case l27 => k_is)
    (case c27 => k_is)
    (case k27 => k_is)
    (case a28 => k_is)
    (case l28 => k_is)
    (case c28 => k_is)
    (case k28 => k_is)
    (case a29 => k_is)
    (case l29 => k_is)
    (case c29 => k_is)
    (case k29 => k_is)
    (case a30 => k_is)
    (case l30 => k_is)
    (case c30 => k_is)
    (case k30 => k_is)
    (case a31 => k_is)
    (case l31 => k_is)
    (case c31 => k_is)
    (case k31 => k_is)
    (case a32 => k_is)
    (case l32 => k_is)
    (case c32 => k_is)
    (case k32 => k_is)
    (case a33 => k_is)
    (case l33 => k_is)
    (case c33 => k_is)
    (case k33 => k_is)
    (case a34 => k_is)
    (case l34 => k_is)
    (case c34 => k_is)
    (case k34 => k_is)
    (case a35 => k_is)
    (case l35 => k_is)
    (case c35 => k_is)
    (case k35 => k_is)
    (case a36 => k_is)
    (case l36 => k_is)
    (case c36 => k_is)
    (case k36 => k_is)
    (case a37 => k_is)
    (case l37 => k_is)
    (case c37 => k_is)
    (case k37 => k_is)
    (case a38 => k_is)
    (case l38 => k_is)
    (case c38 => k_is)
    (case k38 => k_is)
    (case aC0 => k_is)
    (case pg0 => k_is)
    (case hd0 => k_is)
    (case po0 => k_is)
    (case sa0 => k_is)
    (case mk0 => k_is)
    (case kc0 => k_is)
    (case na0_nought => k_is)
    (case na0_unit => k_is)
    (case am0___init__ => k_is)
    (case im0___init__ => k_is)
    (case lm0___init__ => k_is)
    (case cm0___init__ => k_is)
    (case km0___init__ => k_is)
    (case am0_added => k_is)
    (case im0_added => k_is)
    (case lm0_added => k_is)
    (case cm0_added => k_is)
    (case km0_added => k_is)
    (case am0_lessened => k_is)
    (case im0_lessened => k_is)
    (case lm0_lessened => k_is)
    (case cm0_lessened => k_is)
    (case km0_lessened => k_is)
    (case am0_multiplied => k_is)
    (case im0_multiplied => k_is)
    (case lm0_multiplied => k_is)
    (case cm0_multiplied => k_is)
    (case km0_multiplied => k_is)
    (case am0_divided => k_is)
    (case im0_divided => k_is)
    (case lm0_divided => k_is)
    (case cm0_divided => k_is)
    (case km0_divided => k_is)
    (case am0_simplest => k_is)
    (case im0_simplest => k_is)
    (case lm0_simplest => k_is)
    (case cm0_simplest => k_is)
    (case km0_simplest => k_is)
    (case z_abs => k_is)
    (case z_all => k_is)
    (case z_bool => k_is)
    (case z_divmod => k_is)
    (case z_enumerate => k_is)
    (case z_int => k_is)
    (case z_isinstance => k_is)
    (case z_len => k_is)
    (case z_list => k_is)
    (case z_max => k_is)
    (case z_range => k_is)
    (case z_reversed => k_is)
    (case z_str => k_is)
    (case z_tuple => k_is)
    (case z_zip => k_is)
    (case y_GREAT_BITS => k_is)
    (case y_NOUGHT => k_is)
    (case x_NOUGHT => k_is)
    (case y_UNIT => k_is)
    (case x_UNIT => k_is)
