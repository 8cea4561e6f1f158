import PyProof.Rows.All
import Wide.All
import OpenK.AllK
import Wide.FinOn
import Lean
import PyProof.EqAt
import PyProof.EqKinds
import PyProof.TupleCall
import PySem.Challenge.RW_farquotient_k51_quotients_by_a_prime
set_option Elab.async false
set_option linter.all false
set_option maxRecDepth 100000
namespace L2
open PySem PySem.Spec PyProof.Rows

noncomputable abbrev Key:=Sum Int Str
noncomputable def keyIs:Key→Value→Bool
  | .inl k,v => Value.isInt k v
  | .inr x,v => Value.isStrOf x v
noncomputable def keyH (w:World):Key→Int
  | .inl k => hashInt k
  | .inr x => hashStr w x
theorem keyIs_shape:∀ {k:Key} {v:Value},keyIs k v = true→(∃ i t,k = Sum.inl i∧v = Value.int i t) ∨ (∃ x t,k = Sum.inr x∧v = Value.str x t)
  | .inl i,v,h => by
    obtain ⟨t,e⟩:=Value.isInt_shape (k:=i) (v:=v) h
    exact .inl ⟨i,t,rfl,e⟩
  | .inr x,v,h => by
    obtain ⟨t,e⟩:=Value.isStrOf_shape (x:=x) (v:=v) h
    exact .inr ⟨x,t,rfl,e⟩
theorem keyIs_int (i:Int) (t:Tok):keyIs (.inl i) (.int i t) = true:=by simp [keyIs,Value.isInt]
theorem keyIs_str (x:Str) (t:Tok):keyIs (.inr x) (.str x t) = true:=by simp [keyIs,Value.isStrOf]
theorem key_ll (a b:Int):decide ((Sum.inl a:Key) = Sum.inl b) = (a == b):=by
  by_cases e:a = b
  · subst e; simp
  · have h:¬ (Sum.inl a:Key) = Sum.inl b:=fun q => e (Sum.inl.inj q)
    rw [decide_eq_false h]
    exact (beq_eq_false_iff_ne.mpr e).symm
theorem key_rr (a b:Str):decide ((Sum.inr a:Key) = Sum.inr b) = decide (a = b):=by
  by_cases e:a = b
  · subst e; simp
  · have h:¬ (Sum.inr a:Key) = Sum.inr b:=fun q => e (Sum.inr.inj q)
    rw [decide_eq_false h,decide_eq_false e]
theorem key_lr (a:Int) (b:Str):decide ((Sum.inl a:Key) = Sum.inr b) = false:=decide_eq_false (fun q => nomatch q)
theorem key_rl (a:Str) (b:Int):decide ((Sum.inr a:Key) = Sum.inl b) = false:=decide_eq_false (fun q => nomatch q)

noncomputable def mixKind (prog:Program) (w:World):PySem.KeyKind prog w Key where
  is:=keyIs
  hash:=keyH w
  inj:=fun v a b ha hb => by
    rcases keyIs_shape ha with ⟨i,t,rfl,rfl⟩ | ⟨x,t,rfl,rfl⟩
    · rcases keyIs_shape hb with ⟨j,u,rfl,e⟩ | ⟨y,u,rfl,e⟩
      · injection e with e1 _; rw [e1]
      · exact nomatch e
    · rcases keyIs_shape hb with ⟨j,u,rfl,e⟩ | ⟨y,u,rfl,e⟩
      · exact nomatch e
      · injection e with e1 _; rw [e1]
  byValue:=fun k v h => by
    rcases keyIs_shape h with ⟨i,t,rfl,rfl⟩ | ⟨x,t,rfl,rfl⟩ <;> rfl
  pyHash:=fun hv h => by
    rcases keyIs_shape hv with ⟨i,t,rfl,rfl⟩ | ⟨x,t,rfl,rfl⟩
    · exact wpAny_pyHash_int h
    · exact wpAny_pyHash_str h
  eqBool:=fun hu hv h => by
    rcases keyIs_shape hu with ⟨i,t,rfl,rfl⟩ | ⟨x,t,rfl,rfl⟩
    · rcases keyIs_shape hv with ⟨j,u,rfl,rfl⟩ | ⟨y,u,rfl,rfl⟩
      · rw [key_ll] at h; exact wpAny_eqBool_int h
      · rw [key_lr] at h; exact SeqAt.EqAt.int_str i t y u _ _ _ _ h
    · rcases keyIs_shape hv with ⟨j,u,rfl,rfl⟩ | ⟨y,u,rfl,rfl⟩
      · rw [key_rl] at h; exact SeqAt.EqAt.str_int x t j u _ _ _ _ h
      · rw [key_rr] at h; exact wpAny_eqBool_str h
  «strs»:=fun k x t v h => by
    rcases keyIs_shape h with ⟨i,u,rfl,e⟩ | ⟨y,u,rfl,e⟩
    · exact nomatch e
    · injection e with e1 _
      subst e1
      cases v <;> rfl

theorem mixKind_int (prog:Program) (w:World) (i:Int) (t:Tok):(mixKind prog w).is (.inl i) (.int i t) = true:=keyIs_int i t
theorem mixKind_str (prog:Program) (w:World) (x:Str) (t:Tok):(mixKind prog w).is (.inr x) (.str x t) = true:=keyIs_str x t
end L2

namespace L2
open PySem PySem.Spec PyProof.Rows

inductive V where
  | non | bl (b:Bool) | int (i:Int) | str (x:Str) | byt (b:Array UInt8) | flt (b:UInt64) | ref (a:Addr) | ty (n:String)
  deriving DecidableEq

noncomputable def RelV:V→Value→Prop
  | .non,u => u = Value.none
  | .bl b,u => u = Value.bool b
  | .int i,u => ∃ t,u = Value.int i t
  | .str x,u => ∃ t,u = Value.str x t
  | .byt b,u => ∃ t,u = Value.bytes b t
  | .flt b,u => ∃ t,u = Value.float b t
  | .ref a,u => u = Value.ref a
  | .ty n,u => u = Value.type n

noncomputable abbrev Vals:List V→List Value→Prop:=Paired RelV
theorem Vals.length {xs:List V} {us:List Value} (r:Vals xs us):xs.length = us.length:=Paired.length r
theorem Vals.get:∀ {xs:List V} {us:List Value} {i:Nat} {x:V},Vals xs us→xs[i]? = some x→∃ u,us[i]? = some u∧RelV x u
  | _,_,_,_,.nil,e => by simp at e
  | _,_,0,_,.cons r _,e => by simp at e; subst e; exact ⟨_,rfl,r⟩
  | _,_,i + 1,x,.cons _ t,e => by
    obtain ⟨u,h1,h2⟩:=Vals.get (i:=i) (x:=x) t (by simpa using e)
    exact ⟨u,by simpa using h1,h2⟩
theorem Vals.set {x:V} {u:Value} (r:RelV x u):∀ {xs:List V} {us:List Value} (i:Nat),Vals xs us→Vals (xs.set i x) (us.set i u)
  | _,_,_,.nil => .nil
  | _,_,0,.cons _ t => .cons r t
  | _,_,i + 1,.cons q t => .cons q (Vals.set r i t)
theorem Vals.append {xs ys:List V} {us ws:List Value} (h:Vals xs us) (s:Vals ys ws):Vals (xs ++ ys) (us ++ ws):=by
  induction h with
  | nil => exact s
  | cons r t ih => exact .cons r ih
theorem Vals.take:∀ {xs:List V} {us:List Value} (n:Nat),Vals xs us→Vals (xs.take n) (us.take n)
  | _,_,0,_ => .nil
  | _,_,_ + 1,.nil => .nil
  | _,_,n + 1,.cons r t => .cons r (Vals.take n t)
theorem Vals.drop:∀ {xs:List V} {us:List Value} (n:Nat),Vals xs us→Vals (xs.drop n) (us.drop n)
  | _,_,0,r => r
  | _,_,_ + 1,.nil => .nil
  | _,_,n + 1,.cons _ t => Vals.drop n t
theorem Vals.none_of:∀ {xs:List V} {us:List Value} {i:Nat},Vals xs us→xs[i]? = none→us[i]? = none:=fun {xs us i} r e => by
  have h1:=r.length
  have h2:xs.length ≤ i:=List.getElem?_eq_none_iff.mp e
  exact List.getElem?_eq_none_iff.mpr (by omega)

noncomputable def RelO:Option V→Option Value→Prop
  | some v,some u => RelV v u
  | none,none => True
  | _,_ => False
noncomputable def KV {κ:Type}:List (κ × V)→List (κ × Value)→Prop:=Paired fun (p:κ × V) (q:κ × Value) => p.1 = q.1∧RelV p.2 q.2

noncomputable def kV:Key→V
  | .inl i => .int i
  | .inr x => .str x

inductive HO where
  /-- a list -/
  | lst (xs:List V)
  /-- a tuple (never changes) -/
  | tup (xs:List V)
  /-- a dict whose keys are ints and texts; one whose keys are tuples of ints and texts (the empty one is both) -/
  | dK (kvs:List (Key × V)) | dT (kvs:List (List Key × V))
  /-- a set of ints: its members,its size -/
  | set (S:Int→Bool) (n:Nat)
  /-- an instance of the class at C,its dict at dx,its attributes -/
  | ins (C dx:Addr) (fs:List (Str × V))
  /-- the dict of the instance at x -/
  | own (x:Addr)
  /-- the dict of an exception -/
  | xd (fs:List (Str × V))
  /-- a bound method,f of x -/
  | met (f x:Addr)
  /-- a range object lo,lo + 1,.. below hi -/
  | rng (lo hi:Int)
  /-- a thing that is known to the object (the script; a dict while a loop walks it): read,never written while it is so -/
  | frz (o:Obj) (u:HO)
  /-- a code object's table -/
  | tbl (ps:Array Value)
  /-- any other thing,by what is true of its one object (a def of one's own: SetO a S n:=HO.ext fun h => ..) -/
  | ext (φ:Heap→Prop)

noncomputable abbrev Hp:=Addr→Option HO
noncomputable def upd (H:Hp) (a:Addr) (o:HO):Hp:=fun b => if b = a then some o else H b
theorem upd_same {H:Hp} {a:Addr} {o:HO}:upd H a o a = some o:=by unfold upd; rw [if_pos rfl]
theorem upd_ne {H:Hp} {a b:Addr} {o:HO} (h:b ≠ a):upd H a o b = H b:=by unfold upd; rw [if_neg h]
theorem ne_of {H:Hp} {a b:Addr} {o u:HO} (h:H a = some o) (h':H b = some u) (d:o ≠ u):a ≠ b:=by
  intro e; subst e; rw [h] at h'; exact d (Option.some.inj h')
theorem ne_of_none {H:Hp} {a b:Addr} {o:HO} (h:H a = some o) (h':H b = none):a ≠ b:=by
  intro e; subst e; rw [h] at h'; cases h'

section
variable (P:Program) (w:World)
noncomputable def ObjOk (H:Hp) (h:Heap) (a:Addr):HO→Prop
  | .lst xs => xs.length ≤ sizeLine∧∃ (its:List Value) (n:Nat),Vals xs its∧h.get? a = some { cls:=.type "list",data:=.seq its.toArray n }
  | .tup xs => xs.length ≤ sizeLine∧∃ its:List Value,Vals xs its∧IsTup h a its.toArray
  | .dK kvs => kvs.length ≤ sizeLine∧(a == sysModules) = false∧∃ vs,KV kvs vs∧h.DictOf (mixKind P w) a vs
  | .dT kvs => kvs.length ≤ sizeLine∧(a == sysModules) = false∧∃ xs:List (List Key × Addr × Value),
      Paired (fun (p:List Key × V) (q:List Key × Addr × Value) => p.1 = q.1∧H q.2.1 = some (.tup (p.1.map kV))∧RelV p.2 q.2.2) kvs xs ∧
      ∃ o es ep,h.get? a = some o∧o.ExactDict∧o.data = .dict es ep∧es.toList = xs.map (entryOfKey (tupleKind (mixKind P w)))∧(xs.map (·.1)).Nodup
  | .set S n => h.SetOf (intKind P w) a S n
  | .ins C dx fs => H dx = some (.own a)∧fs.length ≤ 1000∧dx ≠ a∧h.get? a = some (PySem.W.instObj C dx) ∧
      ∃ mA,h.Ns1 dx mA∧(∀ f,RelO (fs.lookup f) (mA f))∧PySem.Within mA (fs.map (·.1))
  | .own _ => ∃ o,h.get? a = some o
  | .xd fs => ∃ mA,h.Ns1 a mA∧∀ f,RelO (fs.lookup f) (mA f)
  | .rng lo hi => ∃ t u v,h.get? a = some { cls:=.type "range",data:=.fields #[.int lo t,.int hi u,.int 1 v] }
  | .frz o u => h.get? a = some o∧ObjOk H h a u
  | .tbl ps => h.get? a = some { cls:=.none,data:=.fields ps }
  | .met f x => h.get? a = some (PySem.W.methodObj (.ref f) (.ref x))
  | .ext φ => φ h∧(∃ o,h.get? a = some o)∧∀ h1 h2:Heap,φ h1→(∀ o,h1.get? a = some o→h2.get? a = some o)→φ h2
noncomputable def HOk (H:Hp) (h:Heap):Prop:=∀ a o,H a = some o→ObjOk P w H h a o
end

section
variable {P:Program} {w:World} {H H':Hp} {h h':Heap} {a:Addr} {o:HO}
theorem ObjOk.lt (x:ObjOk P w H h a o):a < h.objs.size:=by
  cases o with
  | lst xs => obtain ⟨_,_,_,_,e⟩:=x; exact Heap.lt_size e
  | tup xs => obtain ⟨_,_,_,p⟩:=x; exact p.lt
  | dK kvs => obtain ⟨_,_,_,_,o,_,_,e,_⟩:=x; exact Heap.lt_size e
  | dT kvs => obtain ⟨_,_,_,_,o,_,_,e,_⟩:=x; exact Heap.lt_size e
  | set S n => obtain ⟨o,_,_,_,e,_⟩:=x; exact Heap.lt_size e
  | ins C dx fs => obtain ⟨_,_,_,e,_⟩:=x; exact Heap.lt_size e
  | own y => obtain ⟨_,e⟩:=x; exact Heap.lt_size e
  | xd fs => obtain ⟨_,⟨_,_,_,e,_⟩,_⟩:=x; exact Heap.lt_size e
  | rng lo hi => obtain ⟨_,_,_,e⟩:=x; exact Heap.lt_size e
  | frz ob u => obtain ⟨e,_⟩:=x; exact Heap.lt_size e
  | tbl ps => exact Heap.lt_size (show h.get? a = some _ from x)
  | met f y => exact Heap.lt_size (show h.get? a = some _ from x)
  | ext φ => obtain ⟨_,⟨_,e⟩,_⟩:=x; exact Heap.lt_size e
theorem Paired.mapP {α β:Type} {F G:α→β→Prop} {l₁:List α} {l₂:List β} (h:Paired F l₁ l₂) (f:∀ a b,F a b→G a b):Paired G l₁ l₂:=by
  induction h with
  | nil => exact .nil
  | cons r t ih => exact .cons (f _ _ r) ih
theorem ObjOk.stay (x:ObjOk P w H h a o) (k:∀ b u,(b = a ∨ H b = some (.own a))→h.get? b = some u→h'.get? b = some u)
    (ho:∀ b,H b = some (.own a)→H' b = some (.own a)) (ht:∀ b xs,H b = some (.tup xs)→H' b = some (.tup xs)):ObjOk P w H' h' a o:=by
  induction o with
  | lst xs => obtain ⟨z,its,n,r,e⟩:=x; exact ⟨z,its,n,r,k _ _ (.inl rfl) e⟩
  | tup xs => obtain ⟨z,its,r,ob,e,c⟩:=x; exact ⟨z,its,r,ob,k _ _ (.inl rfl) e,c⟩
  | dK kvs => obtain ⟨z,y,vs,r,ob,es,ep,e,c⟩:=x; exact ⟨z,y,vs,r,ob,es,ep,k _ _ (.inl rfl) e,c⟩
  | dT kvs =>
    obtain ⟨z,y,xs,r,ob,es,ep,e,c⟩:=x
    exact ⟨z,y,xs,Paired.mapP r fun p q z => ⟨z.1,ht _ _ z.2.1,z.2.2⟩,ob,es,ep,k _ _ (.inl rfl) e,c⟩
  | set S n => obtain ⟨ob,es,ep,t,e,c⟩:=x; exact ⟨ob,es,ep,t,k _ _ (.inl rfl) e,c⟩
  | ins C dx fs =>
    obtain ⟨d,z,ne,e,mA,⟨od,es,ep,e2,c⟩,r⟩:=x
    exact ⟨ho _ d,z,ne,k _ _ (.inl rfl) e,mA,⟨od,es,ep,k _ _ (.inr d) e2,c⟩,r⟩
  | own y => obtain ⟨ob,e⟩:=x; exact ⟨ob,k _ _ (.inl rfl) e⟩
  | xd fs => obtain ⟨mA,⟨od,es,ep,e,c⟩,r⟩:=x; exact ⟨mA,⟨od,es,ep,k _ _ (.inl rfl) e,c⟩,r⟩
  | rng lo hi => obtain ⟨t,u,v,e⟩:=x; exact ⟨t,u,v,k _ _ (.inl rfl) e⟩
  | frz ob u ih => obtain ⟨e,q⟩:=x; exact ⟨k _ _ (.inl rfl) e,ih q⟩
  | tbl ps =>
    have e:h.get? a = some { cls:=.none,data:=.fields ps }:=x
    show h'.get? a = some { cls:=.none,data:=.fields ps }
    exact k a _ (.inl rfl) e
  | met f y =>
    have e:h.get? a = some (PySem.W.methodObj (.ref f) (.ref y)):=x
    show h'.get? a = some (PySem.W.methodObj (.ref f) (.ref y))
    exact k a _ (.inl rfl) e
  | ext φ => obtain ⟨p,⟨o,e⟩,st⟩:=x; exact ⟨st _ _ p fun o q => k _ _ (.inl rfl) q,⟨o,k _ _ (.inl rfl) e⟩,st⟩
theorem HOk.lt (x:HOk P w H h) (e:H a = some o):a < h.objs.size:=(x a o e).lt
theorem HOk.fresh (x:HOk P w H h) (e:h.objs.size ≤ a):H a = none:=by
  cases q:H a with
  | none => rfl
  | some u => exact absurd (Nat.lt_of_lt_of_le (x.lt q) e) (Nat.lt_irrefl _)
theorem HOk.kept (x:HOk P w H h) (k:∀ b u,h.get? b = some u→h'.get? b = some u):HOk P w H h':=fun a o e =>
  (x a o e).stay (fun b u _ q => k b u q) (fun _ q => q) fun _ _ q => q
theorem HOk.laid (x:HOk P w H h) (k:∀ b u,h.get? b = some u→h'.get? b = some u) (hp:h.objs.size ≤ a) (new:ObjOk P w (upd H a o) h' a o):HOk P w (upd H a o) h':=fun b u e => by
  have hn:=x.fresh hp
  by_cases hb:b = a
  · subst hb; rw [upd_same] at e; cases e; exact new
  · rw [upd_ne hb] at e
    exact (x b u e).stay (fun c v _ q => k c v q) (fun c q => by rw [upd_ne (ne_of_none q hn)]; exact q) fun c xs q => by rw [upd_ne (ne_of_none q hn)]; exact q
end

noncomputable def Rd (H:Hp) (a:Addr) (u:HO):Prop:=H a = some u ∨ ∃ o,H a = some (.frz o u)
theorem Rd.of {H:Hp} {a:Addr} {u:HO} (h:H a = some u):Rd H a u:=.inl h
theorem Rd.ok {P:Program} {w:World} {H:Hp} {h:Heap} {a:Addr} {u:HO} (r:Rd H a u) (x:HOk P w H h):ObjOk P w H h a u:=by
  rcases r with r | ⟨o,r⟩
  · exact x a u r
  · obtain ⟨_,q⟩:=x a _ r
    exact q
noncomputable def Mut:Option HO→Prop
  | some (.lst _) => True
  | some (.dK _) => True
  | some (.dT _) => True
  | some (.set _ _) => True
  | some (.ins _ _ _) => True
  | some (.ext _) => True
  | _ => False
section
variable {P:Program} {w:World} {H:Hp} {h h':Heap} {x e:Addr} {o':HO}
theorem HOk.write (ok:HOk P w H h) (mu:Mut (H x)) (he:e = x ∨ H e = some (.own x)) (k:∀ b u,b ≠ e→h.get? b = some u→h'.get? b = some u) (heo:∃ u,h'.get? e = some u)
    (new:ObjOk P w (upd H x o') h' x o'):HOk P w (upd H x o') h':=fun b u q => by
  have nown:∀ c y,H c = some (.own y)→c ≠ x:=fun c y r z => by subst z; rw [r] at mu; exact mu
  have ntup:∀ c xs,H c = some (.tup xs)→c ≠ x:=fun c xs r z => by subst z; rw [r] at mu; exact mu
  by_cases hb:b = x
  · subst hb; rw [upd_same] at q; cases q; exact new
  · rw [upd_ne hb] at q
    by_cases hbe:b = e
    · have q':H b = some (.own x):=by
        rcases he with z | z
        · exact absurd (hbe.trans z) hb
        · rw [hbe]; exact z
      rw [q] at q'; cases q'
      obtain ⟨v,hv⟩:=heo
      exact ⟨v,by rw [hbe]; exact hv⟩
    · refine (ok b u q).stay (fun c v hc r => k c v ?_ r) (fun c r => by rw [upd_ne (nown c b r)]; exact r) fun c xs r => by rw [upd_ne (ntup c xs r)]; exact r
      rcases hc with rfl | hc
      · exact hbe
      · rintro rfl
        rcases he with z | z
        · exact nown c b hc z
        · rw [hc] at z; cases z; exact hb rfl
end

structure Un (fs ex:List Addr) (H H':Hp) (h h':Heap):Prop where
  keep:∀ b o,h.get? b = some o→H b = none→b ∉ fs→b ∉ ex→h'.get? b = some o
  slot:∀ b o,h.get? b = some o→H b = none→b ∈ fs→b ∉ ex→∃ sl,h'.get? b = some { o with slots:=sl }
  free:∀ b o,h.get? b = some o→H b = none→b ∉ ex→H' b = none
  there:∀ b o,h.get? b = some o→b ∉ ex→∃ o',h'.get? b = some o'
  tups:∀ b xs,H b = some (.tup xs)→H' b = some (.tup xs)
  frzs:∀ b o u,H b = some (.frz o u)→H' b = some (.frz o u)
  tbls:∀ b ps,H b = some (.tbl ps)→∃ more,H' b = some (.tbl (ps ++ more))
section
variable {fs fs' ex ex':List Addr} {H H1 H2:Hp} {h h1 h2 h':Heap} {a x e:Addr} {o:HO}
theorem Un.any (u:Un fs ex H H1 h h1) {b:Addr} {ob:Obj} (q:h.get? b = some ob) (n:H b = none) (hx:b ∉ ex):∃ sl,h1.get? b = some { ob with slots:=sl }:=by
  by_cases hb:b ∈ fs
  · exact u.slot b ob q n hb hx
  · exact ⟨ob.slots,u.keep b ob q n hb hx⟩
theorem Un.trans (a:Un fs ex H H1 h h1) (b:Un fs ex H1 H2 h1 h2):Un fs ex H H2 h h2 where
  keep:=fun c ob q n hc hx => b.keep c ob (a.keep c ob q n hc hx) (a.free c ob q n hx) hc hx
  slot:=fun c ob q n hc hx => by
    obtain ⟨sl,e1⟩:=a.slot c ob q n hc hx
    obtain ⟨sl',e2⟩:=b.slot c _ e1 (a.free c ob q n hx) hc hx
    exact ⟨sl',e2⟩
  free:=fun c ob q n hx => by
    obtain ⟨o',e1⟩:=a.there c ob q hx
    exact b.free c o' e1 (a.free c ob q n hx) hx
  there:=fun c ob q hx => by
    obtain ⟨o',e1⟩:=a.there c ob q hx
    exact b.there c o' e1 hx
  tups:=fun c xs q => b.tups c xs (a.tups c xs q)
  frzs:=fun c ob xs q => b.frzs c ob xs (a.frzs c ob xs q)
  tbls:=fun c ps q => by
    obtain ⟨m1,e1⟩:=a.tbls c ps q
    obtain ⟨m2,e2⟩:=b.tbls c _ e1
    exact ⟨m1 ++ m2,by rw [e2,Array.append_assoc]⟩
theorem Un.kept (k:∀ b u,h.get? b = some u→h'.get? b = some u):Un fs ex H H h h' :=
  ⟨fun b ob q _ _ _ => k b ob q,fun b ob q _ _ _ => ⟨ob.slots,k b ob q⟩,fun _ _ _ n _ => n,fun b ob q _ => ⟨ob,k b ob q⟩,fun _ _ q => q,fun _ _ _ q => q,fun _ ps q => ⟨#[],by rw [q]; simp⟩⟩
theorem Un.refl:Un fs ex H H h h:=Un.kept fun _ _ q => q
theorem Un.laid (k:∀ b u,h.get? b = some u→h'.get? b = some u) (hp:h.objs.size ≤ a) (hn:H a = none):Un fs ex H (upd H a o) h h' where
  keep:=fun b u q _ _ _ => k b u q
  slot:=fun b u q _ _ _ => ⟨u.slots,k b u q⟩
  free:=fun b u q n _ => by rw [upd_ne (Nat.ne_of_lt (Nat.lt_of_lt_of_le (Heap.lt_size q) hp))]; exact n
  there:=fun b u q _ => ⟨u,k b u q⟩
  tups:=fun b xs q => by rw [upd_ne (ne_of_none q hn)]; exact q
  frzs:=fun b u xs q => by rw [upd_ne (ne_of_none q hn)]; exact q
  tbls:=fun b ps q => ⟨#[],by rw [upd_ne (ne_of_none q hn),q]; simp⟩
theorem Un.write (mu:Mut (H x)) (he:e = x ∨ H e = some (.own x)) (k:∀ b u,b ≠ e→h.get? b = some u→h'.get? b = some u) (heo:∃ u,h'.get? e = some u):Un fs ex H (upd H x o) h h':=by
  have hx:∀ b,H b = none→b ≠ x:=fun b n z => by subst z; rw [n] at mu; exact mu
  have hb:∀ b,H b = none→b ≠ e:=fun b n z => by
    subst z
    rcases he with r | r
    · exact hx b n r
    · rw [n] at r; cases r
  have hm:∀ b u,H b = some u→¬ Mut (some u)→b ≠ x:=fun b u q nm z => by subst z; rw [q] at mu; exact nm mu
  refine ⟨fun b u q n _ _ => k b u (hb b n) q,fun b u q n _ _ => ⟨u.slots,k b u (hb b n) q⟩,fun b u q n _ => by rw [upd_ne (hx b n)]; exact n,fun b u q _ => ?_,
    fun b xs q => by rw [upd_ne (hm b _ q fun z => z)]; exact q,fun b u xs q => by rw [upd_ne (hm b _ q fun z => z)]; exact q,fun b ps q => ⟨#[],by rw [upd_ne (hm b _ q fun z => z),q]; simp⟩⟩
  by_cases hbe:b = e
  · subst hbe; exact heo
  · exact ⟨u,k b u hbe q⟩
theorem Un.mono (u:Un fs ex H H1 h h1) (hs:∀ b ∈ fs,b ∈ fs') (hx:∀ b ∈ ex,b ∈ ex'):Un fs' ex' H H1 h h1 :=
  ⟨fun b ob q n hb he => u.keep b ob q n (fun z => hb (hs b z)) fun z => he (hx b z),fun _ _ q n _ he => u.any q n fun z => he (hx _ z),fun b ob q n he => u.free b ob q n fun z => he (hx b z),fun b ob q he => u.there b ob q fun z => he (hx b z),u.tups,u.frzs,u.tbls⟩
end

noncomputable def trk (h:Heap) (H:Hp):List Addr:=(List.range h.objs.size).filter fun a => (H a).isSome
noncomputable def hidT (h:Heap) (H:Hp):Heap:=PySem.W.hideAll h (trk h H)
theorem hidT_size (h:Heap) (H:Hp):(hidT h H).objs.size = h.objs.size:=PySem.W.hideAll_size _ _
theorem hidT_get {h:Heap} {H:Hp} {b:Addr} {o:Obj} (e:h.get? b = some o) (n:H b = none):(hidT h H).get? b = some o :=
  PySem.W.hideAll_get _ e fun hm => by
    have q:(H b).isSome = true:=(List.mem_filter.mp hm).2
    rw [n] at q; simp at q
theorem of_hidT {h:Heap} {H:Hp} {b:Addr} {o:Obj} (e:(hidT h H).get? b = some o):h.get? b = some o∧H b = none:=by
  have e':h.get? b = some o:=PySem.W.of_hideAll (trk h H) e
  refine ⟨e',?_⟩
  cases q:H b with
  | none => rfl
  | some x =>
    have hm:b ∈ trk h H:=List.mem_filter.mpr ⟨List.mem_range.mpr (Heap.lt_size e'),by simp [q]⟩
    have z:(hidT h H).get? b = none:=PySem.W.hideAll_none (trk h H) hm
    rw [z] at e; cases e

noncomputable def allNews (g h:Heap) (L:Addr):List (Addr × Obj):=(List.range h.objs.size).filterMap fun a => if a = L ∨ (g.get? a).isSome = true then none else (h.get? a).map fun o => (a,o)
noncomputable def rest (g h:Heap) (L d:Addr):List (Addr × Obj):=(allNews g h L).filter fun p => decide (p.1 ≠ d)
end L2

namespace L2
open PySem PySem.Spec PyProof.Rows

structure Mod (K:PySem.W.Frag) (mg:Str→Option Value) (base:Heap):Prop where
  kin:K.In base
  glob:base.Ns mainGlobals mg
  blt:∃ mb,base.Ns builtinsNs mb∧∀ x:Str,x ≠ "__name__"→mb x = bootBuiltins x
  nolimit:base.NoLimit

structure Cx where
  prog:Program
  w:World
  K:PySem.W.Frag
  mg:Str→Option Value
  base:Heap
  A:Around
  N:List Str
  s₀:Shared
  H₀:Hp
  env:Env
  outer:List Env
  stack:List Env
  ex:List Addr
  fn:Str→Bool
  calm:Bool
  pn:List (Addr × Obj)
  xe:Value→Shared→Prop
noncomputable def frs (l:List Env):List Addr:=l.filterMap (·.frame)
noncomputable abbrev Cx.fs (X:Cx):List Addr:=frs X.outer

noncomputable def Vis (sc:Scope) (x:Str):Prop:=sc.names.lookup x = some .local ∨ sc.names.lookup x = some .cell ∨ sc.names.lookup x = some .free
noncomputable def Loc (sc:Scope) (x:Str):Prop:=sc.names.lookup x = some .local ∨ sc.names.lookup x = some .cell
noncomputable def Look (env:Env) (h:Heap) (m:Str→Option Value) (x:Str) (u:Value):Prop :=
  (env.kindOf x = some .local∧m x = some u) ∨ ((env.kindOf x = some .cell ∨ env.kindOf x = some .free)∧∃ c,env.cells.lookup x = some c∧h.IsCell c (some u))

structure Cx.Ok (X:Cx):Prop where
  mod:Mod X.K X.mg X.base
  kind:X.env.scope.kind = .function
  glob:X.env.globals = mainGlobals
  blt:X.env.builtins = builtinsNs
  above:X.s₀.heap.objs.size ≤ X.env.locals
  inj:∀ x y c,X.env.cells.lookup x = some c→X.env.cells.lookup y = some c→x = y
  has:∀ x,(X.env.kindOf x = some .cell ∨ X.env.kindOf x = some .free)→∃ c,X.env.cells.lookup x = some c
  cab:∀ x c,X.fn x = true→X.env.cells.lookup x = some c→X.s₀.heap.objs.size ≤ c
  hd:X.calm = true→X.A.handled = none
  frames:X.A.frames = some X.stack
  stk:X.stack = X.outer ∨ (X.stack = X.env :: X.outer∧X.env.frame = some X.env.locals)
  exf:∀ b ∈ X.ex,b ≠ X.env.locals∧∀ x c,X.env.cells.lookup x = some c→c ≠ b
  bs:∀ b o,X.base.get? b = some o→X.s₀.heap.get? b = some o∧X.H₀ b = none
  bsz:X.base.objs.size ≤ X.s₀.heap.objs.size
  noex:∀ b o,X.base.get? b = some o→b ∉ X.ex
  exfs:∀ b ∈ X.ex,b ∉ X.fs
  funs:X.s₀.heap.FunFrames X.base X.outer
  frf:∀ b ∈ X.fs,X.H₀ b = none

structure Inv (X:Cx) (pins:List (Addr × Obj)) (σ:List (Option V)) (H:Hp) (s:Shared):Prop where
  ok:X.Ok
  os:s.os = X.s₀.os
  bare:AllBare s.gens
  base:Un X.fs X.ex X.H₀ H X.s₀.heap s.heap
  loc:∃ m,s.heap.Ns X.env.locals m∧∀ (i:Nat) (x:Str) (v:V),X.N[i]? = some x→σ[i]? = some (some v)→Vis X.env.scope x→∃ u,RelV v u∧Look X.env s.heap m x u
  cell:∀ x c,X.env.cells.lookup x = some c→∃ v,s.heap.IsCell c v
  free:H X.env.locals = none
  freeC:∀ x c,X.env.cells.lookup x = some c→H c = none
  pin:∀ p ∈ X.pn ++ pins,s.heap.get? p.1 = some p.2∧H p.1 = none∧p.1 ≠ X.env.locals∧p.1 ∉ X.fs∧∀ v,p.2.data ≠ .cell v
  hok:HOk X.prog X.w H s.heap
  len:σ.length = X.N.length

section
variable {X:Cx} {pins:List (Addr × Obj)} {σ:List (Option V)} {H H':Hp} {s:Shared} {h':Heap}

theorem Cx.Ok.nofr (ok:X.Ok) {b:Addr} {o:Obj} (e:X.base.get? b = some o):b ∉ X.fs:=fun hb => by
  have:=(ok.funs.mem hb).1
  rw [e] at this; cases this
theorem Inv.bs (I:Inv X pins σ H s):∀ b o,X.base.get? b = some o→s.heap.get? b = some o∧H b = none:=fun b o e =>
  ⟨I.base.keep b o (I.ok.bs b o e).1 (I.ok.bs b o e).2 (I.ok.nofr e) (I.ok.noex b o e),I.base.free b o (I.ok.bs b o e).1 (I.ok.bs b o e).2 (I.ok.noex b o e)⟩
theorem Inv.bk (I:Inv X pins σ H s):∀ b o,X.base.get? b = some o→s.heap.get? b = some o:=fun b o e => (I.bs b o e).1
theorem Inv.mod (I:Inv X pins σ H s):Mod X.K X.mg X.base:=I.ok.mod
theorem Inv.kIn (I:Inv X pins σ H s):X.K.In s.heap:=I.ok.mod.kin.keeps I.bk
theorem Inv.nolimit (I:Inv X pins σ H s):s.heap.NoLimit:=I.ok.mod.nolimit.keeps I.bk
theorem Inv.fr (I:Inv X pins σ H s):∃ m,Fr X.base X.env.locals s.heap m :=
  let ⟨m,hn,_⟩:=I.loc
  ⟨m,hn,I.bk,Nat.le_trans I.ok.bsz I.ok.above⟩
theorem Inv.lt (I:Inv X pins σ H s):X.env.locals < s.heap.objs.size:=let ⟨_,hn,_⟩:=I.loc; hn.lt
theorem Inv.sz (I:Inv X pins σ H s):X.s₀.heap.objs.size ≤ s.heap.objs.size:=Nat.le_trans I.ok.above (Nat.le_of_lt I.lt)
theorem Inv.nofs (I:Inv X pins σ H s) {a:Addr} (h:s.heap.objs.size ≤ a):a ∉ X.fs:=fun hb => by
  obtain ⟨_,o,ho,_⟩:=I.ok.funs.mem hb
  exact absurd (Nat.lt_of_lt_of_le (Heap.lt_size ho) (Nat.le_trans I.sz h)) (Nat.lt_irrefl _)
theorem Inv.cne (I:Inv X pins σ H s):∀ x c,X.env.cells.lookup x = some c→c ≠ X.env.locals:=fun x c e z => by
  obtain ⟨v,o,ho,hd⟩:=I.cell x c e
  obtain ⟨m,⟨o',es,ep,ho',hd',_⟩,_⟩:=I.loc
  rw [z,ho'] at ho; cases ho; rw [hd'] at hd; cases hd
theorem Inv.funs (I:Inv X pins σ H s):s.heap.FunFrames X.base X.outer:=by
  have all:∀ (l:List Env),(∀ b ∈ frs l,b ∈ X.fs)→X.s₀.heap.FunFrames X.base l→s.heap.FunFrames X.base l:=by
    intro l
    induction l with
    | nil => intro _ _; trivial
    | cons env r ih =>
      intro hs hl
      obtain ⟨hk,⟨L,o,hf,hn,ho,hd⟩,hr⟩:=hl
      have hL:L ∈ X.fs:=hs L (by unfold frs; rw [List.filterMap_cons,hf]; exact List.mem_cons_self)
      obtain ⟨sl,e⟩:=I.base.slot L o ho (I.ok.frf L hL) hL fun z => I.ok.exfs L z hL
      exact ⟨hk,⟨L,_,hf,hn,e,hd⟩,ih (fun b hb => hs b (by unfold frs; rw [List.filterMap_cons,hf]; exact List.mem_cons_of_mem _ hb)) hr⟩
  exact all X.outer (fun _ hb => hb) I.ok.funs

theorem Inv.stack (I:Inv X pins σ H s):s.heap.FunFrames X.base X.stack:=by
  rcases I.ok.stk with e | ⟨e,hf⟩
  · rw [e]; exact I.funs
  · rw [e]
    obtain ⟨m,hn,_⟩:=I.loc
    refine .cons (by rw [I.ok.kind]; decide) hf hn ?_ I.funs
    exact Heap.get?_none_of_le (Nat.le_trans I.ok.bsz I.ok.above)
theorem Inv.stkSub (I:Inv X pins σ H s):∀ b ∈ frs X.stack,b ∈ X.env.locals :: X.fs:=fun b hb => by
  rcases I.ok.stk with e | ⟨e,hf⟩
  · rw [e] at hb; exact List.mem_cons_of_mem _ hb
  · rw [e] at hb
    unfold frs at hb
    rw [List.filterMap_cons,hf] at hb
    exact hb
theorem Inv.stkFree (I:Inv X pins σ H s):∀ b ∈ frs X.stack,H b = none:=fun b hb => by
  rcases List.mem_cons.mp (I.stkSub b hb) with e | hb
  · rw [e]; exact I.free
  · obtain ⟨_,o,ho,_⟩:=I.ok.funs.mem hb
    exact I.base.free b o ho (I.ok.frf b hb) fun z => I.ok.exfs b z hb

theorem Inv.step {g':Array GenState} {t':Nat} {d':Drawn} {ch:List Addr} (I:Inv X pins σ H s)
    (hch:∀ b ∈ ch,(b ∈ X.ex ∨ X.s₀.heap.objs.size ≤ b)∧b ≠ X.env.locals∧(∀ x c,X.env.cells.lookup x = some c→c ≠ b)∧∀ p ∈ X.pn ++ pins,p.1 ≠ b)
    (keep:∀ b o,b ≠ X.env.locals→b ∉ X.fs→b ∉ ch→s.heap.get? b = some o→H b = none→h'.get? b = some o)
    (slot:∀ b o,b ≠ X.env.locals→b ∈ X.fs→b ∉ ch→s.heap.get? b = some o→H b = none→∃ sl,h'.get? b = some { o with slots:=sl }) (free:∀ b o,b ∉ ch→s.heap.get? b = some o→H b = none→H' b = none)
    (there:∀ b o,b ∉ ch→s.heap.get? b = some o→∃ o',h'.get? b = some o')
    (tups:∀ b xs,H b = some (.tup xs)→H' b = some (.tup xs)) (frzs:∀ b o u,H b = some (.frz o u)→H' b = some (.frz o u)) (tbls:∀ b ps,H b = some (.tbl ps)→∃ more,H' b = some (.tbl (ps ++ more)))
    (ns:∀ m,s.heap.Ns X.env.locals m→h'.Ns X.env.locals m) (hok:HOk X.prog X.w H' h') (hg:AllBare g') :
    Inv X pins σ H' { s with heap:=h',gens:=g',drawn:=d',toks:=t' }:=by
  have neL:∀ b o,X.s₀.heap.get? b = some o→b ≠ X.env.locals:=fun b o e => Nat.ne_of_lt (Nat.lt_of_lt_of_le (Heap.lt_size e) I.ok.above)
  have neC:∀ b o,X.s₀.heap.get? b = some o→b ∉ X.ex→b ∉ ch:=fun b o e hx hb => by
    rcases (hch b hb).1 with z | z
    · exact hx z
    · exact absurd (Nat.lt_of_lt_of_le (Heap.lt_size e) z) (Nat.lt_irrefl _)
  have cellK:∀ x c,X.env.cells.lookup x = some c→∀ v,s.heap.IsCell c v→h'.IsCell c v:=fun x c e v x__1 => by
    obtain ⟨o,ho,hd⟩:=x__1
    have nch:c ∉ ch:=fun z => (hch c z).2.2.1 x c e rfl
    by_cases hc:c ∈ X.fs
    · obtain ⟨sl,q⟩:=slot c o (I.cne x c e) hc nch ho (I.freeC x c e)
      exact ⟨_,q,hd⟩
    · exact ⟨o,keep c o (I.cne x c e) hc nch ho (I.freeC x c e),hd⟩
  refine ⟨I.ok,I.os,hg,⟨fun b o e n hb hx => ?_,fun b o e n hb hx => ?_,fun b o e n hx => ?_,fun b o e hx => ?_,fun b xs e => tups b xs (I.base.tups b xs e),fun b o xs e => frzs b o xs (I.base.frzs b o xs e),fun b ps e => ?_⟩,?_,fun x c e => ?_,?_,fun x c e => ?_,fun p hp => ?_,hok,I.len⟩
  · exact keep b o (neL b o e) hb (neC b o e hx) (I.base.keep b o e n hb hx) (I.base.free b o e n hx)
  · obtain ⟨sl,e1⟩:=I.base.slot b o e n hb hx
    obtain ⟨sl',e2⟩:=slot b _ (neL b o e) hb (neC b o e hx) e1 (I.base.free b o e n hx)
    exact ⟨sl',e2⟩
  · obtain ⟨o',e1⟩:=I.base.there b o e hx
    exact free b o' (neC b o e hx) e1 (I.base.free b o e n hx)
  · obtain ⟨o',e1⟩:=I.base.there b o e hx
    exact there b o' (neC b o e hx) e1
  · obtain ⟨m1,e1⟩:=I.base.tbls b ps e
    obtain ⟨m2,e2⟩:=tbls b _ e1
    exact ⟨m1 ++ m2,by rw [e2,Array.append_assoc]⟩
  · obtain ⟨m,hn,hl⟩:=I.loc
    refine ⟨m,ns m hn,fun i x v e1 e2 e3 => ?_⟩
    obtain ⟨u,r,l⟩:=hl i x v e1 e2 e3
    refine ⟨u,r,?_⟩
    rcases l with l | ⟨k,c,e,z⟩
    · exact .inl l
    · exact .inr ⟨k,c,e,cellK x c e _ z⟩
  · obtain ⟨v,z⟩:=I.cell x c e
    exact ⟨v,cellK x c e v z⟩
  · obtain ⟨m,⟨o,_,_,ho,_⟩,_⟩:=I.loc
    exact free _ o (fun z => (hch _ z).2.1 rfl) ho I.free
  · obtain ⟨v,o,ho,hd⟩:=I.cell x c e
    exact free c o (fun z => (hch c z).2.2.1 x c e rfl) ho (I.freeC x c e)
  · obtain ⟨e,n,ne,nf,d⟩:=I.pin p hp
    have nch:p.1 ∉ ch:=fun z => (hch p.1 z).2.2.2 p hp rfl
    exact ⟨keep p.1 p.2 ne nf nch e n,free p.1 p.2 nch e n,ne,nf,d⟩
theorem Inv.un {t':Nat} (I:Inv X pins σ H s) (u:Un X.fs [] H H' s.heap h') (hok:HOk X.prog X.w H' h'):Inv X pins σ H' { s with heap:=h',toks:=t' }:=by
  obtain ⟨m,⟨o,es,ep,ho,r⟩,_⟩:=id I.loc
  obtain ⟨sl,hL⟩:=u.any ho I.free (by simp)
  exact I.step (g':=s.gens) (d':=s.drawn) (ch:=[]) (fun _ z => nomatch z) (fun b o _ hb _ e n => u.keep b o e n hb (by simp)) (fun b o _ hb _ e n => u.slot b o e n hb (by simp)) (fun b o _ e n => u.free b o e n (by simp)) (fun b o _ e => u.there b o e (by simp)) u.tups u.frzs u.tbls (fun m' hm => by
    obtain ⟨o',es',ep',ho',r'⟩:=hm
    rw [ho] at ho'; cases ho'
    exact ⟨_,es',ep',hL,r'⟩) hok I.bare
theorem Inv.call {g':Array GenState} {t':Nat} {d':Drawn} {ch:List Addr} (I:Inv X pins σ H s) (u:Un (frs X.stack) ch H H' s.heap h') (hok:HOk X.prog X.w H' h') (hg:AllBare g')
    (hch:∀ b ∈ ch,(b ∈ X.ex ∨ X.s₀.heap.objs.size ≤ b)∧b ≠ X.env.locals∧(∀ x c,X.env.cells.lookup x = some c→c ≠ b)∧∀ p ∈ X.pn ++ pins,p.1 ≠ b) :
    Inv X pins σ H' { s with heap:=h',gens:=g',drawn:=d',toks:=t' }:=by
  obtain ⟨m,⟨o,es,ep,ho,r⟩,_⟩:=id I.loc
  obtain ⟨sl,hL⟩:=u.any ho I.free fun z => (hch _ z).2.1 rfl
  exact I.step (ch:=ch) hch (fun b o hL hb hc e n => u.keep b o e n (fun z => (List.mem_cons.mp (I.stkSub b z)).elim hL hb) hc) (fun b o _ _ hc e n => u.any e n hc) (fun b o hc e n => u.free b o e n hc) (fun b o hc e => u.there b o e hc) u.tups u.frzs u.tbls (fun m' hm => by
    obtain ⟨o',es',ep',ho',r'⟩:=hm
    rw [ho] at ho'; cases ho'
    exact ⟨_,es',ep',hL,r'⟩) hok hg
theorem Inv.turned {t':Nat} {it:Addr} (I:Inv X pins σ H s) (k:∀ b o,b ≠ it→s.heap.get? b = some o→h'.get? b = some o) (hn:H it = none) (hL:it ≠ X.env.locals)
    (h1:it ∈ X.ex ∨ X.s₀.heap.objs.size ≤ it) (h2:∀ x c,X.env.cells.lookup x = some c→c ≠ it) (h3:∀ p ∈ X.pn ++ pins,p.1 ≠ it):Inv X pins σ H { s with heap:=h',toks:=t' }:=by
  have nit:∀ b u,H b = some u→b ≠ it:=fun b u e z => by rw [z,hn] at e; cases e
  refine I.step (g':=s.gens) (d':=s.drawn) (ch:=[it]) (fun b hb => ?_) (fun b o _ _ hc e _ => k b o (fun z => hc (by simp [z])) e) (fun b o _ _ hc e _ => ⟨o.slots,k b o (fun z => hc (by simp [z])) e⟩) (fun _ _ _ _ n => n)
    (fun b o hc e => ⟨o,k b o (fun z => hc (by simp [z])) e⟩) (fun _ _ e => e) (fun _ _ _ e => e) (fun b ps e => ⟨#[],by rw [e]; simp⟩) (fun m hm => ?_) (fun b u e => ?_) I.bare
  · have e:b = it:=by simpa using hb
    subst e
    exact ⟨h1,hL,h2,h3⟩
  · obtain ⟨o,es,ep,ho,r⟩:=hm
    exact ⟨o,es,ep,k _ o (Ne.symm hL) ho,r⟩
  · refine (I.hok b u e).stay (fun c v hc q => k c v ?_ q) (fun _ q => q) fun _ _ q => q
    rcases hc with z | z
    · rw [z]; exact nit b u e
    · exact nit c _ z
theorem Inv.tok (I:Inv X pins σ H s) (t:Nat):Inv X pins σ H { s with toks:=t }:=I.un (h':=s.heap) (t':=t) Un.refl I.hok
theorem Inv.kept {t':Nat} (I:Inv X pins σ H s) (k:∀ b u,s.heap.get? b = some u→h'.get? b = some u):Inv X pins σ H { s with heap:=h',toks:=t' }:=I.un (Un.kept k) (I.hok.kept k)
theorem Inv.laid {a:Addr} {o:HO} {t':Nat} (I:Inv X pins σ H s) (k:∀ b u,s.heap.get? b = some u→h'.get? b = some u) (hp:s.heap.objs.size ≤ a) (new:ObjOk X.prog X.w (upd H a o) h' a o) :
    Inv X pins σ (upd H a o) { s with heap:=h',toks:=t' }:=I.un (Un.laid k hp (I.hok.fresh hp)) (I.hok.laid k hp new)
theorem Inv.write {x e:Addr} {o:HO} {t':Nat} (I:Inv X pins σ H s) (mu:Mut (H x)) (he:e = x ∨ H e = some (.own x)) (k:∀ b u,b ≠ e→s.heap.get? b = some u→h'.get? b = some u) (heo:∃ u,h'.get? e = some u)
    (new:ObjOk X.prog X.w (upd H x o) h' x o):Inv X pins σ (upd H x o) { s with heap:=h',toks:=t' }:=I.un (Un.write mu he k heo) (I.hok.write mu he k heo new)
theorem Inv.weak {σ':List (Option V)} (I:Inv X pins σ H s) (hl:σ'.length = σ.length) (w:∀ (i:Nat) v,σ'[i]? = some (some v)→σ[i]? = some (some v)):Inv X pins σ' H s :=
  ⟨I.ok,I.os,I.bare,I.base,let ⟨m,hn,hl'⟩:=I.loc; ⟨m,hn,fun i x v e1 e2 e3 => hl' i x v e1 (w i v e2) e3⟩,I.cell,I.free,I.freeC,I.pin,I.hok,hl.trans I.len⟩
theorem Inv.pins_of {pins':List (Addr × Obj)} (I:Inv X pins σ H s) (h:∀ p ∈ pins',s.heap.get? p.1 = some p.2∧H p.1 = none∧p.1 ≠ X.env.locals∧p.1 ∉ X.fs∧∀ v,p.2.data ≠ .cell v):Inv X pins' σ H s :=
  ⟨I.ok,I.os,I.bare,I.base,I.loc,I.cell,I.free,I.freeC,fun p hp => (List.mem_append.mp hp).elim (fun z => I.pin p (List.mem_append_left _ z)) (h p),I.hok,I.len⟩

theorem nodup_ix {N:List Str} (hN:N.Nodup) {i j:Nat} {x:Str} (a:N[i]? = some x) (b:N[j]? = some x):i = j:=by
  obtain ⟨h1,e1⟩:=List.getElem?_eq_some_iff.mp a
  obtain ⟨h2,e2⟩:=List.getElem?_eq_some_iff.mp b
  exact (List.getElem_inj hN).mp (e1.trans e2.symm)

theorem store_ok2 {M:Model} {A:Around} {E:Value→Shared→Prop} {i:Nat} {x:Str} {v:V} {u:Value} {Q:Unit→Shared→Prop} (I:Inv X pins σ H s) (hN:X.N.Nodup) (hi:X.N[i]? = some x) (hx:Loc X.env.scope x) (r:RelV v u)
    (h:∀ s',Inv X pins (σ.set i (some v)) H s'→(∃ a,Heap.SameBut a s.heap s'.heap∧(a = X.env.locals ∨ X.env.cells.lookup x = some a))→Q () s') (hf:X.fn x = true ∨ X.env.scope.names.lookup x = some .local:=by first | exact .inl rfl | exact .inr rfl | assumption):wpAny M A (storeName X.env x u) Q E s:=by
  obtain ⟨m,hn,hl⟩:=id I.loc
  have hcls:(X.env.scope.kind == .class || (X.env.scope.kind == .module && X.env.locals != X.env.globals)) = false:=by rw [I.ok.kind]; rfl
  have hiσ:i < σ.length:=by rw [I.len]; exact (List.getElem?_eq_some_iff.mp hi).1
  have cne:=I.cne
  have tracked:∀ {a:Addr} {h':Heap},(∃ o,s.heap.get? a = some o∧H a = none)→Heap.SameBut a s.heap h'→HOk X.prog X.w H h':=fun {a h'} ha hs b ob e => by
    obtain ⟨_,_,hfree⟩:=ha
    refine (I.hok b ob e).stay (fun c w' hc q => (hs.2 c ?_).trans q) (fun _ q => q) fun _ _ q => q
    rintro rfl
    rcases hc with rfl | hc
    · rw [hfree] at e; cases e
    · rw [hfree] at hc; cases hc
  rcases hx with hk | hk
  · refine wpAny_storeName_local hk hn (fun h' hn' hs => ?_) hcls
    obtain ⟨oL,_,_,hoL,_⟩:=id hn
    refine h _ ⟨I.ok,I.os,I.bare,⟨fun b o e n hb hx => ?_,fun b o e n hb hx => ?_,I.base.free,fun b o e hx => ?_,I.base.tups,I.base.frzs,I.base.tbls⟩,⟨_,hn',fun j y v' e1 e2 e3 => ?_⟩,fun y c e => ?_,I.free,I.freeC,fun p hp => ?_,tracked ⟨oL,hoL,I.free⟩ hs,by simpa using I.len⟩ ⟨_,hs,.inl rfl⟩
    · exact (hs.2 b (Nat.ne_of_lt (Nat.lt_of_lt_of_le (Heap.lt_size e) I.ok.above))).trans (I.base.keep b o e n hb hx)
    · obtain ⟨sl,e1⟩:=I.base.slot b o e n hb hx
      exact ⟨sl,(hs.2 b (Nat.ne_of_lt (Nat.lt_of_lt_of_le (Heap.lt_size e) I.ok.above))).trans e1⟩
    · obtain ⟨o',e1⟩:=I.base.there b o e hx
      exact ⟨o',(hs.2 b (Nat.ne_of_lt (Nat.lt_of_lt_of_le (Heap.lt_size e) I.ok.above))).trans e1⟩
    · by_cases hj:j = i
      · subst hj
        rw [hi] at e1; cases e1
        rw [List.getElem?_set_self hiσ] at e2
        cases e2
        exact ⟨u,r,.inl ⟨hk,by simp⟩⟩
      · rw [List.getElem?_set_ne (Ne.symm hj)] at e2
        obtain ⟨u',r',q⟩:=hl j y v' e1 e2 e3
        refine ⟨u',r',?_⟩
        rcases q with ⟨k,e⟩ | ⟨k,c,e,z⟩
        · refine .inl ⟨k,?_⟩
          have:y ≠ x:=fun e => hj (nodup_ix hN e1 (e ▸ hi))
          simp [this,e]
        · exact .inr ⟨k,c,e,z.sameBut hs (cne y c e)⟩
    · obtain ⟨w',z⟩:=I.cell y c e
      exact ⟨w',z.sameBut hs (cne y c e)⟩
    · obtain ⟨e,n,ne,nf,d⟩:=I.pin p hp
      exact ⟨(hs.2 p.1 ne).trans e,n,ne,nf,d⟩
  · have hfn:X.fn x = true:=by
      rcases hf with z | z
      · exact z
      · rw [z] at hk; cases hk
    obtain ⟨c,hc⟩:=I.ok.has x (.inl hk)
    obtain ⟨w',z⟩:=I.cell x c hc
    refine wpAny_storeName_cell I.ok.kind hk hc z (fun h' hc' hs => ?_)
    obtain ⟨oc,hoc,hocd⟩:=id z
    refine h { s with heap:=h' } ⟨I.ok,I.os,I.bare,⟨fun b o e n hb hx => ?_,fun b o e n hb hx => ?_,I.base.free,fun b o e hx => ?_,I.base.tups,I.base.frzs,I.base.tbls⟩,⟨m,hn.sameBut hs (Ne.symm (cne x c hc)),fun j y v' e1 e2 e3 => ?_⟩,fun y c' e => ?_,I.free,I.freeC,fun p hp => ?_,tracked ⟨oc,hoc,I.freeC x c hc⟩ hs,by simpa using I.len⟩ ⟨c,hs,.inr hc⟩
    · exact (hs.2 b (Nat.ne_of_lt (Nat.lt_of_lt_of_le (Heap.lt_size e) (I.ok.cab x c hfn hc)))).trans (I.base.keep b o e n hb hx)
    · obtain ⟨sl,e1⟩:=I.base.slot b o e n hb hx
      exact ⟨sl,(hs.2 b (Nat.ne_of_lt (Nat.lt_of_lt_of_le (Heap.lt_size e) (I.ok.cab x c hfn hc)))).trans e1⟩
    · obtain ⟨o',e1⟩:=I.base.there b o e hx
      exact ⟨o',(hs.2 b (Nat.ne_of_lt (Nat.lt_of_lt_of_le (Heap.lt_size e) (I.ok.cab x c hfn hc)))).trans e1⟩
    · by_cases hj:j = i
      · subst hj
        rw [hi] at e1; cases e1
        rw [List.getElem?_set_self hiσ] at e2
        cases e2
        exact ⟨u,r,.inr ⟨.inl hk,c,hc,hc'⟩⟩
      · rw [List.getElem?_set_ne (Ne.symm hj)] at e2
        obtain ⟨u',r',q⟩:=hl j y v' e1 e2 e3
        refine ⟨u',r',?_⟩
        rcases q with q | ⟨k,c',e,z'⟩
        · exact .inl q
        · refine .inr ⟨k,c',e,z'.sameBut hs ?_⟩
          rintro rfl
          exact hj (nodup_ix hN e1 (I.ok.inj _ _ _ e hc ▸ hi))
    · by_cases hcc:c' = c
      · subst hcc; exact ⟨_,hc'⟩
      · obtain ⟨w2,z2⟩:=I.cell y c' e
        exact ⟨w2,z2.sameBut hs hcc⟩
    · obtain ⟨e,n,ne,nf,d⟩:=I.pin p hp
      refine ⟨(hs.2 p.1 ?_).trans e,n,ne,nf,d⟩
      intro q
      rw [q,hoc] at e
      have q':oc = p.2:=Option.some.inj e
      exact d w' (by rw [← q']; exact hocd)
theorem store_ok {M:Model} {A:Around} {E:Value→Shared→Prop} {i:Nat} {x:Str} {v:V} {u:Value} {Q:Unit→Shared→Prop} (I:Inv X pins σ H s) (hN:X.N.Nodup) (hi:X.N[i]? = some x) (hx:Loc X.env.scope x) (r:RelV v u)
    (h:∀ s',Inv X pins (σ.set i (some v)) H s'→Q () s') (hf:X.fn x = true ∨ X.env.scope.names.lookup x = some .local:=by first | exact .inl rfl | exact .inr rfl | assumption):wpAny M A (storeName X.env x u) Q E s :=
  store_ok2 I hN hi hx r (fun s' I' _ => h s' I') hf
theorem Inv.call' {s':Shared} {ch:List Addr} (I:Inv X pins σ H s) (ho:s'.os = s.os) (u:Un (frs X.stack) ch H H' s.heap s'.heap) (hok:HOk X.prog X.w H' s'.heap) (hg:AllBare s'.gens)
    (hch:∀ b ∈ ch,(b ∈ X.ex ∨ X.s₀.heap.objs.size ≤ b)∧b ≠ X.env.locals∧(∀ x c,X.env.cells.lookup x = some c→c ≠ b)∧∀ p ∈ X.pn ++ pins,p.1 ≠ b):Inv X pins σ H' s':=by
  obtain ⟨h',g',d',t',o'⟩:=s'
  have e:o' = s.os:=ho
  subst e
  exact I.call (g':=g') (t':=t') (d':=d') u hok hg hch
end

noncomputable abbrev XK:=Value→Option Addr→Hp→Prop
noncomputable abbrev St:=List (Option V)
noncomputable abbrev VK:=V→Hp→Prop
noncomputable abbrev TE:=St→Hp→VK→Prop
noncomputable abbrev TT:=St→Hp→(Bool→Hp→Prop)→Prop
noncomputable abbrev TA:=St→Hp→(List V→Hp→Prop)→Prop
structure Ends where
  nx:St→Hp→Prop
  rt:VK
  bk:St→Hp→Prop:=fun _ _ => False
  ct:St→Hp→Prop:=fun _ _ => False
noncomputable abbrev TS:=Ends→St→Hp→Prop

inductive NP (X:Cx) (pins:List (Addr × Obj)) (Q:St→Hp→Prop) (s':Shared):Prop
  | mk (σ':St) (H':Hp) (h0:Inv X pins σ' H' s') (h1:Q σ' H')
inductive RP (X:Cx) (pins:List (Addr × Obj)) (Q:VK) (u:Value) (s':Shared):Prop
  | mk (v:V) (σ':St) (H':Hp) (h0:Inv X pins σ' H' s') (h1:RelV v u) (h2:Q v H')
inductive EP (X:Cx) (pins:List (Addr × Obj)) (σ:St) (Q:VK) (u:Value) (s':Shared):Prop
  | mk (v:V) (H':Hp) (h0:Inv X pins σ H' s') (h1:RelV v u) (h2:Q v H')
inductive TP (X:Cx) (pins:List (Addr × Obj)) (σ:St) (Q:Bool→Hp→Prop) (b:Bool) (s':Shared):Prop
  | mk (H':Hp) (h0:Inv X pins σ H' s') (h1:Q b H')
inductive AP (X:Cx) (pins:List (Addr × Obj)) (σ:St) (Q:List V→Hp→Prop) (us:List Value) (s':Shared):Prop
  | mk (vs:List V) (H':Hp) (h0:Inv X pins σ H' s') (h1:Vals vs us) (h2:Q vs H')
noncomputable def SP (X:Cx) (pins:List (Addr × Obj)) (D:Ends) (f:Flow) (s':Shared):Prop :=
  match f with
  | .next => NP X pins D.nx s'
  | .brk => NP X pins D.bk s'
  | .cont => NP X pins D.ct s'
  | .ret u => RP X pins D.rt u s'

noncomputable def PE (X:Cx) (e:Expr) (t:TE):Prop :=
  ∀ (pins:List (Addr × Obj)) (s:Shared) (σ:St) (H:Hp) (Q:VK),Inv X pins σ H s→t σ H Q→wpAny (model X.prog X.w) X.A (eval e X.env) (EP X pins σ Q) X.xe s
noncomputable def PT (X:Cx) (e:Expr) (t:TT):Prop :=
  ∀ (pins:List (Addr × Obj)) (s:Shared) (σ:St) (H:Hp) (Q:Bool→Hp→Prop),Inv X pins σ H s→t σ H Q→wpAny (model X.prog X.w) X.A (isTrue e X.env (eval e X.env)) (TP X pins σ Q) X.xe s
noncomputable def PW (X:Cx) (e:Expr) (t:TT):Prop :=
  ∀ (whole:Sem Value) (pins:List (Addr × Obj)) (s:Shared) (σ:St) (H:Hp) (Q:Bool→Hp→Prop),Inv X pins σ H s→t σ H Q→wpAny (model X.prog X.w) X.A (isTrue e X.env whole) (TP X pins σ Q) X.xe s
theorem PW.pt {X:Cx} {e:Expr} {t:TT} (h:PW X e t):PT X e t:=h _
noncomputable def PA (X:Cx) (es:List Expr) (t:TA):Prop :=
  ∀ (pos:Pos) (pins:List (Addr × Obj)) (s:Shared) (σ:St) (H:Hp) (Q:List V→Hp→Prop),Inv X pins σ H s→t σ H Q→wpAny (model X.prog X.w) X.A (spliced (backTo pos (starEach es X.env))) (AP X pins σ Q) X.xe s
noncomputable def PS (X:Cx) (st:Stmt) (t:TS):Prop :=
  ∀ (pins:List (Addr × Obj)) (s:Shared) (σ:St) (H:Hp) (D:Ends),Inv X pins σ H s→t D σ H→wpAny (model X.prog X.w) X.A (exec st X.env) (SP X pins D) X.xe s
noncomputable def PSs (X:Cx) (st:List Stmt) (t:TS):Prop :=
  ∀ (pins:List (Addr × Obj)) (s:Shared) (σ:St) (H:Hp) (D:Ends),Inv X pins σ H s→t D σ H→wpAny (model X.prog X.w) X.A (execs st X.env) (SP X pins D) X.xe s
theorem thn {α:Type} {t:Sem α} {Q Q':α→Shared→Prop} {M:Model} {A:Around} {E:Value→Shared→Prop} {s:Shared} (h:wpAny M A t Q E s) (hQ:∀ a s,Q a s→Q' a s):wpAny M A t Q' E s:=wpAny_mono h hQ fun _ _ x => x
end L2

namespace L2
open PySem PySem.Spec PyProof.Rows
section
variable {X:Cx}

noncomputable def tVar (i:Nat):TE:=fun σ H Q => ∃ v,σ[i]? = some (some v)∧Q v H
noncomputable def tC (v:V):TE:=fun _ H Q => Q v H
theorem pe_var {i:Nat} {x:Str} {pos:Pos} (hN:X.N[i]? = some x) (hv:Vis X.env.scope x) (hd:(x == ("__debug__":Str)) = false:=by decide) (hcd:(x == ("__classdict__":Str)) = false:=by decide):PE X (.Name x pos) (tVar i):=by
  intro pins s σ H Q I h
  obtain ⟨v,e,h⟩:=h
  obtain ⟨m,hn,hl⟩:=I.loc
  obtain ⟨u,r,l⟩:=hl i x v hN e hv
  have fin:EP X pins σ Q u s:=⟨v,H,I,r,h⟩
  rcases l with ⟨hk,hm⟩ | ⟨hk,c,hc,hcell⟩
  · exact wpAny_Name (wpAny_loadName_local I.ok.kind hk hn hm fin) hd
  · rcases hk with hk | hk
    · exact wpAny_Name (wpAny_loadName_cell I.ok.kind hk hc hcell fin) hd
    · exact wpAny_Name (wpAny_loadName_free I.ok.kind hk hc hcell fin hcd) hd
theorem pe_int {i j pos}:PE X (.Constant (.int i) j pos) (tC (.int i)):=fun _ _ _ H _ I h => wpAny_Constant_int ⟨.int i,H,I.tok _,⟨_,rfl⟩,h⟩
theorem pe_bl {b j pos}:PE X (.Constant (.bool b) j pos) (tC (.bl b)):=fun _ _ _ H _ I h => Constant_bool ⟨.bl b,H,I,rfl,h⟩
theorem pe_non {j pos}:PE X (.Constant .none j pos) (tC .non):=fun _ _ _ H _ I h => Constant_none ⟨.non,H,I,rfl,h⟩
theorem pe_str {x j pos}:PE X (.Constant (.str x) j pos) (tC (.str x)):=fun _ _ _ H _ I h => Calls.Constant_str ⟨.str x,H,I.tok _,⟨_,rfl⟩,h⟩

noncomputable def Gl (X:Cx) (x:Str):Prop:=X.env.kindOf x = some .globalImplicit
theorem ld_glob {E:Value→Shared→Prop} {pins:List (Addr × Obj)} {s:Shared} {σ:St} {H:Hp} {x:Str} {u:Value} {pos:Pos} {Q:Value→Shared→Prop} (I:Inv X pins σ H s) (hg:Gl X x) (hm:X.mg x = some u) (h:Q u s)
    (hd:(x == ("__debug__":Str)) = false:=by decide):wpAny (model X.prog X.w) X.A (eval (.Name x pos) X.env) Q E s :=
  Calls.Name_function_global I.ok.kind hg (Calls.loadGlobal_global (by rw [I.ok.glob]; exact I.mod.glob.keeps I.bk) hm h) hd
theorem ld_blt {E:Value→Shared→Prop} {pins:List (Addr × Obj)} {s:Shared} {σ:St} {H:Hp} {x:Str} {u:Value} {pos:Pos} {Q:Value→Shared→Prop} (I:Inv X pins σ H s) (hg:Gl X x) (hm:X.mg x = none) (hv:bootBuiltins x = some u) (h:Q u s)
    (hn:x ≠ "__name__":=by decide) (hd:(x == ("__debug__":Str)) = false:=by decide):wpAny (model X.prog X.w) X.A (eval (.Name x pos) X.env) Q E s:=by
  obtain ⟨mb,h1,h2⟩:=I.mod.blt
  exact Calls.Name_function_global I.ok.kind hg (Calls.loadGlobal_builtin (by rw [I.ok.glob]; exact I.mod.glob.keeps I.bk) hm (by rw [I.ok.blt]; exact h1.keeps I.bk) ((h2 x hn).trans hv) h) hd
theorem pe_glob {x:Str} {v:V} {u:Value} {pos:Pos} (hg:Gl X x) (hm:X.mg x = some u) (r:RelV v u) (hd:(x == ("__debug__":Str)) = false:=by decide):PE X (.Name x pos) (tC v) :=
  fun _ _ _ H _ I h => ld_glob I hg hm ⟨v,H,I,r,h⟩ hd
theorem pe_bltn {x:Str} {v:V} {u:Value} {pos:Pos} (hg:Gl X x) (hm:X.mg x = none) (hv:bootBuiltins x = some u) (r:RelV v u) (hn:x ≠ "__name__":=by decide) (hd:(x == ("__debug__":Str)) = false:=by decide):PE X (.Name x pos) (tC v) :=
  fun _ _ _ H _ I h => ld_blt I hg hm hv ⟨v,H,I,r,h⟩ hn hd

variable {a b:Expr} {ta tb:TE} {pos:Pos}
variable {tA tB':TT} {rest:List Expr}
noncomputable def tAnd (t u:TT):TT:=fun σ H Q => t σ H fun c H1 => if c = true then u σ H1 Q else Q false H1
noncomputable def tOr (t u:TT):TT:=fun σ H Q => t σ H fun c H1 => if c = true then Q true H1 else u σ H1 Q
noncomputable def tNot (t:TT):TT:=fun σ H Q => t σ H fun c H1 => Q (!c) H1
theorem pw_and1 (ha:PT X a tA):PW X (.BoolOp .And [a] pos) tA:=by
  intro wh pins s σ H Q I h
  refine isTrue_and (thn (ha pins s σ H Q I h) fun c s1 e => ?_)
  cases c with
  | true => exact isTrue_and_nil e
  | false => exact e
theorem pw_or1 (ha:PT X a tA):PW X (.BoolOp .Or [a] pos) tA:=by
  intro wh pins s σ H Q I h
  refine isTrue_or (thn (ha pins s σ H Q I h) fun c s1 e => ?_)
  cases c with
  | false => exact isTrue_or_nil e
  | true => exact e
theorem pw_and (ha:PT X a tA) (hb:PW X (.BoolOp .And (b :: rest) pos) tB'):PW X (.BoolOp .And (a :: b :: rest) pos) (tAnd tA tB'):=by
  intro wh pins s σ H Q I h
  refine isTrue_and (thn (ha pins s σ H _ I h) fun c s1 x__2 => ?_)
  obtain ⟨H1,I1,q1⟩:=x__2
  cases c with
  | true => exact hb wh pins s1 σ H1 Q I1 q1
  | false => exact ⟨H1,I1,q1⟩
theorem pw_or (ha:PT X a tA) (hb:PW X (.BoolOp .Or (b :: rest) pos) tB'):PW X (.BoolOp .Or (a :: b :: rest) pos) (tOr tA tB'):=by
  intro wh pins s σ H Q I h
  refine isTrue_or (thn (ha pins s σ H _ I h) fun c s1 x__3 => ?_)
  obtain ⟨H1,I1,q1⟩:=x__3
  cases c with
  | true => exact ⟨H1,I1,q1⟩
  | false => exact hb wh pins s1 σ H1 Q I1 q1
theorem pt_not (ha:PT X a tA):PT X (.UnaryOp .Not a pos) (tNot tA):=by
  intro pins s σ H Q I h
  exact isTrue_not (thn (ha pins s σ H (fun c H1 => Q (!c) H1) I h) fun c s1 x__4 => (by obtain ⟨H1,I1,q1⟩:=x__4; exact ⟨H1,I1,q1⟩))
noncomputable def tAndV (ta tb:TE):TE:=fun σ H Q => ta σ H fun x H1 => ∃ c,x = .bl c∧if c = true then tb σ H1 Q else Q (.bl false) H1
noncomputable def tOrV (ta tb:TE):TE:=fun σ H Q => ta σ H fun x H1 => ∃ c,x = .bl c∧if c = true then Q (.bl true) H1 else tb σ H1 Q
noncomputable def tNotV (ta:TE):TE:=fun σ H Q => ta σ H fun x H1 => ∃ c,x = .bl c∧Q (.bl (!c)) H1
theorem pe_one {op} {t:TE} (h:PE X a t):PE X (.BoolOp op [a] pos) t:=fun pins s σ H Q I hw => BoolOp_one (h pins s σ H Q I hw)
theorem pe_and (ha:PE X a ta) (hb:PE X (.BoolOp .And (b :: rest) pos) tb):PE X (.BoolOp .And (a :: b :: rest) pos) (tAndV ta tb):=by
  intro pins s σ H Q I h
  refine BoolOp_and (thn (ha pins s σ H _ I h) fun v s1 x__5 => ?_)
  obtain ⟨x,H1,I1,r1,q1⟩:=x__5
  obtain ⟨c,rfl,q1⟩:=q1
  cases r1
  refine wpAny_truthy_bool ?_
  cases c with
  | true => exact hb pins s1 σ H1 Q I1 q1
  | false => exact ⟨.bl false,H1,I1,rfl,q1⟩
theorem pe_or (ha:PE X a ta) (hb:PE X (.BoolOp .Or (b :: rest) pos) tb):PE X (.BoolOp .Or (a :: b :: rest) pos) (tOrV ta tb):=by
  intro pins s σ H Q I h
  refine BoolOp_or (thn (ha pins s σ H _ I h) fun v s1 x__6 => ?_)
  obtain ⟨x,H1,I1,r1,q1⟩:=x__6
  obtain ⟨c,rfl,q1⟩:=q1
  cases r1
  refine wpAny_truthy_bool ?_
  cases c with
  | false => exact hb pins s1 σ H1 Q I1 q1
  | true => exact ⟨.bl true,H1,I1,rfl,q1⟩
theorem pe_not (ha:PE X a ta):PE X (.UnaryOp .Not a pos) (tNotV ta):=by
  intro pins s σ H Q I h
  refine UnaryOp_ (thn (ha pins s σ H _ I h) fun v s1 x__7 => ?_)
  obtain ⟨x,H1,I1,r1,q1⟩:=x__7
  obtain ⟨c,rfl,q1⟩:=q1
  cases r1
  exact not_of (wpAny_truthy_bool ⟨.bl (!c),H1,I1,rfl,q1⟩)
end
end L2

namespace L2
open PySem PySem.Spec PyProof.Rows

noncomputable def SqL (K:PySem.W.Frag) (H:Hp) (a:Addr) (xs:List V):Prop :=
  Rd H a (.lst xs) ∨
    ∃ (o:Obj) (its:Array Value) (n:Nat),K.lookup a = some o∧o.cls = .type "list"∧o.dict = none∧o.data = .seq its n∧its.size ≤ sizeLine∧Vals xs its.toList
noncomputable def SqT (K:PySem.W.Frag) (H:Hp) (a:Addr) (xs:List V):Prop :=
  Rd H a (.tup xs) ∨
    ∃ (o:Obj) (its:Array Value) (n:Nat),K.lookup a = some o∧o.cls = .type "tuple"∧o.data = .seq its n∧its.size ≤ sizeLine∧Vals xs its.toList
noncomputable def absV:Value→Option V
  | .none => some .non
  | .bool b => some (.bl b)
  | .int i _ => some (.int i)
  | .str x _ => some (.str x)
  | .bytes b _ => some (.byt b)
  | .float b _ => some (.flt b)
  | .ref a => some (.ref a)
  | .type n => some (.ty n)
  | _ => none
theorem RelV.abs {x:V} {u:Value} (r:RelV x u):absV u = some x:=by
  cases x with
  | non => cases r; rfl
  | bl _ => cases r; rfl
  | int _ => obtain ⟨t,rfl⟩:=r; rfl
  | str _ => obtain ⟨t,rfl⟩:=r; rfl
  | byt _ => obtain ⟨t,rfl⟩:=r; rfl
  | flt _ => obtain ⟨t,rfl⟩:=r; rfl
  | ref _ => cases r; rfl
  | ty _ => cases r; rfl
theorem RelV.inj {x y:V} {u:Value} (r:RelV x u) (q:RelV y u):x = y:=Option.some.inj (r.abs.symm.trans q.abs)
theorem Vals.inj {xs ys:List V} {us:List Value} (h:Vals xs us) (g:Vals ys us):xs = ys:=by
  induction h generalizing ys with
  | nil => cases g; rfl
  | cons r t ih =>
    cases g with
    | cons r' t' => rw [r.inj r',ih t']
section
variable {X:Cx} {pins:List (Addr × Obj)} {σ:St} {H:Hp} {s:Shared} {a:Addr} {xs ys:List V}
theorem SqL.of {K:PySem.W.Frag} (h:H a = some (.lst xs)):SqL K H a xs:=.inl (.inl h)
theorem SqT.of {K:PySem.W.Frag} (h:H a = some (.tup xs)):SqT K H a xs:=.inl (.inl h)
theorem Inv.list (I:Inv X pins σ H s) (h:SqL X.K H a xs):∃ its:List Value,Vals xs its∧PlainL s.heap a its.toArray∧xs.length ≤ sizeLine:=by
  rcases h with h | ⟨o,its,n,hk,hc,hd,hs,hz,r⟩
  · obtain ⟨z,its,n,r,e⟩:=h.ok I.hok
    exact ⟨its,r,⟨_,n,e,rfl,rfl,rfl⟩,z⟩
  · refine ⟨its.toList,r,⟨o,n,I.kIn a o hk,hc,hd,by simpa using hs⟩,?_⟩
    have e:=r.length
    simp only [Array.length_toList] at e
    omega
theorem Inv.tuple (I:Inv X pins σ H s) (h:SqT X.K H a xs):∃ its:List Value,Vals xs its∧IsTup s.heap a its.toArray∧xs.length ≤ sizeLine:=by
  rcases h with h | ⟨o,its,n,hk,hc,hs,hz,r⟩
  · obtain ⟨z,its,r,p⟩:=h.ok I.hok
    exact ⟨its,r,p,z⟩
  · refine ⟨its.toList,r,⟨o,I.kIn a o hk,hc,n,by simpa using hs⟩,?_⟩
    have e:=r.length
    simp only [Array.length_toList] at e
    omega
theorem Inv.list_inj (I:Inv X pins σ H s) (h:SqL X.K H a xs) (h':SqL X.K H a ys):xs = ys:=by
  obtain ⟨its,r,⟨o,n,e,_,_,d⟩,_⟩:=I.list h
  obtain ⟨its',r',⟨o',n',e',_,_,d'⟩,_⟩:=I.list h'
  rw [e] at e'; cases e'
  rw [d] at d'
  injection d' with d1 _
  have:its = its':=by simpa using congrArg Array.toList d1
  subst this
  exact r.inj r'
theorem Inv.tuple_inj (I:Inv X pins σ H s) (h:SqT X.K H a xs) (h':SqT X.K H a ys):xs = ys:=by
  obtain ⟨its,r,⟨o,e,_,n,d⟩,_⟩:=I.tuple h
  obtain ⟨its',r',⟨o',e',_,n',d'⟩,_⟩:=I.tuple h'
  rw [e] at e'; cases e'
  rw [d] at d'
  injection d' with d1 _
  have:its = its':=by simpa using congrArg Array.toList d1
  subst this
  exact r.inj r'
end

noncomputable abbrev Cx.wish (X:Cx) (E:Value→Shared→Prop):Cx:={ X with xe:=E }
noncomputable abbrev Cx.nox (X:Cx):Cx:=X.wish fun _ _ => False
theorem Cx.Ok.wish {X:Cx} (ok:X.Ok) (E:Value→Shared→Prop):(X.wish E).Ok :=
  ⟨ok.mod,ok.kind,ok.glob,ok.blt,ok.above,ok.inj,ok.has,ok.cab,ok.hd,ok.frames,ok.stk,ok.exf,ok.bs,ok.bsz,ok.noex,ok.exfs,ok.funs,ok.frf⟩
theorem Cx.Ok.unwish {X:Cx} {E:Value→Shared→Prop} (ok:(X.wish E).Ok):X.Ok :=
  ⟨ok.mod,ok.kind,ok.glob,ok.blt,ok.above,ok.inj,ok.has,ok.cab,ok.hd,ok.frames,ok.stk,ok.exf,ok.bs,ok.bsz,ok.noex,ok.exfs,ok.funs,ok.frf⟩
section
variable {X:Cx} {pins:List (Addr × Obj)} {σ:St} {H:Hp} {s:Shared} {E:Value→Shared→Prop}
theorem Inv.wish (I:Inv X pins σ H s) (E:Value→Shared→Prop):Inv (X.wish E) pins σ H s:=⟨I.ok.wish E,I.os,I.bare,I.base,I.loc,I.cell,I.free,I.freeC,I.pin,I.hok,I.len⟩
theorem Inv.unwish (I:Inv (X.wish E) pins σ H s):Inv X pins σ H s:=⟨I.ok.unwish,I.os,I.bare,I.base,I.loc,I.cell,I.free,I.freeC,I.pin,I.hok,I.len⟩
theorem SP.unwish {D:Ends} {f:Flow} {s':Shared} (h:SP (X.wish E) pins D f s'):SP X pins D f s':=by
  cases f with
  | next => obtain ⟨σ',H',I,q⟩:=h; exact ⟨σ',H',I.unwish,q⟩
  | brk => obtain ⟨σ',H',I,q⟩:=h; exact ⟨σ',H',I.unwish,q⟩
  | cont => obtain ⟨σ',H',I,q⟩:=h; exact ⟨σ',H',I.unwish,q⟩
  | ret u => obtain ⟨v,σ',H',I,r,q⟩:=h; exact ⟨v,σ',H',I.unwish,r,q⟩
theorem PE.nox {e:Expr} {t:TE} (h:PE X.nox e t):PE X e t:=fun pins s σ H Q I hw =>
  wpAny_mono (h pins s σ H Q (I.wish _) hw) (fun _ _ x__8 => (by obtain ⟨v,H',I',r,q⟩:=x__8; exact ⟨v,H',I'.unwish,r,q⟩)) fun _ _ z => False.elim z
theorem PT.nox {e:Expr} {t:TT} (h:PT X.nox e t):PT X e t:=fun pins s σ H Q I hw =>
  wpAny_mono (h pins s σ H Q (I.wish _) hw) (fun _ _ x__9 => (by obtain ⟨H',I',q⟩:=x__9; exact ⟨H',I'.unwish,q⟩)) fun _ _ z => False.elim z
theorem PSs.nox {st:List Stmt} {t:TS} (h:PSs X.nox st t):PSs X st t:=fun pins s σ H D I hw =>
  wpAny_mono (h pins s σ H D (I.wish _) hw) (fun _ _ q => q.unwish) fun _ _ z => False.elim z
end

section
variable {X:Cx} {st:Stmt} {rest:List Stmt} {t u:TS} {e:Expr} {te:TE} {pos:Pos}
noncomputable def tNext:TS:=fun D σ H => D.nx σ H
noncomputable def tSeq (t u:TS):TS:=fun D σ H => t { D with nx:=u D } σ H
theorem pss_nil:PSs X [] tNext:=fun _ _ σ H _ I h => wpAny_execs_nil ⟨σ,H,I,h⟩
theorem pss_cons (h1:PS X st t) (h2:PSs X rest u):PSs X (st :: rest) (tSeq t u):=by
  intro pins s σ H D I h
  refine wpAny_execs_cons (thn (h1 pins s σ H { D with nx:=u D } I h) fun f s1 q => ?_)
  cases f with
  | next =>
    obtain ⟨σ',H',I',q⟩:=q
    exact h2 pins s1 σ' H' D I' q
  | ret v => exact q
  | brk => exact q
  | cont => exact q
theorem pss_one (h1:PS X st t):PSs X [st] t:=by
  intro pins s σ H D I h
  refine wpAny_execs_cons (thn (h1 pins s σ H D I h) fun f s1 q => ?_)
  cases f with
  | next => exact wpAny_execs_nil q
  | ret v => exact q
  | brk => exact q
  | cont => exact q
theorem Inv.quiet {pins:List (Addr × Obj)} {σ:St} {H:Hp} {s:Shared} (I:Inv X pins σ H s):interactive X.env = false:=by simp [interactive,I.ok.kind]
noncomputable def tDrop (te:TE):TS:=fun D σ H => te σ H fun _ H1 => D.nx σ H1
theorem ps_expr (he:PE X e te) (hs:swapsWith e none pos.line X.env = pure false:=by rfl):PS X (.Expr e pos) (tDrop te):=by
  intro pins s σ H D I h
  exact wpAny_Expr_any (thn (he pins s σ H _ I h) fun v s1 x__10 => (by obtain ⟨x,H1,I1,r1,q1⟩:=x__10; exact ⟨σ,H1,I1,q1⟩)) I.quiet hs
noncomputable def tRet (te:TE):TS:=fun D σ H => te σ H D.rt
theorem ps_ret (he:PE X e te):PS X (.Return (some e) pos) (tRet te):=by
  intro pins s σ H D I h
  exact wpAny_Return_some (thn (he pins s σ H _ I h) fun v s1 x__11 => (by obtain ⟨x,H1,I1,r1,q1⟩:=x__11; exact ⟨x,σ,H1,I1,r1,q1⟩))
noncomputable def tIfS (c:TT) (t u:TS):TS:=fun D σ H => c σ H fun b H1 => if b = true then t D σ H1 else u D σ H1
theorem ps_if {c:Expr} {a b:List Stmt} {tc:TT} (hc:PT X c tc) (ha:PSs X a t) (hb:PSs X b u):PS X (.If c a b pos) (tIfS tc t u):=by
  intro pins s σ H D I h
  refine wpAny_If (thn (hc pins s σ H _ I h) fun d s1 x__12 => ?_)
  obtain ⟨H1,I1,q1⟩:=x__12
  cases d with
  | true => exact ha pins s1 σ H1 D I1 q1
  | false => exact hb pins s1 σ H1 D I1 q1
end

noncomputable abbrev TG:=V→St→Hp→(St→Hp→Prop)→Prop
noncomputable abbrev TGs:=List V→St→Hp→(St→Hp→Prop)→Prop
noncomputable def PG (X:Cx) (target:Expr) (t:TG):Prop :=
  ∀ (pins:List (Addr × Obj)) (s:Shared) (σ:St) (H:Hp) (v:V) (u:Value) (Q:St→Hp→Prop),Inv X pins σ H s→RelV v u→t v σ H Q →
    wpAny (model X.prog X.w) X.A (assign target X.env u) (fun _ s' => NP X pins Q s') X.xe s
noncomputable def PGs (X:Cx) (ts:List Expr) (t:TGs):Prop :=
  ∀ (pins:List (Addr × Obj)) (s:Shared) (σ:St) (H:Hp) (vs:List V) (us:List Value) (Q:St→Hp→Prop),Inv X pins σ H s→Vals vs us→t vs σ H Q →
    wpAny (model X.prog X.w) X.A (assignInOrder ((assignEach ts X.env).map (·.2)) us) (fun _ s' => NP X pins Q s') X.xe s
noncomputable abbrev TSet:=V→V→V→Hp→(Hp→Prop)→Prop
noncomputable def PSet (X:Cx) (t:TSet):Prop :=
  ∀ (pins:List (Addr × Obj)) (s:Shared) (σ:St) (H:Hp) (o i v:V) (ov iv u:Value) (Q:Hp→Prop),Inv X pins σ H s→RelV o ov→RelV i iv→RelV v u→t o i v H Q →
    wpAny (model X.prog X.w) X.A (setItem ov iv u) (fun _ s' => ∃ H',Inv X pins σ H' s'∧Q H') X.xe s
noncomputable abbrev TIp:=V→V→Hp→VK→Prop
noncomputable def PIp (X:Cx) (op:Operator) (t:TIp):Prop :=
  ∀ (pins:List (Addr × Obj)) (s:Shared) (σ:St) (H:Hp) (x y:V) (v u:Value) (Q:VK),Inv X pins σ H s→RelV x v→RelV y u→t x y H Q →
    wpAny (model X.prog X.w) X.A (inplaceOp op v u) (EP X pins σ Q) X.xe s
section
variable {X:Cx} {pos:Pos}
noncomputable def gName (i:Nat):TG:=fun v σ H Q => Q (σ.set i (some v)) H
theorem pg_name {i:Nat} {x:Str} (hN:X.N.Nodup) (hi:X.N[i]? = some x) (hx:Loc X.env.scope x) (hf:X.fn x = true ∨ X.env.scope.names.lookup x = some .local:=by first | exact .inl rfl | exact .inr rfl | assumption):PG X (.Name x pos) (gName i):=by
  intro pins s σ H v u Q I r h
  exact wpAny_assign_Name (store_ok I hN hi hx r (fun s' I' => ⟨_,H,I',h⟩) hf)
noncomputable def gNil:TGs:=fun vs σ H Q => vs = []∧Q σ H
noncomputable def gCons (t:TG) (u:TGs):TGs:=fun vs σ H Q => ∃ v r,vs = v :: r∧t v σ H fun σ' H' => u r σ' H' Q
theorem pgs_nil:PGs X [] gNil:=by
  intro pins s σ H vs us Q I r h
  obtain ⟨e,h⟩:=h
  subst e
  cases r
  exact assignInOrder_nil ⟨σ,H,I,h⟩
theorem pgs_cons {e:Expr} {es:List Expr} {t:TG} {u:TGs} (h1:PG X e t) (h2:PGs X es u)
    (hs:(assignEach (e :: es) X.env).map (·.2) = assign e X.env :: (assignEach es X.env).map (·.2):=by rfl):PGs X (e :: es) (gCons t u):=by
  intro pins s σ H vs us Q I r h
  obtain ⟨v,vr,e1,h⟩:=h
  subst e1
  cases r with
  | cons r rr =>
    rw [hs]
    refine assignInOrder_cons (thn (h1 pins s σ H _ _ _ I r h) fun _ s1 x__13 => ?_)
    obtain ⟨σ1,H1,I1,q1⟩:=x__13
    exact h2 pins s1 σ1 H1 _ _ Q I1 rr q1
noncomputable def gTup (K:PySem.W.Frag) (n:Nat) (t:TGs):TG:=fun v σ H Q => ∃ a xs,v = .ref a∧SqT K H a xs∧xs.length = n∧t xs σ H Q
theorem pg_tup {es:List Expr} {k:Nat} {t:TGs} {n:Nat} (hc:X.calm = true) (h:PGs X es t)
    (hn:(assignEach es X.env).length = n:=by rfl) (hst:(assignEach es X.env).findIdx? (·.1) = none:=by rfl):PG X (.Tuple es k pos) (gTup X.K n t):=by
  intro pins s σ H v u Q I r hw
  obtain ⟨a,xs,e1,hq,hl,hw⟩:=hw
  subst e1
  cases r
  obtain ⟨its,rv,ht,hz⟩:=I.tuple hq
  refine assign_Tuple_tuple (I.ok.hd hc) ht (by simp [hn,← hl,rv.length]) hst fun h' hx => ?_
  have I1:Inv X pins σ H { s with heap:=h' }:=I.kept (t':=s.toks) fun b o e => hx b o (Nat.ne_of_lt (Heap.lt_size e)) e
  exact h pins _ σ H xs _ Q I1 (by simpa using rv) hw
noncomputable def gSub (to ti:TE) (t:TSet):TG:=fun v σ H Q => to σ H fun o H1 => ti σ H1 fun i H2 => t o i v H2 fun H3 => Q σ H3
theorem pg_sub {o i:Expr} {to ti:TE} {t:TSet} (ho:PE X o to) (hi:PE X i ti) (hs:PSet X t)
    (ha:∀ v,assign (.Subscript o i pos) X.env v = (do
      let ov ← holding [v] (eval o X.env)
      let iv ← holding [v,ov] (eval i X.env)
      standAt pos
      holding [v,ov,iv] (setItem ov iv v)
      release [v,ov,iv] []):=by intro _; rfl):PG X (.Subscript o i pos) (gSub to ti t):=by
  intro pins s σ H v u Q I r h
  rw [ha]
  refine wpAny_bind (wpAny_holding (thn (ho pins s σ H _ I h) fun ov s1 x__14 => ?_))
  obtain ⟨x,H1,I1,r1,q1⟩:=x__14
  refine wpAny_bind (wpAny_holding (thn (hi pins s1 σ H1 _ I1 q1) fun iv s2 x__15 => ?_))
  obtain ⟨y,H2,I2,r2,q2⟩:=x__15
  refine wpAny_bind (wpAny_standAt (wpAny_bind (wpAny_holding (thn (hs pins s2 σ H2 x y v ov iv u _ I2 r1 r2 r q2) fun _ s3 x__16 => ?_))))
  obtain ⟨H3,I3,q3⟩:=x__16
  exact wpAny_release ⟨σ,H3,I3,q3⟩
noncomputable def tAsg (te:TE) (g:TG):TS:=fun D σ H => te σ H fun x H1 => g x σ H1 D.nx
theorem ps_asg {tg e:Expr} {te:TE} {g:TG} (he:PE X e te) (hg:PG X tg g) (hs:swapsWithSole [tg] e pos.line X.env = pure false:=by rfl) (hw:swappedStores [tg] e X.env = pure none:=by rfl)
    (h1:(assignEach [tg] X.env).map (·.2) = [assign tg X.env]:=by rfl):PS X (.Assign [tg] e pos) (tAsg te g):=by
  intro pins s σ H D I h
  refine wpAny_Assign_stores (thn (he pins s σ H _ I h) fun v s1 x__17 => ?_) hs hw
  obtain ⟨x,H1,I1,r1,q1⟩:=x__17
  rw [h1]
  exact thn (hg pins s1 σ H1 x v _ I1 r1 q1) fun _ s2 q => q
theorem ps_set {i:Nat} {x:Str} {e:Expr} {te:TE} {pos':Pos} (hN:X.N.Nodup) (hi:X.N[i]? = some x) (hx:Loc X.env.scope x) (he:PE X e te) (hs:swapsWith e (some (.Name x pos')) pos.line X.env = pure false:=by rfl) (hf:X.fn x = true ∨ X.env.scope.names.lookup x = some .local:=by first | exact .inl rfl | exact .inr rfl | assumption) :
    PS X (.Assign [.Name x pos'] e pos) (tAsg te (gName i)):=by
  intro pins s σ H D I h
  refine wpAny_Assign_Name (thn (he pins s σ H _ I h) fun v s1 x__18 => ?_) hs
  obtain ⟨y,H1,I1,r1,q1⟩:=x__18
  exact store_ok I1 hN hi hx r1 (fun s2 I2 => ⟨_,H1,I2,q1⟩) hf
noncomputable def tPar (i j:Nat) (ta:TA):TS:=fun D σ H => ta σ H fun vs H1 => ∃ v w,vs = [v,w]∧D.nx ((σ.set i (some v)).set j (some w)) H1
theorem ps_par {i j:Nat} {x y:Str} {a b:Expr} {ta:TA} {px py pt:Pos} {kt k2 pt2} (hc:X.calm = true) (hN:X.N.Nodup) (hi:X.N[i]? = some x) (hj:X.N[j]? = some y) (hij:i ≠ j)
    (hx:X.env.scope.names.lookup x = some .local) (hy:X.env.scope.names.lookup y = some .local) (ha:PA X [a,b] ta)
    (hw:swappedStores [.Tuple [.Name x px,.Name y py] kt pt] (.Tuple [a,b] k2 pt2) X.env = pure (some [x,y]))
    (hs:swapsWithSole [.Tuple [.Name x px,.Name y py] kt pt] (.Tuple [a,b] k2 pt2) pos.line X.env = pure false:=by rfl) :
    PS X (.Assign [.Tuple [.Name x px,.Name y py] kt pt] (.Tuple [a,b] k2 pt2) pos) (tPar i j ta):=by
  intro pins s σ H D I h
  rw [exec_Assign_arm]
  refine wpAny_bind (wpAny_standAt ?_)
  rw [hs]
  refine wpAny_bind (wpAny_pure ?_)
  rw [if_neg (by decide)]
  refine wpAny_bind (Tuple_ (thn (ha _ pins s σ H _ I h) fun us s1 x__19 => ?_))
  obtain ⟨vs,H1,I1,r1,q1⟩:=x__19
  obtain ⟨v,w,e1,q1⟩:=q1
  subst e1
  obtain ⟨u1,u2,rfl,rv,rw'⟩:∃ u1 u2,us = [u1,u2]∧RelV v u1∧RelV w u2:=by
    cases r1 with
    | cons p q =>
      cases q with
      | cons p' q' =>
        cases q'
        exact ⟨_,_,rfl,p,p'⟩
  refine wpAny_newObj_type ?_ (by show 2 ≤ sizeLine; decide)
  have I2:Inv X pins σ H1 { s1 with heap:=s1.heap.push { cls:=.type "tuple",data:=.seq [u1,u2].toArray } }:=I1.kept (t':=s1.toks) fun b o e => Heap.get?_push_of_some _ e
  rw [hw]
  refine wpAny_bind (wpAny_pure ?_)
  show wpAny (model X.prog X.w) X.A (do rule "assign.swapped-stores"; let items ← unpackItems (.ref s1.heap.objs.size) 2 none; assignInOrder [fun v => bindName X.env y v,fun v => bindName X.env x v] items.reverse; pure Flow.next) _ _ _
  refine wpAny_bind (wpAny_rule (wpAny_bind (unpackItems_tuple (items:=#[u1,u2]) (I.ok.hd hc) (IsTup.new s1.heap _) fun h' hx' => ?_)))
  have I3:=I2.kept (h':=h') (t':=s1.toks) fun b o e => hx' b o (Nat.ne_of_lt (Heap.lt_size e)) e
  show wpAny _ _ (assignInOrder [fun v => bindName X.env y v,fun v => bindName X.env x v] [u2,u1] >>= fun _ => pure Flow.next) _ _ _
  refine wpAny_bind (assignInOrder_cons (wpAny_bindName (store_ok I3 hN hj (.inl hy) rw' (fun s2 I4 => ?_) (.inr hy))))
  refine assignInOrder_cons (wpAny_bindName (store_ok I4 hN hi (.inl hx) rv (fun s3 I5 => assignInOrder_nil (wpAny_pure ?_)) (.inr hx)))
  rw [List.set_comm _ _ (Ne.symm hij)] at I5
  exact ⟨_,H1,I5,q1⟩
noncomputable def tAug (i:Nat) (te:TE) (ti:TIp):TS:=fun D σ H => ∃ x,σ[i]? = some (some x)∧te σ H fun y H1 => ti x y H1 fun z H2 => D.nx (σ.set i (some z)) H2
theorem ps_aug {i:Nat} {x:Str} {e:Expr} {te:TE} {op:Operator} {ti:TIp} {pos':Pos} (hN:X.N.Nodup) (hi:X.N[i]? = some x) (hx:Loc X.env.scope x) (he:PE X e te) (ho:PIp X op ti) (hf:X.fn x = true ∨ X.env.scope.names.lookup x = some .local:=by first | exact .inl rfl | exact .inr rfl | assumption) :
    PS X (.AugAssign (.Name x pos') op e pos) (tAug i te ti):=by
  intro pins s σ H D I h
  obtain ⟨v,e1,h⟩:=h
  obtain ⟨m,hn,hl⟩:=I.loc
  have vis:Vis X.env.scope x:=by rcases hx with k | k; exact .inl k; exact .inr (.inl k)
  obtain ⟨u,r,l⟩:=hl i x v hi e1 vis
  refine wpAny_AugAssign_Name ?_
  have go:wpAny (model X.prog X.w) X.A (eval e X.env) (fun w s₂ => wpAny (model X.prog X.w) X.A (inplaceOp op u w) (fun r s₃ => wpAny (model X.prog X.w) X.A (storeName X.env x r) (fun _ => SP X pins D .next) X.xe s₃) X.xe s₂) X.xe s:=by
    refine thn (he pins s σ H _ I h) fun w s1 x__20 => ?_
    obtain ⟨y,H1,I1,r1,q1⟩:=x__20
    refine thn (ho pins s1 σ H1 v y u w _ I1 r r1 q1) fun z s2 x__21 => ?_
    obtain ⟨zv,H2,I2,r2,q2⟩:=x__21
    exact store_ok I2 hN hi hx r2 (fun s3 I3 => ⟨_,H2,I3,q2⟩) hf
  rcases l with ⟨hk,hm⟩ | ⟨hk,c,hc,hcell⟩
  · exact wpAny_loadName_local I.ok.kind hk hn hm go
  · rcases hk with hk | hk
    · exact wpAny_loadName_cell I.ok.kind hk hc hcell go
    · rcases hx with k | k
      · have:X.env.scope.names.lookup x = some .free:=hk
        rw [k] at this; cases this
      · have:X.env.scope.names.lookup x = some .free:=hk
        rw [k] at this; cases this
end

section
variable {X:Cx} {pos:Pos}
noncomputable def tWhile (c:TT) (tb:TS):TS:=fun D σ H => ∃ W:Nat→St→Hp→Prop,(∃ m,W m σ H)∧∀ m σ H,W m σ H →
  c σ H fun b H1 => if b = true then ∃ N:St→Hp→Prop,(∀ σ' H',N σ' H'→∃ m',m' < m∧W m' σ' H')∧tb { D with nx:=N,ct:=N,bk:=D.nx } σ H1 else D.nx σ H1
theorem ps_while {c:Expr} {body:List Stmt} {tc:TT} {tb:TS} (hp:PassesOwn (model X.prog X.w) X.A X.env X.xe) (hc:PT X c tc) (hb:PSs X body tb):PS X (.While c body [] pos) (tWhile tc tb):=by
  intro pins s σ H D I h
  obtain ⟨W,⟨m0,w0⟩,turn⟩:=h
  refine wpAny_While (codeAny_whileLoop (fun n s' => NP X pins (W n) s') ?_ m0 ⟨σ,H,I,w0⟩)
  rintro n s1 ⟨σ1,H1,I1,w1⟩
  refine wpAny_passesOwn hp (thn (hc pins s1 σ1 H1 _ I1 (turn n σ1 H1 w1)) fun b s2 x__22 => ?_)
  obtain ⟨H2,I2,q2⟩:=x__22
  cases b with
  | true =>
    obtain ⟨N,hN,q2⟩:=q2
    rw [if_pos rfl]
    refine wpAny_passesOwn hp (thn (hb pins s2 σ1 H2 _ I2 q2) fun f s3 q3 => ?_)
    cases f with
    | next =>
      obtain ⟨σ3,H3,I3,n3⟩:=q3
      obtain ⟨m',hm,w3⟩:=hN σ3 H3 n3
      exact ⟨m',hm,σ3,H3,I3,w3⟩
    | cont =>
      obtain ⟨σ3,H3,I3,n3⟩:=q3
      obtain ⟨m',hm,w3⟩:=hN σ3 H3 n3
      exact ⟨m',hm,σ3,H3,I3,w3⟩
    | brk => exact q3
    | ret v => exact q3
  | false =>
    rw [if_neg Bool.false_ne_true]
    exact wpAny_execs_nil ⟨σ1,H2,I2,q2⟩
end

structure It where
  go:Nat→Hp→Prop
  yld:Nat→Hp→V→Hp→Prop
  stop:Nat→Hp→Prop
noncomputable def FpOk (X:Cx) (pins:List (Addr × Obj)) (H:Hp) (b:Addr):Prop :=
  H b = none∧b ≠ X.env.locals∧b ∉ X.fs∧(b ∈ X.ex ∨ X.s₀.heap.objs.size ≤ b)∧(∀ x c,X.env.cells.lookup x = some c→c ≠ b)∧∀ p ∈ X.pn ++ pins,p.1 ≠ b
theorem Inv.fpOk {X:Cx} {pins:List (Addr × Obj)} {σ:St} {H H':Hp} {s:Shared} {b:Addr} (I:Inv X pins σ H s) (hb:s.heap.objs.size ≤ b) (hn:H' b = none):FpOk X pins H' b:=by
  refine ⟨hn,Nat.ne_of_gt (Nat.lt_of_lt_of_le I.lt hb),I.nofs hb,.inr (Nat.le_trans I.sz hb),fun x c e z => ?_,fun p hp z => ?_⟩
  · obtain ⟨v,q⟩:=I.cell x c e
    exact absurd (Nat.lt_of_lt_of_le q.lt (by rw [z]; exact hb)) (Nat.lt_irrefl _)
  · exact absurd (Nat.lt_of_lt_of_le (Heap.lt_size (I.pin p hp).1) (by rw [z]; exact hb)) (Nat.lt_irrefl _)
inductive Yl (X:Cx) (pins:List (Addr × Obj)) (σ:St) (J:It) (i:Nat) (H:Hp) (fp:List Addr) (tn:Nat→Heap→Prop) (u:Value) (s2:Shared):Prop
  | mk (x:V) (H':Hp) (h0:Inv X pins σ H' s2) (h1:RelV x u) (h2:J.yld i H x H') (h3:tn (i + 1) s2.heap) (h4:∀ b ∈ fp,H' b = none)
inductive ForI (X:Cx) (pins:List (Addr × Obj)) (fp:List Addr) (tn:Nat→Heap→Prop) (W:Nat→Nat→St→Hp→Prop) (n:Nat) (s':Shared):Prop
  | mk (i:Nat) (σ':St) (H':Hp) (h0:Inv X pins σ' H' s') (h1:tn i s'.heap) (h2:∀ b ∈ fp,H' b = none) (h3:W i n σ' H')
structure Turn (P:Program) (w:World) (K:PySem.W.Frag) (tg:Expr) (J:It) (fp:List Addr) (it:Addr) (tn:Nat→Heap→Prop):Prop where
  mem:it ∈ fp
  obj:∀ i h,tn i h→∀ b ∈ fp,∃ o,h.get? b = some o∧∀ v,o.data ≠ .cell v
  keep:∀ i h h',tn i h→(∀ b ∈ fp,∀ o,h.get? b = some o→h'.get? b = some o)→tn i h'
  item:∀ (X:Cx),X.prog = P→X.w = w→X.K = K→X.calm = true→∀ (i:Nat) (pins:List (Addr × Obj)) (s:Shared) (σ:St) (H:Hp) (E:Value→Shared→Prop),Inv X pins σ H s→(∀ b ∈ fp,FpOk X pins H b)→tn i s.heap→J.go i H →
    wpAny (model P w) X.A (pyNext (.ref it)) (fun r s1 => ∃ u,r = some u ∧
      wpAny (model P w) X.A (letOwnedTupleGo tg (.ref it) u) (fun _ s2 => Yl X pins σ J i H fp tn u s2) E s1) E s
  done:∀ (X:Cx),X.prog = P→X.w = w→X.K = K→X.calm = true→∀ (i:Nat) (pins:List (Addr × Obj)) (s:Shared) (σ:St) (H:Hp) (E:Value→Shared→Prop),Inv X pins σ H s→(∀ b ∈ fp,FpOk X pins H b)→tn i s.heap→J.stop i H →
    wpAny (model P w) X.A (pyNext (.ref it)) (fun r s1 => r = none∧Inv X pins σ H s1) E s
  self:∀ (A:Around) (i:Nat) (s:Shared) (Q:Value→Shared→Prop) (E:Value→Shared→Prop),tn i s.heap→Q (.ref it) s→wpAny (model P w) A (pyIter (.ref it)) Q E s
noncomputable abbrev TI:=St→Hp→(It→Hp→Prop)→Prop
inductive PIE (X:Cx) (pins:List (Addr × Obj)) (σ:St) (tg:Expr) (R:It→Hp→Prop) (itv:Value) (s2:Shared):Prop
  | mk (it:Addr) (fp:List Addr) (tn:Nat→Heap→Prop) (J:It) (H':Hp) (h0:itv = .ref it) (h1:Inv X pins σ H' s2) (h2:Turn X.prog X.w X.K tg J fp it tn) (h3:tn 0 s2.heap) (h4:(∀ b ∈ fp,FpOk X pins H' b)) (h5:R J H')
noncomputable def PI (X:Cx) (tg iter:Expr) (wi:TI):Prop :=
  ∀ (pins:List (Addr × Obj)) (s:Shared) (σ:St) (H:Hp) (R:It→Hp→Prop),Inv X pins σ H s→wi σ H R →
    wpAny (model X.prog X.w) X.A (eval iter X.env) (fun v s1 => wpAny (model X.prog X.w) X.A (pyIter v) (PIE X pins σ tg R) X.xe s1) X.xe s

theorem go_of {M:Model} {A:Around} {E:Value→Shared→Prop} {s:Shared} {tg:Expr} {it:Addr} {u:Value} {o:Obj} {n:String} {vs:Array Value} {Q:Unit→Shared→Prop} (ho:s.heap.get? it = some o) (hc:o.cls = .type n) (hd:o.data = .fields vs)
    (hn:["enumerate","zip","dict_itemiterator","dict_reverseitemiterator","odict_iterator","itertools.zip_longest","itertools.pairwise"].contains n = false) (hQ:Q () s):wpAny M A (letOwnedTupleGo tg (.ref it) u) Q E s:=by
  unfold letOwnedTupleGo
  cases tg <;> first
    | exact wpAny_pure hQ
    | (cases u <;> first
        | exact wpAny_pure hQ
        | (refine wpAny_bind (wpAny_load ho ?_)
           rw [hc,hd]
           show wpAny M A (if (["enumerate","zip","dict_itemiterator","dict_reverseitemiterator","odict_iterator","itertools.zip_longest","itertools.pairwise"].contains n && vs[0]? == some (rawInt _)) = true then _ else _) Q E s
           rw [if_neg (by intro h; rw [hn,Bool.false_and] at h; cases h)]
           exact wpAny_pure hQ))

noncomputable def Itl (K:PySem.W.Frag) (a:Addr):It :=
  ⟨fun i H => ∃ xs x,SqL K H a xs∧xs[i]? = some x,fun i H x H' => H' = H∧∀ xs,SqL K H a xs→xs[i]? = some x,fun i H => ∃ xs,SqL K H a xs∧xs.length ≤ i⟩
noncomputable def Itt (K:PySem.W.Frag) (a:Addr):It :=
  ⟨fun i H => ∃ xs x,SqT K H a xs∧xs[i]? = some x,fun i H x H' => H' = H∧∀ xs,SqT K H a xs→xs[i]? = some x,fun i H => ∃ xs,SqT K H a xs∧xs.length ≤ i⟩
noncomputable def Itr (lo:Int) (n:Nat):It:=⟨fun i _ => i < n,fun i H x H' => H' = H∧x = .int (lo + i),fun i _ => n ≤ i⟩
theorem turn_list {P:Program} {w:World} {K:PySem.W.Frag} {tg:Expr} (a it:Addr):Turn P w K tg (Itl K a) [it] it (fun i h => h.IsListIter it a i) where
  mem:=by simp
  obj:=fun i h st b hb => by
    have e:b = it:=by simpa using hb
    subst e
    obtain ⟨o,e,c,d⟩:=st
    exact ⟨o,e,fun v z => by rw [d] at z; cases z⟩
  keep:=fun i h h' st k => st.at fun o e => k it (by simp) o e
  item:=by
    intro X hP hw hK hc i pins s σ H E I hf st hg
    subst hP hw hK
    obtain ⟨xs,x,hq,hx⟩:=hg
    obtain ⟨its,rv,p,hz⟩:=I.list hq
    obtain ⟨u,hu,ru⟩:=rv.get hx
    obtain ⟨f0,f1,f2,f3,f4,f5⟩:=hf it (by simp)
    refine wpAny_pyNext_list_item st p.isList (x:=u) (by simpa using hu) fun h' st' sb => ?_
    have I1:Inv X pins σ H { s with heap:=h' }:=I.turned (t':=s.toks) (fun b o hb e => (sb.2 b hb).trans e) f0 f1 f3 f4 f5
    obtain ⟨o,e,c,d⟩:=id st'
    exact ⟨u,rfl,go_of (s:={ s with heap:=h' }) e c d (by decide) ⟨x,H,I1,ru,⟨rfl,fun ys hy => by rw [I.list_inj hy hq]; exact hx⟩,st',fun b hb => (hf b hb).1⟩⟩
  done:=by
    intro X hP hw hK hc i pins s σ H E I hf st hg
    subst hP hw hK
    obtain ⟨xs,hq,hx⟩:=hg
    obtain ⟨its,rv,p,hz⟩:=I.list hq
    obtain ⟨f0,f1,f2,f3,f4,f5⟩:=hf it (by simp)
    have hl:=rv.length
    exact wpAny_pyNext_list_end (I.ok.hd hc) st p.isList (by simp; omega) fun h' eb => ⟨rfl,I.turned (t':=s.toks) (fun b o hb e => eb b o hb e) f0 f1 f3 f4 f5⟩
  self:=fun _ _ _ _ _ st h => wpAny_pyIter_listiter st h
theorem turn_tuple {P:Program} {w:World} {K:PySem.W.Frag} {tg:Expr} (a it:Addr):Turn P w K tg (Itt K a) [it] it (fun i h => h.IsTupleIter it a i) where
  mem:=by simp
  obj:=fun i h st b hb => by
    have e:b = it:=by simpa using hb
    subst e
    obtain ⟨o,e,c,d⟩:=st
    exact ⟨o,e,fun v z => by rw [d] at z; cases z⟩
  keep:=fun i h h' st k => st.at fun o e => k it (by simp) o e
  item:=by
    intro X hP hw hK hc i pins s σ H E I hf st hg
    subst hP hw hK
    obtain ⟨xs,x,hq,hx⟩:=hg
    obtain ⟨its,rv,p,hz⟩:=I.tuple hq
    obtain ⟨u,hu,ru⟩:=rv.get hx
    obtain ⟨f0,f1,f2,f3,f4,f5⟩:=hf it (by simp)
    refine wpAny_pyNext_tuple_item st (show s.heap.IsTuple a its.toArray from p) (x:=u) (by simpa using hu) fun h' st' sb => ?_
    have I1:Inv X pins σ H { s with heap:=h' }:=I.turned (t':=s.toks) (fun b o hb e => (sb.2 b hb).trans e) f0 f1 f3 f4 f5
    obtain ⟨o,e,c,d⟩:=id st'
    exact ⟨u,rfl,go_of (s:={ s with heap:=h' }) e c d (by decide) ⟨x,H,I1,ru,⟨rfl,fun ys hy => by rw [I.tuple_inj hy hq]; exact hx⟩,st',fun b hb => (hf b hb).1⟩⟩
  done:=by
    intro X hP hw hK hc i pins s σ H E I hf st hg
    subst hP hw hK
    obtain ⟨xs,hq,hx⟩:=hg
    obtain ⟨its,rv,p,hz⟩:=I.tuple hq
    obtain ⟨f0,f1,f2,f3,f4,f5⟩:=hf it (by simp)
    have hl:=rv.length
    exact wpAny_pyNext_tuple_end (I.ok.hd hc) st (show s.heap.IsTuple a its.toArray from p) (by simp; omega) fun h' eb => ⟨rfl,I.turned (t':=s.toks) (fun b o hb e => eb b o hb e) f0 f1 f3 f4 f5⟩
  self:=fun _ _ _ _ _ st h => wpAny_pyIter_tupleiter st h
theorem turn_range {P:Program} {w:World} {K:PySem.W.Frag} {tg:Expr} (it:Addr) (lo:Int) (n:Nat):Turn P w K tg (Itr lo n) [it] it (fun i h => IsRangeIter h it (lo + (i:Nat) * 1) ((n:Int) - (i:Nat)) 1) where
  mem:=by simp
  obj:=fun i h st b hb => by
    have e:b = it:=by simpa using hb
    subst e
    exact ⟨_,st,fun v z => by
      have z':Data.fields _ = Data.cell v:=z
      cases z'⟩
  keep:=fun i h h' st k => k it (by simp) _ st
  item:=by
    intro X hP hw hK hc i pins s σ H E I hf st hg
    subst hP hw hK
    obtain ⟨f0,f1,f2,f3,f4,f5⟩:=hf it (by simp)
    have W:=Walks.range (prog:=X.prog) (w:=X.w) (I.ok.hd hc) it lo 1 n
    refine W.item i s _ _ hg st fun v h' tk hv st' kk => ?_
    obtain ⟨t,rfl⟩:=hv
    have I1:Inv X pins σ H { s with heap:=h',toks:=tk }:=I.turned (fun b o hb e => kk b o (by simpa using hb) e) f0 f1 f3 f4 f5
    refine ⟨_,rfl,go_of (s:={ s with heap:=h',toks:=tk }) (n:="range_iterator") st' rfl rfl (by decide) ⟨.int (lo + i),H,I1,⟨t,?_⟩,⟨rfl,rfl⟩,st',fun b hb => (hf b hb).1⟩⟩
    rw [Int.mul_one]
  done:=by
    intro X hP hw hK hc i pins s σ H E I hf st hg
    subst hP hw hK
    obtain ⟨f0,f1,f2,f3,f4,f5⟩:=hf it (by simp)
    exact wpAny_pyNext_range_end (I.ok.hd hc) st (by have:n ≤ i:=hg; omega) fun h' eb => ⟨rfl,I.turned (t':=s.toks) (fun b o hb e => eb b o hb e) f0 f1 f3 f4 f5⟩
  self:=fun _ _ _ _ _ st h => wpAny_pyIter_rangeiter st h
end L2

namespace L2
open PySem PySem.Spec PyProof.Rows
section
variable {X:Cx} {tg:Expr}
theorem range_it {pins:List (Addr × Obj)} {σ:St} {H:Hp} {s:Shared} {R:It→Hp→Prop} {E:Value→Shared→Prop} {lo hi:Int} {t u v:Tok} {tk:Nat} (I:Inv X pins σ H s) (h1:-(2 ^ 62) ≤ lo) (h2:lo < 2 ^ 62) (h3:-(2 ^ 62) ≤ hi) (h4:hi < 2 ^ 62)
    (q:R (Itr lo (hi - lo).toNat) H):wpAny (model X.prog X.w) X.A (pyIter (.ref s.heap.objs.size)) (PIE X pins σ tg R) E { s with heap:=s.heap.push { cls:=.type "range",data:=.fields #[.int lo t,.int hi u,.int 1 v] },toks:=tk }:=by
  refine wpAny_pyIter_range (IsRange.new ..) (small_one h1 h2 h3 h4) ?_
  have I1:Inv X pins σ H { s with heap:=s.heap.push { cls:=.type "range",data:=.fields #[.int lo t,.int hi u,.int 1 v] },toks:=tk }:=I.kept fun b o e => Heap.get?_push_of_some _ e
  refine ⟨(s.heap.push { cls:=.type "range",data:=.fields #[.int lo t,.int hi u,.int 1 v] }).objs.size,[(s.heap.push { cls:=.type "range",data:=.fields #[.int lo t,.int hi u,.int 1 v] }).objs.size],_,_,H,rfl,
    I1.kept (t':=tk) fun b o e => Heap.get?_push_of_some _ e,turn_range _ lo (hi - lo).toNat,?_,fun b hb => ?_,q⟩
  · have e1:lo + ((0:Nat):Int) * 1 = lo:=by simp
    have e2:(((hi - lo).toNat:Nat):Int) - ((0:Nat):Int) = Builtin.Range.rangeSize lo hi 1:=by rw [rangeSize_one]; split <;> omega
    show IsRangeIter _ _ (lo + ((0:Nat):Int) * 1) ((((hi - lo).toNat:Nat):Int) - ((0:Nat):Int)) 1
    rw [e1,e2]
    exact Heap.get?_push_size _ rfl
  · have e:b = (s.heap.push { cls:=.type "range",data:=.fields #[.int lo t,.int hi u,.int 1 v] }).objs.size:=by simpa using hb
    subst e
    exact I1.fpOk (Nat.le_refl _) (I1.hok.fresh (Nat.le_refl _))
noncomputable def iRng1 (ta:TA):TI:=fun σ H R => ta σ H fun vs H1 => ∃ j:Int,vs = [.int j]∧-(2 ^ 62) ≤ j∧j < 2 ^ 62∧R (Itr 0 j.toNat) H1
noncomputable def iRng2 (ta:TA):TI:=fun σ H R => ta σ H fun vs H1 => ∃ i j:Int,vs = [.int i,.int j]∧(-(2 ^ 62) ≤ i∧i < 2 ^ 62∧-(2 ^ 62) ≤ j∧j < 2 ^ 62)∧R (Itr i (j - i).toNat) H1
theorem pi_range1 {a:Expr} {ta:TA} {p pos:Pos} (hg:Gl X "range") (hm:X.mg "range" = none) (ha:PA X [a] ta) (hs:starEach [a] X.env = [(false,eval a X.env)]:=by rfl):PI X tg (.Call (.Name "range" p) [a] [] pos) (iRng1 ta):=by
  intro pins s σ H R I h
  refine Call_ (ld_blt I hg hm boot_range (PyProof.Rows.callWith_type1 (thn (ha pos pins s σ H _ I h) fun us s1 x__23 => ?_) hs rfl))
  obtain ⟨vs,H1,I1,r1,q1⟩:=x__23
  obtain ⟨j,e,q1,q2,q⟩:=q1
  subst e
  cases r1 with
  | cons r rr =>
    cases rr
    obtain ⟨t,rfl⟩:=r
    exact call_range_1 (range_it I1 (by omega) (by omega) q1 q2 (by simpa using q))
theorem pi_range2 {a b:Expr} {ta:TA} {p pos:Pos} (hg:Gl X "range") (hm:X.mg "range" = none) (ha:PA X [a,b] ta) (hs:starEach [a,b] X.env = [(false,eval a X.env),(false,eval b X.env)]:=by rfl) (hs2:starEach [b] X.env = [(false,eval b X.env)]:=by rfl) :
    PI X tg (.Call (.Name "range" p) [a,b] [] pos) (iRng2 ta):=by
  intro pins s σ H R I h
  refine Call_ (ld_blt I hg hm boot_range (PyProof.Rows.callWith_type1 (thn (ha pos pins s σ H _ I h) fun us s1 x__24 => ?_) (by rw [hs,hs2]) (by rw [hs2]; rfl)))
  obtain ⟨vs,H1,I1,r1,q1⟩:=x__24
  obtain ⟨i,j,e,⟨q1,q2,q3,q4⟩,q⟩:=q1
  subst e
  cases r1 with
  | cons r rr =>
    cases rr with
    | cons r' rr =>
      cases rr
      obtain ⟨t,rfl⟩:=r
      obtain ⟨t',rfl⟩:=r'
      exact call_range_2 (range_it I1 q1 q2 q3 q4 q)

noncomputable def tFor (wi:TI) (g:TG) (tb:TS):TS:=fun D σ H => wi σ H fun J H1 => ∃ W:Nat→Nat→St→Hp→Prop,(∃ m,W 0 m σ H1)∧∀ i m σ H,W i m σ H →
  (J.stop i H∧D.nx σ H) ∨ (J.go i H∧∃ N:St→Hp→Prop,(∀ σ' H',N σ' H'→∃ m',m' < m∧W (i + 1) m' σ' H')∧∀ x H',J.yld i H x H'→g x σ H' fun σ2 H2 => tb { D with nx:=N,ct:=N,bk:=D.nx } σ2 H2)
noncomputable def pinsAt (fp:List Addr) (h:Heap):List (Addr × Obj):=fp.filterMap fun b => (h.get? b).map fun o => (b,o)
theorem mem_pinsAt {fp:List Addr} {h:Heap} {b:Addr} {o:Obj} (hb:b ∈ fp) (e:h.get? b = some o):(b,o) ∈ pinsAt fp h:=List.mem_filterMap.mpr ⟨b,hb,by rw [e]; rfl⟩
theorem of_pinsAt {fp:List Addr} {h:Heap} {p:Addr × Obj} (hp:p ∈ pinsAt fp h):p.1 ∈ fp∧h.get? p.1 = some p.2:=by
  obtain ⟨b,hb,e⟩:=List.mem_filterMap.mp hp
  cases q:h.get? b with
  | none => rw [q] at e; cases e
  | some o =>
    rw [q] at e
    have e':(b,o) = p:=Option.some.inj e
    subst e'
    exact ⟨hb,q⟩
theorem Inv.pinned {pins:List (Addr × Obj)} {σ:St} {H:Hp} {s:Shared} {fp:List Addr} (I:Inv X pins σ H s) (hf:∀ b ∈ fp,FpOk X pins H b) (ho:∀ b ∈ fp,∃ o,s.heap.get? b = some o∧∀ v,o.data ≠ .cell v):Inv X (pins ++ pinsAt fp s.heap) σ H s :=
  I.pins_of fun p hp => (List.mem_append.mp hp).elim (fun z => I.pin p (List.mem_append_right _ z)) fun z => by
    obtain ⟨hb,e⟩:=of_pinsAt z
    obtain ⟨f0,f1,f2,_⟩:=hf p.1 hb
    obtain ⟨o,e',d⟩:=ho p.1 hb
    rw [e] at e'; cases e'
    exact ⟨e,f0,f1,f2,d⟩
theorem Inv.unpinned {pins pl:List (Addr × Obj)} {σ:St} {H:Hp} {s:Shared} (I:Inv X (pins ++ pl) σ H s):Inv X pins σ H s:=I.pins_of fun p hp => I.pin p (List.mem_append_right _ (List.mem_append_left _ hp))
theorem ps_for {iter:Expr} {body:List Stmt} {wi:TI} {g:TG} {tb:TS} {pos:Pos} (hp:PassesOwn (model X.prog X.w) X.A X.env X.xe) (hc:X.calm = true) (hi:PI X tg iter wi) (hg:PG X tg g) (hb:PSs X body tb)
    (hs:∀ x,foldedSetIterable iter X.env x = pure x:=by intro _; rfl):PS X (.For tg iter body [] pos) (tFor wi g tb):=by
  intro pins s σ H D I h
  refine wpAny_For (thn (hi pins s σ H _ I h) fun v s1 h1 => thn h1 fun itv s2 h2 => ?_) hs
  obtain ⟨it,fp,tn,J,H2,e,I2,T,st2,f2,W,⟨m0,w0⟩,turn⟩:=h2
  subst e
  -- what stays true of the iterator's objects through the loop
  have stat:∀ {H':Hp},(∀ b ∈ fp,H' b = none)→∀ b ∈ fp,FpOk X pins H' b:=fun hn b hb => ⟨hn b hb,(f2 b hb).2⟩
  refine codeAny_forLoop_any (ForI X pins fp tn W) ?_ m0 ⟨0,σ,H2,I2,st2,fun b hb => (f2 b hb).1,w0⟩
  rintro n s3 ⟨i,σ3,H3,I3,st3,fr3,w3⟩
  rcases turn i n σ3 H3 w3 with ⟨stop,qn⟩ | ⟨go,N,hN,step⟩
  · refine wpAny_passesOwn hp (thn (T.done X rfl rfl rfl hc i pins s3 σ3 H3 X.xe I3 (stat fr3) st3 stop) fun r s4 ⟨hr,I4⟩ => ?_)
    subst hr
    exact wpAny_execs_nil ⟨σ3,H3,I4,qn⟩
  · refine wpAny_passesOwn hp (thn (T.item X rfl rfl rfl hc i pins s3 σ3 H3 X.xe I3 (stat fr3) st3 go) fun r s4 ⟨u,hr,h4⟩ => ?_)
    subst hr
    refine wpAny_passesOwn hp (thn h4 fun _ s5 x__27 => ?_)
    obtain ⟨x,H5,I5,r5,y5,st5,fr5⟩:=x__27
    have I5':=I5.pinned (stat fr5) (T.obj _ _ st5)
    refine wpAny_passesOwn hp (thn (hg _ s5 σ3 H5 x u _ I5' r5 (step x H5 y5)) fun _ s6 x__28 => ?_)
    obtain ⟨σ6,H6,I6,q6⟩:=x__28
    refine wpAny_passesOwn hp (thn (hb _ s6 σ6 H6 _ I6 q6) fun f s7 q7 => ?_)
    have again:∀ {σ7:St} {H7:Hp},Inv X (pins ++ pinsAt fp s5.heap) σ7 H7 s7→N σ7 H7→∃ m,m < n∧ForI X pins fp tn W m s7:=fun {σ7 H7} I7 n7 => by
      obtain ⟨m',hm,w7⟩:=hN σ7 H7 n7
      refine ⟨m',hm,i + 1,σ7,H7,I7.unpinned,T.keep _ _ _ st5 fun b hb o e => (I7.pin (b,o) (List.mem_append_right _ (List.mem_append_right _ (mem_pinsAt hb e)))).1,fun b hb => ?_,w7⟩
      obtain ⟨o,e,d⟩:=T.obj _ _ st5 b hb
      exact (I7.pin (b,o) (List.mem_append_right _ (List.mem_append_right _ (mem_pinsAt hb e)))).2.1
    cases f with
    | next => obtain ⟨σ7,H7,I7,n7⟩:=q7; exact again I7 n7
    | cont => obtain ⟨σ7,H7,I7,n7⟩:=q7; exact again I7 n7
    | brk => obtain ⟨σ7,H7,I7,q7⟩:=q7; exact ⟨σ7,H7,I7.unpinned,q7⟩
    | ret v => obtain ⟨x7,σ7,H7,I7,r7,q7⟩:=q7; exact ⟨x7,σ7,H7,I7.unpinned,r7,q7⟩
end

end L2

namespace L2
open PySem PySem.Spec PyProof.Rows

noncomputable abbrev R2:=V→V→Hp→VK→Prop
noncomputable def OpR (X:Cx) (f:Value→Value→Sem Value) (r:R2):Prop :=
  ∀ (pins:List (Addr × Obj)) (s:Shared) (σ:St) (H:Hp) (x y:V) (v u:Value) (Q:VK),Inv X pins σ H s→RelV x v→RelV y u→r x y H Q →
    wpAny (model X.prog X.w) X.A (f v u) (EP X pins σ Q) X.xe s
noncomputable def UnR (X:Cx) (f:Value→Sem Value) (r:V→Hp→VK→Prop):Prop :=
  ∀ (pins:List (Addr × Obj)) (s:Shared) (σ:St) (H:Hp) (x:V) (v:Value) (Q:VK),Inv X pins σ H s→RelV x v→r x H Q →
    wpAny (model X.prog X.w) X.A (f v) (EP X pins σ Q) X.xe s
noncomputable def CallR (X:Cx) (f:Value) (r:List V→Hp→VK→Prop):Prop :=
  ∀ (pins:List (Addr × Obj)) (s:Shared) (σ:St) (H:Hp) (xs:List V) (us:List Value) (Q:VK),Inv X pins σ H s→Vals xs us→r xs H Q →
    wpAny (model X.prog X.w) X.A (call f us) (EP X pins σ Q) X.xe s
noncomputable def TruR (X:Cx) (r:V→Hp→(Bool→Hp→Prop)→Prop):Prop :=
  ∀ (pins:List (Addr × Obj)) (s:Shared) (σ:St) (H:Hp) (x:V) (v:Value) (Q:Bool→Hp→Prop),Inv X pins σ H s→RelV x v→r x H Q →
    wpAny (model X.prog X.w) X.A (truthy v) (TP X pins σ Q) X.xe s

noncomputable def tOp (r:R2) (ta tb:TE):TE:=fun σ H Q => ta σ H fun x H1 => tb σ H1 fun y H2 => r x y H2 Q
noncomputable def tUn (r:V→Hp→VK→Prop) (ta:TE):TE:=fun σ H Q => ta σ H fun x H1 => r x H1 Q
noncomputable def rI (C:Int→Int→Prop) (g:Int→Int→V):R2:=fun x y H Q => ∃ i j,x = .int i∧y = .int j∧C i j∧Q (g i j) H
noncomputable def rI0 (g:Int→Int→V):R2:=fun x y H Q => ∃ i j,x = .int i∧y = .int j∧Q (g i j) H
noncomputable def rU (g:Int→V):V→Hp→VK→Prop:=fun x H Q => ∃ i,x = .int i∧Q (g i) H

section
variable {X:Cx} {a b c:Expr} {ta tb tc:TE} {pos:Pos}

theorem binT (ha:PE X a ta) (hb:PE X b tb) {pins:List (Addr × Obj)} {s:Shared} {σ:St} {H:Hp} {R:V→V→Hp→Prop} (I:Inv X pins σ H s)
    (h:ta σ H fun x H1 => tb σ H1 fun y H2 => R x y H2) {Q:Value→Shared→Prop} {f:Value→Value→Sem Value}
    (hf:∀ v u s2 x y H2,Inv X pins σ H2 s2→RelV x v→RelV y u→R x y H2→wpAny (model X.prog X.w) X.A (f v u) Q X.xe s2) :
    wpAny (model X.prog X.w) X.A (eval a X.env) (fun v s₁ => wpAny (model X.prog X.w) X.A (eval b X.env) (fun u s₂ => wpAny (model X.prog X.w) X.A (f v u) Q X.xe s₂) X.xe s₁) X.xe s:=by
  refine thn (ha pins s σ H _ I h) fun v s1 x__29 => ?_
  obtain ⟨x,H1,I1,r1,q1⟩:=x__29
  refine thn (hb pins s1 σ H1 _ I1 q1) fun u s2 x__30 => ?_
  obtain ⟨y,H2,I2,r2,q2⟩:=x__30
  exact hf v u s2 x y H2 I2 r1 r2 q2

theorem pe_op {op:Operator} {r:R2} (ho:OpR X (binaryOp op) r) (ha:PE X a ta) (hb:PE X b tb):PE X (.BinOp a op b pos) (tOp r ta tb):=by
  intro pins s σ H Q I h
  exact wpAny_BinOp (binT ha hb I h fun v u s2 x y H2 I2 rx ry q => ho pins s2 σ H2 x y v u Q I2 rx ry q)
theorem pe_un {op:UnaryOp} {r:V→Hp→VK→Prop} (ho:UnR X (unaryOp op) r) (ha:PE X a ta):PE X (.UnaryOp op a pos) (tUn r ta):=by
  intro pins s σ H Q I h
  exact UnaryOp_ (thn (ha pins s σ H _ I h) fun v s1 x__31 => (by obtain ⟨x,H1,I1,r1,q1⟩:=x__31; exact ho pins s1 σ H1 x v Q I1 r1 q1))
theorem opI {f:Value→Value→Sem Value} {C:Int→Int→Prop} {g:Int→Int→Int}
    (rule:∀ (i j:Int) (t u:Tok) (s:Shared) (Q:Value→Shared→Prop) (E:Value→Shared→Prop),C i j→Q (.int (g i j) s.toks) { s with toks:=s.toks + 1 }→wpAny (model X.prog X.w) X.A (f (.int i t) (.int j u)) Q E s) :
    OpR X f (rI C fun i j => .int (g i j)):=by
  intro pins s σ H x y v u Q I rx ry h
  obtain ⟨i,j,rfl,rfl,hc,q⟩:=h
  obtain ⟨t,rfl⟩:=rx
  obtain ⟨t',rfl⟩:=ry
  exact rule i j t t' s _ _ hc ⟨.int (g i j),H,I.tok _,⟨_,rfl⟩,q⟩
theorem opI0 {f:Value→Value→Sem Value} {g:Int→Int→Int}
    (rule:∀ (i j:Int) (t u:Tok) (s:Shared) (Q:Value→Shared→Prop) (E:Value→Shared→Prop),Q (.int (g i j) s.toks) { s with toks:=s.toks + 1 }→wpAny (model X.prog X.w) X.A (f (.int i t) (.int j u)) Q E s) :
    OpR X f (rI0 fun i j => .int (g i j)):=by
  intro pins s σ H x y v u Q I rx ry h
  obtain ⟨i,j,rfl,rfl,q⟩:=h
  obtain ⟨t,rfl⟩:=rx
  obtain ⟨t',rfl⟩:=ry
  exact rule i j t t' s _ _ ⟨.int (g i j),H,I.tok _,⟨_,rfl⟩,q⟩
theorem opB0 {f:Value→Value→Sem Value} {g:Int→Int→Bool}
    (rule:∀ (i j:Int) (t u:Tok) (s:Shared) (Q:Value→Shared→Prop) (E:Value→Shared→Prop),Q (.bool (g i j)) s→wpAny (model X.prog X.w) X.A (f (.int i t) (.int j u)) Q E s) :
    OpR X f (rI0 fun i j => .bl (g i j)):=by
  intro pins s σ H x y v u Q I rx ry h
  obtain ⟨i,j,rfl,rfl,q⟩:=h
  obtain ⟨t,rfl⟩:=rx
  obtain ⟨t',rfl⟩:=ry
  exact rule i j t t' s _ _ ⟨.bl (g i j),H,I,rfl,q⟩

noncomputable def CPow (i j:Int):Prop:=0 ≤ j∧j ≤ 1000000∧i.natAbs < 2 ^ 64
noncomputable def CMul (i j:Int):Prop:=(-(2 ^ 64) < i∧i < 2 ^ 64) ∨ (-(2 ^ 64) < j∧j < 2 ^ 64)
theorem CMul.ok {i j:Int} (h:CMul i j):IntMulOk i j:=by
  rcases h with ⟨h1,h2⟩ | ⟨h1,h2⟩
  · exact .of_left (intBits_le_64 h1 h2)
  · exact .of_right (intBits_le_64 h1 h2)
theorem op_add:OpR X (binaryOp .Add) (rI0 fun i j => .int (i + j)):=opI0 fun _ _ _ _ _ _ _ q => add_int q
theorem op_sub:OpR X (binaryOp .Sub) (rI0 fun i j => .int (i - j)):=opI0 fun _ _ _ _ _ _ _ q => sub_int q
theorem op_modN:OpR X (binaryOp .Mod) (rI (fun _ j => j ≠ 0) fun i j => .int (i.fmod j)):=opI fun _ _ _ _ _ _ _ hc q => mod_int' hc q
theorem op_pow:OpR X (binaryOp .Pow) (rI CPow fun i j => .int (i ^ j.toNat)):=opI fun _ _ _ _ _ _ _ hc q => pow_int_small hc.1 hc.2.1 hc.2.2 q
theorem iop_add:OpR X (inplaceOp .Add) (rI0 fun i j => .int (i + j)):=opI0 fun _ _ _ _ _ _ _ q => iadd_int q
theorem iop_sub:OpR X (inplaceOp .Sub) (rI0 fun i j => .int (i - j)):=opI0 fun _ _ _ _ _ _ _ q => isub_int q
theorem unI {f:Value→Sem Value} {g:Int→Int}
    (rule:∀ (i:Int) (t:Tok) (s:Shared) (Q:Value→Shared→Prop) (E:Value→Shared→Prop),Q (.int (g i) s.toks) { s with toks:=s.toks + 1 }→wpAny (model X.prog X.w) X.A (f (.int i t)) Q E s) :
    UnR X f (rU fun i => .int (g i)):=by
  intro pins s σ H x v Q I rx h
  obtain ⟨i,rfl,q⟩:=h
  obtain ⟨t,rfl⟩:=rx
  exact rule i t s _ _ ⟨.int (g i),H,I.tok _,⟨_,rfl⟩,q⟩
theorem un_neg:UnR X (unaryOp .USub) (rU fun i => .int (-i)):=unI fun _ _ _ _ _ q => neg_int q
end

section
variable {X:Cx} {a b c:Expr} {ta tb tc:TE} {pos:Pos}
theorem fin_bl {pins:List (Addr × Obj)} {σ:St} {H:Hp} {s:Shared} {Q:VK} {k k':Bool} (I:Inv X pins σ H s) (q:Q (.bl k) H) (e:k = k'):EP X pins σ Q (.bool k') s:=by
  subst e
  exact ⟨.bl k,H,I,rfl,q⟩
theorem op_lt:OpR X (compareOp .Lt) (rI0 fun i j => .bl (decide (i < j))):=opB0 fun _ _ _ _ _ _ _ q => lt_int q
theorem op_le:OpR X (compareOp .LtE) (rI0 fun i j => .bl (decide (i ≤ j))):=opB0 fun _ _ _ _ _ _ _ q => le_int q
theorem op_gt:OpR X (compareOp .Gt) (rI0 fun i j => .bl (decide (j < i))):=opB0 fun _ _ _ _ _ _ _ q => gt_int q
theorem op_ge:OpR X (compareOp .GtE) (rI0 fun i j => .bl (decide (j ≤ i))):=opB0 fun _ _ _ _ _ _ _ q => ge_int q
theorem op_isN:OpR X (compareOp .Is) (fun x y H Q => y = .non∧Q (.bl (decide (x = .non))) H):=by
  intro pins s σ H x y v u Q I rx ry h
  obtain ⟨rfl,q⟩:=h
  cases ry
  refine is_none_gen (fin_bl I q ?_)
  cases x <;> first
    | (cases rx; rfl)
    | (obtain ⟨t,rfl⟩:=rx; rfl)
theorem OpR.or {f:Value→Value→Sem Value} {r r':R2} (h:OpR X f r) (h':OpR X f r'):OpR X f (fun x y H Q => r x y H Q ∨ r' x y H Q):=by
  intro pins s σ H x y v u Q I rx ry q
  rcases q with q | q
  · exact h pins s σ H x y v u Q I rx ry q
  · exact h' pins s σ H x y v u Q I rx ry q

theorem nomark (b:Expr) {op:CmpOp} (h:op ≠ .In:=by decide) (h2:op ≠ .NotIn:=by decide):behindInMarks op b = false:=by
  have e1:(op == CmpOp.In) = false:=by cases op <;> first | rfl | exact absurd rfl h
  have e2:(op == CmpOp.NotIn) = false:=by cases op <;> first | rfl | exact absurd rfl h2
  cases b <;> simp [behindInMarks,e1,e2]
noncomputable def tTest (t:TE):TT:=fun σ H Q => t σ H fun x H' => ∃ k,x = .bl k∧Q k H'
theorem pt_cmpR {op:CmpOp} {r:R2} (ho:OpR X (compareOp op) r) (ha:PE X a ta) (hb:PE X b tb) (hm:behindInMarks op b = false):PT X (.Compare a [op] [b] pos) (tTest (tOp r ta tb)):=by
  intro pins s σ H Q I h
  refine wpAny_isTrue_Compare1 (thn (ha pins s σ H _ I h) fun v s1 ⟨x,H1,I1,r1,q1⟩ => thn (hb pins s1 σ H1 _ I1 q1) fun u s2 ⟨y,H2,I2,r2,q2⟩ =>
    thn (ho pins s2 σ H2 x y v u _ I2 r1 r2 q2) fun c s3 ⟨z,H3,I3,r3,k,e,q3⟩ => ?_) hm
  subst e
  cases r3
  exact wpAny_truthy_bool ⟨H3,I3,q3⟩
noncomputable def tChain (r r':R2) (ta tb tc:TE):TE:=fun σ H Q => ta σ H fun x H1 => tb σ H1 fun y H2 => r x y H2 fun z H3 => ∃ k,z = .bl k ∧
  (if k = true then tc σ H3 fun w' H4 => r' y w' H4 Q else Q (.bl false) H3)
theorem pe_chain {op op':CmpOp} {r r':R2} (ho:OpR X (compareOp op) r) (ho':OpR X (compareOp op') r') (ha:PE X a ta) (hb:PE X b tb) (hc:PE X c tc)
    (hm:lastMarks [op,op'] [b,c] = false:=by with_unfolding_all rfl):PE X (.Compare a [op,op'] [b,c] pos) (tChain r r' ta tb tc):=by
  intro pins s σ H Q I h
  refine Compare_chain (thn (ha pins s σ H _ I h) fun v s1 ⟨x,H1,I1,r1,q1⟩ => chain_link (thn (hb pins s1 σ H1 _ I1 q1) fun u s2 ⟨y,H2,I2,r2,q2⟩ =>
    thn (ho pins s2 σ H2 x y v u _ I2 r1 r2 q2) fun d s3 ⟨z,H3,I3,r3,k,e,q3⟩ => ?_)) hm
  subst e
  cases r3
  refine wpAny_truthy_bool ?_
  cases k with
  | false => exact ite_ff ⟨.bl false,H3,I3,rfl,q3⟩
  | true => exact ite_tt (chain_last (thn (hc pins s3 σ H3 _ I3 q3) fun w' s4 x__38 => (by obtain ⟨z',H4,I4,r4,q4⟩:=x__38; exact ho' pins s4 σ H4 y z' u w' Q I4 r2 r4 q4)))
noncomputable def TruV (K:PySem.W.Frag) (x:V) (H:Hp) (k:Bool):Prop :=
  match x with
  | .non => k = false
  | .bl b => k = b
  | .int i => k = (i != 0)
  | .str y => y.length ≤ sizeLine∧k = ((y.length:Int) != 0)
  | .byt y => y.size ≤ sizeLine∧k = ((y.size:Int) != 0)
  | .ref p => (∃ xs,SqL K H p xs∧k = !xs.isEmpty) ∨ (∃ xs,SqT K H p xs∧k = !xs.isEmpty) ∨ ∃ kvs,H p = some (.dK kvs)∧k = !kvs.isEmpty
  | _ => False
theorem isEmpty_kv {κ:Type} {kvs:List (κ × V)} {vs:List (κ × Value)} (r:KV kvs vs):(!vs.isEmpty) = !kvs.isEmpty:=by
  cases r <;> rfl
theorem isEmpty_of {xs:List V} {its:List Value} (r:Vals xs its):(!its.toArray.isEmpty) = !xs.isEmpty:=by
  cases r <;> simp
theorem line63:(sizeLine:Nat) < 2 ^ 63:=by rw [sizeLine_eq]; decide
theorem tru_ok:TruR X (fun x H Q => ∃ k,TruV X.K x H k∧Q k H):=by
  intro pins s σ H x v Q I rx h
  obtain ⟨k,e,q⟩:=h
  have hl:=line63
  have hs:sizeLine = 16777216:=sizeLine_eq
  cases x with
  | non =>
    cases rx
    have e':k = false:=e
    subst e'
    exact truthy_none ⟨H,I,q⟩
  | bl b =>
    cases rx
    have e':k = b:=e
    subst e'
    exact wpAny_truthy_bool ⟨H,I,q⟩
  | int i =>
    obtain ⟨t,rfl⟩:=rx
    have e':k = (i != 0):=e
    subst e'
    exact PySem.P.truthy_int ⟨H,I,q⟩
  | str y =>
    obtain ⟨t,rfl⟩:=rx
    obtain ⟨hy,e'⟩:y.length ≤ sizeLine∧k = ((y.length:Int) != 0):=e
    subst e'
    exact PySem.P.truthy_str (by omega) ⟨H,I.tok _,q⟩
  | byt y =>
    obtain ⟨t,rfl⟩:=rx
    obtain ⟨hy,e'⟩:y.size ≤ sizeLine∧k = ((y.size:Int) != 0):=e
    subst e'
    exact PySem.W.truthy_bytes (by omega) ⟨H,I.tok _,q⟩
  | ref p =>
    cases rx
    have e':(∃ xs,SqL X.K H p xs∧k = !xs.isEmpty) ∨ (∃ xs,SqT X.K H p xs∧k = !xs.isEmpty) ∨ ∃ kvs,H p = some (.dK kvs)∧k = !kvs.isEmpty:=e
    rcases e' with ⟨xs,hx,e'⟩ | ⟨xs,hx,e'⟩ | ⟨kvs,hx,e'⟩
    · subst e'
      obtain ⟨its,r,pl,hz⟩:=I.list hx
      have hlen:=r.length
      exact wpAny_truthy_list pl.isList (by simp only [List.size_toArray]; omega) ⟨H,I.tok _,by rw [isEmpty_of r]; exact q⟩
    · subst e'
      obtain ⟨its,r,pl,hz⟩:=I.tuple hx
      have hlen:=r.length
      exact truthy_tuple pl (by simp only [List.size_toArray]; omega) ⟨H,I.tok _,by rw [isEmpty_of r]; exact q⟩
    · subst e'
      obtain ⟨hz,hS,vs,r,m⟩:kvs.length ≤ sizeLine∧(p == sysModules) = false∧∃ vs,KV kvs vs∧s.heap.DictOf (mixKind X.prog X.w) p vs:=I.hok p _ hx
      have hlen:kvs.length = vs.length:=Paired.length r
      exact wpAny_truthy_dict hS m (by omega) ⟨H,I.tok _,by rw [isEmpty_kv r]; exact q⟩
  | _ => exact (show False from e).elim
theorem pt_truth (ha:PE X a ta) (he:∀ whole,isTrue a X.env whole = (do let v ← whole; standAt a.pos; holding [v] (truthy v))) :
    PT X a (fun σ H Q => ta σ H fun x H' => ∃ k,TruV X.K x H' k∧Q k H'):=by
  intro pins s σ H Q I h
  exact isTrue_plain (thn (ha pins s σ H _ I h) fun v s1 x__39 => (by obtain ⟨x,H1,I1,r1,q1⟩:=x__39; exact tru_ok pins s1 σ H1 x v Q I1 r1 q1)) (he _)

theorem vals1 {x:V} {us:List Value} (r:Vals [x] us):∃ u,us = [u]∧RelV x u:=by
  cases r with
  | cons r1 r2 => cases r2; exact ⟨_,rfl,r1⟩
theorem vals2 {x y:V} {us:List Value} (r:Vals [x,y] us):∃ u w',us = [u,w']∧RelV x u∧RelV y w':=by
  cases r with
  | cons r1 r2 =>
    cases r2 with
    | cons r3 r4 => cases r4; exact ⟨_,_,rfl,r1,r3⟩
theorem call_max2 (hc:X.calm = true):CallR X (.builtin "max") (fun xs H Q => ∃ i j,xs = [.int i,.int j]∧Q (.int (if j > i then j else i)) H):=by
  intro pins s σ H xs us Q I r h
  obtain ⟨i,j,rfl,q⟩:=h
  obtain ⟨u,w',rfl,⟨t,rfl⟩,⟨t',rfl⟩⟩:=vals2 r
  refine max_two_ints (I.ok.hd hc) fun h' tk k => ⟨_,H,I.kept k,?_,q⟩
  by_cases hj:j > i
  · rw [if_pos hj,if_pos hj]; exact ⟨_,rfl⟩
  · rw [if_neg hj,if_neg hj]; exact ⟨_,rfl⟩
theorem call_int1:CallR X (.type "int") (fun xs H Q => (∃ i,xs = [.int i]∧Q (.int i) H) ∨ ∃ k,xs = [.bl k]∧Q (.int (if k then 1 else 0)) H):=by
  intro pins s σ H xs us Q I r h
  rcases h with ⟨i,rfl,q⟩ | ⟨k,rfl,q⟩
  · obtain ⟨u,rfl,t,rfl⟩:=vals1 r
    exact call_int_int ⟨.int i,H,I,⟨_,rfl⟩,q⟩
  · obtain ⟨u,rfl,r1⟩:=vals1 r
    cases r1
    exact call_int_bool ⟨.int (if k then 1 else 0),H,I.tok _,⟨_,rfl⟩,q⟩
end
end L2

namespace L2
open PySem PySem.Spec PyProof.Rows

structure ObjM (h:Heap) (x dx C:Addr) (mA:Str→Option Value):Prop where
  obj:h.get? x = some (PySem.W.instObj C dx)
  ns:h.Ns1 dx mA
  ne:dx ≠ x

theorem lookIn_ns {h:Heap} {dx:Addr} {mA:Str→Option Value} (n:h.Ns1 dx mA):∃ od,h.get? dx = some od∧∀ name,PySem.W.lookIn name od = some (mA name):=by
  obtain ⟨o,es,ep,ho,hd,hk,_,hm⟩:=n
  refine ⟨o,ho,fun name => ?_⟩
  have e:=hm name
  unfold nsFind findBy at e
  rw [← Array.find?_toList] at e
  unfold PySem.W.lookIn
  rw [hd]
  dsimp only
  split
  · rename_i y q
    rw [q] at e
    exact congrArg some e
  · rename_i q
    rw [q] at e
    have a:es.toList.any (·.refKey) = false:=by
      rw [List.any_eq_false]
      intro y hy
      obtain ⟨z,t,hkey⟩:=hk y (Array.mem_toList_iff.mp hy)
      simp [DictEntry.refKey,hkey]
    have a':¬ es.toList.any (·.refKey) = true:=by rw [a]; exact Bool.false_ne_true
    rw [if_neg a']
    exact congrArg some e

theorem ObjM.look {h:Heap} {x dx C:Addr} {mA:Str→Option Value} (I:ObjM h x dx C mA):∃ od,PySem.W.InstAt h x (PySem.W.instObj C dx) C (some od)∧∀ name,PySem.W.lookIn name od = some (mA name) :=
  let ⟨od,ho,hl⟩:=lookIn_ns I.ns
  ⟨od,⟨I.obj,rfl,rfl,ho⟩,hl⟩

section
variable {prog:Program} {w:World} {A:Around} {E:Value→Shared→Prop} {s:Shared} {K:PySem.W.Frag} {x dx C f:Addr} {mA:Str→Option Value} {name:Str} {v:Value}

theorem get_map {expr:Bool} {Q:Value→Shared→Prop} (X:K.In s.heap) (I:ObjM s.heap x dx C mA) (hg:PySem.W.plainGet K C name = true) (hh:PySem.W.hasDictIn K C = true)
    (ha:PySem.W.findIn K (.ref C) name = some none) (hv:mA name = some v) (hv':PySem.W.handedIn v = true) (h:Q v { s with toks:=s.toks + 1 }) :
    wpAny (model prog w) A (getAttr (.ref x) name expr) Q E s:=by
  obtain ⟨od,J,hl⟩:=I.look
  exact PySem.W.get_value X J (PySem.W.plainGet_of hg).1 (PySem.W.findObj_own hh ha rfl (by rw [hl,hv])) hv' h

theorem get_meth {pl:Sem Bool} {Q:Value × List Value→Shared→Prop} (X:K.In s.heap) (I:ObjM s.heap x dx C mA) (hg:PySem.W.plainGet K C name = true)
    (hf:PySem.W.findIn K (.ref C) name = some (some (.ref f))) (ht:PySem.W.isFn K (.ref f) = true) (hv:mA name = none) (h:Q (.ref f,[.ref x]) s) :
    wpAny (model prog w) A (getMethod (.ref x) name pl) Q E s:=by
  obtain ⟨od,J,hl⟩:=I.look
  exact PySem.W.method_fn X J (PySem.W.plainGet_of hg).1 (PySem.W.plainGet_of hg).2 hf (beq_iff_eq.mp ht) (by show (PySem.W.lookIn name od).map (·.isSome) = some false; rw [hl,hv]; rfl) h

theorem set_map {ns:List Str} {Q:Unit→Shared→Prop} (X:K.In s.heap) (I:ObjM s.heap x dx C mA)
    (hs:PySem.W.findIn K (.ref C) "__setattr__" = some (some (.builtin "object.__setattr__"))) (hp:PySem.W.plainOver K C = true) (ht:PySem.W.takerIn K C name = some none) (hh:PySem.W.hasDictIn K C = true)
    (hw:PySem.Within mA ns) (hsz:ns.length ≤ sizeLine)
    (h:∀ h',ObjM h' x dx C (fun y => if y = name then some v else mA y)→Heap.SameBut dx s.heap h'→Q () { s with heap:=h',toks:=s.toks + 2 }) :
    wpAny (model prog w) A (setAttr (.ref x) name v) Q E s:=by
  obtain ⟨od,J,hl⟩:=I.look
  refine PySem.W.set_plain X J hs (PySem.W.osa_open (s:={ s with toks:=s.toks + 1 }) (r:=none) X J hp ht fun b => ?_)
  obtain ⟨cd,hc,hd'⟩:=PySem.W.any_some hh
  have hx:s.heap.get? x = some ⟨.ref C,some dx,.plain,#[]⟩:=I.obj
  refine wpAny_bind (wpAny_pure (wpAny_bind (wpAny_bind (wpAny_loadPart hx (wpAny_bind (PySem.W.Looks.here (s:={ s with toks:=s.toks + 1 }) (PySem.W.looks_clsIn X hc) ?_))))))
  rw [hd']
  refine wpAny_pure (a:=some dx) (wpAny_bind (wpAny_pure (wpAny_bind ?_)))
  refine wpAny_nsSet1 (s:={ s with toks:=s.toks + 1 }) I.ns fun h' hn2 hs2 => ?_
  obtain ⟨oD,esD,epD,hoD,hdD,hcD⟩:=hn2.count (PySem.Within.cons name v hw)
  refine wpAny_bind (wpAny_lookBehind hoD (by rw [hdD]; exact pastItsLine_dict (Nat.le_trans hcD (by rw [List.length_cons]; omega))) ?_)
  exact wpAny_pure (h _ ⟨(hs2.2 _ (Ne.symm I.ne)).trans I.obj,hn2,I.ne⟩ hs2)

theorem make_map {R:Result→Shared→Prop} {vs:List Value} {kw:List (Str × Value)} (X:K.In s.heap) (hm:PySem.W.makesIn K C = true)
    (hi:PySem.W.findIn K (.ref C) "__init__" = some (some (.ref f))) (hf:PySem.W.typeIn K (.ref f) = some (.type "function"))
    (h:codeAny (model prog w) (A.under (.builtin "type.__call__" ⟨.ref C :: vs,kw⟩)) (.call (.ref f) ⟨.ref (s.heap.objs.size + 1) :: vs,kw⟩) (PySem.W.InitBack (s.heap.objs.size + 1) R)
      { s with heap:=(s.heap.push PySem.W.emptyDict).push (PySem.W.instObj C s.heap.objs.size) }) :
    codeAny (model prog w) A (.call (.ref C) ⟨vs,kw⟩) R s:=by
  obtain ⟨hh,g,d,t,os⟩:=s
  exact PySem.W.make_core (PySem.W.makes_of X hm) (PySem.W.looks_findIn X hi) (fun self => PySem.W.bind_fn X self hf) (.inl rfl) h
end

noncomputable def putF (f:Str) (v:V):List (Str × V)→List (Str × V)
  | [] => [(f,v)]
  | (g,x) :: r => if g = f then (g,v) :: r else (g,x) :: putF f v r
theorem lookup_putF (f g:Str) (v:V):∀ fs:List (Str × V),(putF f v fs).lookup g = if g = f then some v else fs.lookup g
  | [] => by
    show List.lookup g [(f,v)] = _
    by_cases h:g = f
    · have hb:(g == f) = true:=beq_iff_eq.mpr h
      simp only [List.lookup,hb,if_pos h]
    · have hb:(g == f) = false:=beq_eq_false_iff_ne.mpr h
      simp only [List.lookup,hb,if_neg h]
  | (k,x) :: r => by
    have ih:=lookup_putF f g v r
    rw [show putF f v ((k,x) :: r) = (if k = f then (k,v) :: r else (k,x) :: putF f v r) from rfl]
    by_cases hk:k = f
    · rw [if_pos hk]
      by_cases h:g = k
      · have hb:(g == k) = true:=beq_iff_eq.mpr h
        simp only [List.lookup,hb,if_pos (h.trans hk)]
      · have hb:(g == k) = false:=beq_eq_false_iff_ne.mpr h
        simp only [List.lookup,hb,if_neg (fun e:g = f => h (e.trans hk.symm))]
    · rw [if_neg hk]
      by_cases h:g = k
      · have hb:(g == k) = true:=beq_iff_eq.mpr h
        simp only [List.lookup,hb,if_neg (fun e:g = f => hk (h.symm.trans e))]
      · have hb:(g == k) = false:=beq_eq_false_iff_ne.mpr h
        simp only [List.lookup,hb]
        exact ih
theorem keys_putF (f:Str) (v:V):∀ fs:List (Str × V),f ∈ (putF f v fs).map (·.1)∧∀ g,g ∈ fs.map (·.1)→g ∈ (putF f v fs).map (·.1)
  | [] => ⟨by simp [putF],fun g h => by simp at h⟩
  | (k,x) :: r => by
    obtain ⟨i1,i2⟩:=keys_putF f v r
    rw [show putF f v ((k,x) :: r) = (if k = f then (k,v) :: r else (k,x) :: putF f v r) from rfl]
    by_cases hk:k = f
    · rw [if_pos hk]
      subst hk
      exact ⟨by simp,fun g h => by simpa using h⟩
    · rw [if_neg hk]
      refine ⟨?_,fun g h => ?_⟩
      · rw [List.map_cons]
        exact List.mem_cons_of_mem _ i1
      · rw [List.map_cons] at h ⊢
        rcases List.mem_cons.mp h with e | e
        · exact List.mem_cons.mpr (.inl e)
        · exact List.mem_cons_of_mem _ (i2 g e)
theorem length_putF (f:Str) (v:V):∀ fs:List (Str × V),(putF f v fs).length ≤ fs.length + 1
  | [] => by simp [putF]
  | (k,x) :: r => by
    have ih:=length_putF f v r
    rw [show putF f v ((k,x) :: r) = (if k = f then (k,v) :: r else (k,x) :: putF f v r) from rfl]
    by_cases hk:k = f
    · rw [if_pos hk,List.length_cons,List.length_cons]; omega
    · rw [if_neg hk,List.length_cons,List.length_cons]; omega

theorem RelO.some_of {v:V} {o:Option Value} (r:RelO (some v) o):∃ u,o = some u∧RelV v u:=by
  cases o with
  | none => exact (show False from r).elim
  | some u => exact ⟨u,rfl,r⟩
theorem RelO.none_of {o:Option Value} (r:RelO none o):o = none:=by
  cases o with
  | none => rfl
  | some u => exact (show False from r).elim
theorem handed_of {v:V} {u:Value} (r:RelV v u):PySem.W.handedIn u = true:=by
  cases v with
  | non => cases (show u = Value.none from r); rfl
  | bl b => cases (show u = Value.bool b from r); rfl
  | int i => obtain ⟨t,e⟩:=(show ∃ t,u = Value.int i t from r); cases e; rfl
  | str x => obtain ⟨t,e⟩:=(show ∃ t,u = Value.str x t from r); cases e; rfl
  | byt b => obtain ⟨t,e⟩:=(show ∃ t,u = Value.bytes b t from r); cases e; rfl
  | flt b => obtain ⟨t,e⟩:=(show ∃ t,u = Value.float b t from r); cases e; rfl
  | ref a => cases (show u = Value.ref a from r); rfl
  | ty n => cases (show u = Value.type n from r); rfl

section
variable {P:Program} {w:World} {H H':Hp} {h h':Heap} {a C dx:Addr} {fs fs':List (Str × V)}
theorem ins_get (hok:HOk P w H h) (e:H a = some (.ins C dx fs)):∃ mA,ObjM h a dx C mA∧(∀ f,RelO (fs.lookup f) (mA f))∧PySem.Within mA (fs.map (·.1))∧fs.length ≤ 1000∧H dx = some (.own a):=by
  obtain ⟨d,z,ne,ob,mA,n,r,q⟩:=(show ObjOk P w H h a (.ins C dx fs) from hok a _ e)
  exact ⟨mA,⟨ob,n,ne⟩,r,q,z,d⟩
end

structure Cls (K:PySem.W.Frag) (C:Addr):Prop where
  pg:PySem.W.plainGet K C Str.empty = true
  hd:PySem.W.hasDictIn K C = true
  po:PySem.W.plainOver K C = true
  sa:PySem.W.findIn K (.ref C) "__setattr__" = some (some (.builtin "object.__setattr__"))
theorem Cls.get {K:PySem.W.Frag} {C:Addr} (c:Cls K C) (f:Str):PySem.W.plainGet K C f = true:=c.pg
noncomputable def NoAttr (K:PySem.W.Frag) (C:Addr) (f:Str):Prop:=PySem.W.findIn K (.ref C) f = some none
theorem NoAttr.taker {K:PySem.W.Frag} {C:Addr} {f:Str} (n:NoAttr K C f):PySem.W.takerIn K C f = some none:=by
  unfold PySem.W.takerIn
  rw [show PySem.W.findIn K (.ref C) f = some none from n]
  rfl
structure Con (K:PySem.W.Frag) (C:Addr) (f:Str) (v:V) (u:Value):Prop where
  at_:PySem.W.findIn K (.ref C) f = some (some u)
  rel:RelV v u
  get:PySem.W.specialIn K u "__get__" = some none
  cp:PySem.W.copiedNames.contains f = false
structure Meth (K:PySem.W.Frag) (C:Addr) (m:Str) (f:Addr):Prop where
  at_:PySem.W.findIn K (.ref C) m = some (some (.ref f))
  fn:PySem.W.isFn K (.ref f) = true
  kp:PySem.W.keepIn K (.ref f) = true

section
variable {X:Cx} {pins:List (Addr × Obj)} {σ:St} {H:Hp} {s:Shared} {a C dx:Addr} {fs:List (Str × V)} {f:Str} {v:V} {A:Around} {E:Value→Shared→Prop}

theorem getattr_ok {b:Bool} {Q:Value→Shared→Prop} (I:Inv X pins σ H s) (e:H a = some (.ins C dx fs)) (c:Cls X.K C) (n:NoAttr X.K C f) (l:fs.lookup f = some v)
    (h:∀ u s',Inv X pins σ H s'→RelV v u→Q u s'):wpAny (model X.prog X.w) A (getAttr (.ref a) f b) Q E s:=by
  obtain ⟨mA,O,r,_,_,_⟩:=ins_get I.hok e
  obtain ⟨u,hu,ru⟩:=RelO.some_of (v:=v) (o:=mA f) (by rw [← l]; exact r f)
  exact get_map I.kIn O (c.get f) c.hd n hu (handed_of ru) (h u _ (I.tok _) ru)

theorem getmeth_ok {m:Str} {g:Addr} {pl:Sem Bool} {Q:Value × List Value→Shared→Prop} (I:Inv X pins σ H s) (e:H a = some (.ins C dx fs)) (c:Cls X.K C) (k:Meth X.K C m g) (l:fs.lookup m = none)
    (h:Q (.ref g,[.ref a]) s):wpAny (model X.prog X.w) A (getMethod (.ref a) m pl) Q E s:=by
  obtain ⟨mA,O,r,_,_,_⟩:=ins_get I.hok e
  have hn:mA m = none:=RelO.none_of (by rw [← l]; exact r m)
  exact get_meth I.kIn O (c.get m) k.at_ k.fn hn h

theorem setattr_ok {y:V} {u:Value} {Q:Unit→Shared→Prop} (I:Inv X pins σ H s) (e:H a = some (.ins C dx fs)) (c:Cls X.K C) (n:NoAttr X.K C f) (hl:fs.length < 1000) (ry:RelV y u)
    (h:∀ s',Inv X pins σ (upd H a (.ins C dx (putF f y fs))) s'→Q () s'):wpAny (model X.prog X.w) A (setAttr (.ref a) f u) Q E s:=by
  obtain ⟨mA,O,r,wi,_,ho⟩:=ins_get I.hok e
  have hz:(fs.map (·.1)).length ≤ sizeLine:=by rw [List.length_map,sizeLine_eq]; omega
  refine set_map I.kIn O c.sa c.po n.taker c.hd wi hz fun h' O' sb => h _ ?_
  have hd:∃ o,h'.get? dx = some o:=let ⟨o,_,_,e',_⟩:=O'.ns; ⟨o,e'⟩
  refine I.write (x:=a) (e:=dx) (by rw [e]; exact True.intro) (.inr ho) (fun b q hb z => (sb.2 b hb).trans z) hd ?_
  refine ⟨by rw [upd_ne O.ne]; exact ho,?_,O.ne,O'.obj,_,O'.ns,fun g => ?_,fun g hg => ?_⟩
  · have:=length_putF f y fs; omega
  · show RelO ((putF f y fs).lookup g) (if g = f then some u else mA g)
    rw [lookup_putF]
    by_cases q:g = f
    · rw [if_pos q,if_pos q]; exact ry
    · rw [if_neg q,if_neg q]; exact r g
  · by_cases q:g = f
    · rw [q]; exact (keys_putF f y fs).1
    · refine (keys_putF f y fs).2 g (wi g fun z => hg ?_)
      show (if g = f then some u else mA g) = none
      rw [if_neg q]; exact z

theorem Inv.made (I:Inv X pins σ H s):Inv X pins σ (upd (upd H s.heap.objs.size (.own (s.heap.objs.size + 1))) (s.heap.objs.size + 1) (.ins C s.heap.objs.size []))
    { s with heap:=(s.heap.push PySem.W.emptyDict).push (PySem.W.instObj C s.heap.objs.size) }:=by
  have e1:(s.heap.push PySem.W.emptyDict).get? s.heap.objs.size = some PySem.W.emptyDict:=Heap.get?_push_size s.heap rfl
  have e2:((s.heap.push PySem.W.emptyDict).push (PySem.W.instObj C s.heap.objs.size)).get? (s.heap.objs.size + 1) = some (PySem.W.instObj C s.heap.objs.size):=by
    have:=Heap.get?_push_size (s.heap.push PySem.W.emptyDict) (o:=PySem.W.instObj C s.heap.objs.size) rfl
    rwa [Heap.size_push] at this
  have e3:(s.heap.push PySem.W.emptyDict).Ns s.heap.objs.size (fun _ => none):=⟨PySem.W.emptyDict,#[],_,e1,rfl,(fun e he => absurd he (by simp)),fun _ => rfl⟩
  have I1:=I.laid (a:=s.heap.objs.size) (o:=.own (s.heap.objs.size + 1)) (h':=s.heap.push PySem.W.emptyDict) (t':=s.toks) (fun b u q => Heap.get?_push_of_some _ q) (Nat.le_refl _) ⟨_,e1⟩
  refine I1.laid (a:=s.heap.objs.size + 1) (o:=.ins C s.heap.objs.size []) (t':=s.toks) (fun b u q => Heap.get?_push_of_some _ q) (Nat.le_of_eq (Heap.size_push _ _)) ?_
  have ne:s.heap.objs.size ≠ s.heap.objs.size + 1:=Nat.ne_of_lt (Nat.lt_succ_self _)
  refine ⟨by rw [upd_ne ne,upd_same],Nat.zero_le _,ne,e2,fun _ => none,(Heap.Ns1.of_empty e3).at fun o q => Heap.get?_push_of_some _ q,fun _ => True.intro,fun y hy => absurd rfl hy⟩

theorem attr_of {prog:Program} {w:World} {env:Env} {e:Expr} {f:Str} {pos:Pos} {s:Shared} {Q:Value→Shared→Prop} (hb:attributeBase e f env (eval e env) = eval e env)
    (h:wpAny (model prog w) A (eval e env) (fun o s₁ => wpAny (model prog w) A (getAttr o f true) Q E s₁) E s):wpAny (model prog w) A (eval (.Attribute e f pos) env) Q E s :=
  Attribute_any_ h (by rw [arm_eval_Attribute,hb])
end

noncomputable def tFld (K:PySem.W.Frag) (ta:TE) (f:Str):TE:=fun σ H Q => ta σ H fun x H1 => ∃ a C dx fs v,x = .ref a∧H1 a = some (.ins C dx fs)∧Cls K C∧NoAttr K C f∧fs.lookup f = some v∧Q v H1
noncomputable def sFld (K:PySem.W.Frag) (ta tv:TE) (f:Str):TS:=fun D σ H => tv σ H fun y H1 => ta σ H1 fun x H2 => ∃ a C dx fs,x = .ref a∧H2 a = some (.ins C dx fs)∧Cls K C∧NoAttr K C f∧fs.length < 1000 ∧
  D.nx σ (upd H2 a (.ins C dx (putF f y fs)))
section
variable {X:Cx} {o e value:Expr} {f:Str} {pos pos' tpos:Pos} {ta tv:TE}
theorem pe_fld (he:PE X e ta) (hb:attributeBase e f X.env (eval e X.env) = eval e X.env):PE X (.Attribute e f pos) (tFld X.K ta f):=by
  intro pins s σ H Q I h
  refine attr_of hb (thn (he pins s σ H _ I h) fun u s1 x__40 => ?_)
  obtain ⟨x,H1,I1,rx,a,C,dx,fs,v,ex,ea,c,n,l,q⟩:=x__40
  subst ex
  obtain rfl:u = Value.ref a:=rx
  exact getattr_ok I1 ea c n l fun u' s2 I2 ru => ⟨v,H1,I2,ru,q⟩
theorem ps_fld (ha:PE X o ta) (hv:PE X value tv) (hs:swapsWith value (some (.Attribute o f pos')) pos.line X.env = pure false):PS X (.Assign [.Attribute o f pos'] value pos) (sFld X.K ta tv f):=by
  intro pins s σ H D I h
  refine plainObj_wpAny_Assign_Attribute (thn (hv pins s σ H _ I h) fun u s1 ⟨y,H1,I1,ry,q⟩ => thn (ha pins s1 σ H1 _ I1 q) fun ov s2 x__42 => ?_) hs
  obtain ⟨x,H2,I2,rx,a,C,dx,fs,ex,ea,c,n,l,q2⟩:=x__42
  subst ex
  obtain rfl:ov = Value.ref a:=rx
  exact setattr_ok I2 ea c n l ry fun s3 I3 => ⟨σ,_,I3,q2⟩
end

section
variable {X:Cx} {pins:List (Addr × Obj)} {σ:St} {H:Hp} {s:Shared} {A:Around} {E:Value→Shared→Prop} {Q:Value→Shared→Prop} {c:Value} {b:Bool}
inductive TyOf (K:PySem.W.Frag) (H:Hp):V→Value→Prop where
  | non:TyOf K H .non (.type "NoneType")
  | bl (x:Bool):TyOf K H (.bl x) (.type "bool")
  | int (i:Int):TyOf K H (.int i) (.type "int")
  | str (x:Str):TyOf K H (.str x) (.type "str")
  | flt (x:UInt64):TyOf K H (.flt x) (.type "float")
  | lst {a:Addr} {xs:List V} (e:H a = some (.lst xs)):TyOf K H (.ref a) (.type "list")
  | frz {a:Addr} {o:Obj} {xs:List V} (e:H a = some (.frz o (.lst xs))):TyOf K H (.ref a) (.type "list")
  | tup {a:Addr} {xs:List V} (e:H a = some (.tup xs)):TyOf K H (.ref a) (.type "tuple")
  | dK {a:Addr} {kvs:List (Key × V)} (e:H a = some (.dK kvs)):TyOf K H (.ref a) (.type "dict")
  | dT {a:Addr} {kvs:List (List Key × V)} (e:H a = some (.dT kvs)):TyOf K H (.ref a) (.type "dict")
  | ins {a C dx:Addr} {fs:List (Str × V)} (e:H a = some (.ins C dx fs)) (cl:Cls K C) (ha:PySem.W.findIn K (.ref C) "__class__" = some (some (.builtin "object.__class__")))
      (hn:PySem.W.specialIn K (.builtin "object.__class__") "__get__" = some (some (.builtin "getset_descriptor.__get__"))) (htk:PySem.W.takesIn K (.builtin "object.__class__") = some true)
      (hm:PySem.W.mroIn K C (.type "object") = some true):TyOf K H (.ref a) (.ref C)
end
end L2

namespace L2
open PySem PySem.Spec PyProof.Rows

structure Room (k:Nat) (A:Around):Prop where
  hd:A.handled = none
  dp:A.depth + 3 * k + 5 < recursionLimit
  un:A.units + 16 * k + 200 < cLine
theorem Room.mono {j k:Nat} {A:Around} (r:Room k A) (h:j ≤ k):Room j A:=⟨r.hd,by have:=r.dp; omega,by have:=r.un; omega⟩
theorem Room.deeper {k:Nat} {A:Around} (r:Room (k + 1) A) (env:Env):Room k (A.deeper env) :=
  ⟨r.hd,by have:=r.dp; show A.depth + 1 + 3 * k + 5 < _; omega,by have:=r.un; show A.units + 3 + 16 * k + 200 < _; omega⟩
theorem Room.in1 {k:Nat} {A:Around} (r:Room (k + 1) A):Room k A.in1 :=
  ⟨r.hd,by have:=r.dp; show A.depth + 3 * k + 5 < _; omega,by have:=r.un; show A.units + 1 + 16 * k + 200 < _; omega⟩
theorem make_depth {A:Around} {C:Addr} {us:List Value} {kw:List (Str × Value)}:(A.under (.builtin "type.__call__" ⟨.ref C :: us,kw⟩)).depth = A.depth + 1:=by
  first | rfl | simp [Around.under,Code.weight,Code.isCreation,Code.isGuard,Code.isCaller,Code.frames,Code.isFrame,guardIds]
theorem make_units {A:Around} {C:Addr} {us:List Value} {kw:List (Str × Value)}:(A.under (.builtin "type.__call__" ⟨.ref C :: us,kw⟩)).units = A.units + 1:=by
  first | rfl | simp [Around.under,Code.cUnits,Code.frames,Code.isFrame]
theorem Room.make {k:Nat} {A:Around} (r:Room (k + 1) A) (C:Addr) (us:List Value) (kw:List (Str × Value)):Room k (A.under (.builtin "type.__call__" ⟨.ref C :: us,kw⟩)) :=
  ⟨r.hd,by have:=r.dp; rw [make_depth]; omega,by have:=r.un; rw [make_units]; omega⟩
theorem Room.depth {k:Nat} {A:Around} (r:Room k A):A.depth < recursionLimit:=by have:=r.dp; omega
theorem Room.units {k:Nat} {A:Around} (r:Room k A):A.units + 64 < cLine:=by have:=r.un; omega
noncomputable def tNil:TA:=fun _ H Q => Q [] H
noncomputable def tCons (ta:TE) (tr:TA):TA:=fun σ H Q => ta σ H fun x H1 => tr σ H1 fun xs H2 => Q (x :: xs) H2
section
variable {X:Cx} {e:Expr} {es:List Expr} {te:TE} {t:TA} {pos:Pos}
theorem pa_nil:PA X [] tNil:=fun _ _ _ _ H Q I h => Calls.spliced_nil ⟨[],H,I,.nil,h⟩
theorem pa_cons (ha:PE X e te) (hr:PA X es t) (hs:starEach (e :: es) X.env = (false,eval e X.env) :: starEach es X.env:=by rfl):PA X (e :: es) (tCons te t):=by
  intro pos pins s σ H Q I h
  rw [hs]
  show wpAny _ _ (spliced ((false,eval e X.env) :: backTo pos (starEach es X.env))) _ _ s
  refine Calls.spliced_cons (thn (ha pins s σ H _ I h) fun u s1 x__43 => ?_)
  obtain ⟨x,H1,I1,r1,q1⟩:=x__43
  exact thn (hr pos pins s1 σ H1 _ I1 q1) fun us s2 x__44 => (by obtain ⟨xs,H2,I2,r2,q2⟩:=x__44; exact ⟨x :: xs,H2,I2,.cons r1 r2,q2⟩)

noncomputable def tTup (t:TA):TE:=fun σ H Q => t σ H fun xs H1 => xs.length ≤ sizeLine∧∀ p,H1 p = none→Q (.ref p) (upd H1 p (.tup xs))
noncomputable def tLst (t:TA):TE:=fun σ H Q => t σ H fun xs H1 => xs.length ≤ sizeLine∧∀ p,H1 p = none→Q (.ref p) (upd H1 p (.lst xs))
theorem pe_tup {x1} (h:PA X es t):PE X (.Tuple es x1 pos) (tTup t):=by
  intro pins s σ H Q I hq
  refine wpAny_Tuple_spliced (thn (h pos pins s σ H _ I hq) fun us s1 ⟨xs,H1,I1,r,z,q⟩ => ⟨by rw [← r.length]; exact z,?_⟩)
  have hf:H1 s1.heap.objs.size = none:=I1.hok.fresh (Nat.le_refl _)
  refine ⟨.ref s1.heap.objs.size,upd H1 s1.heap.objs.size (.tup xs),I1.laid (t':=s1.toks) (fun b u e => Heap.get?_push_of_some _ e) (Nat.le_refl _) ?_,rfl,q _ hf⟩
  exact ⟨z,us,r,⟨_,Heap.get?_push_size _ rfl,rfl,_,rfl⟩⟩
theorem pe_lst (h:PA X es t):PE X (.List es pos) (tLst t):=by
  intro pins s σ H Q I hq
  refine wpAny_List_spliced (thn (h pos pins s σ H _ I hq) fun us s1 ⟨xs,H1,I1,r,z,q⟩ => ⟨by rw [← r.length]; exact z,?_⟩)
  have hf:H1 s1.heap.objs.size = none:=I1.hok.fresh (Nat.le_refl _)
  refine ⟨.ref s1.heap.objs.size,upd H1 s1.heap.objs.size (.lst xs),I1.laid (t':=s1.toks) (fun b u e => Heap.get?_push_of_some _ e) (Nat.le_refl _) ?_,rfl,q _ hf⟩
  exact ⟨z,us,0,r,Heap.get?_push_size _ rfl⟩
end

noncomputable abbrev Sp:=List V→Hp→VK→XK→Prop
noncomputable abbrev CXT:=List Env→Hp→Shared→XK→Value→Shared→Prop

structure Env0 (P:Program) (w:World) (K:PySem.W.Frag) (mg:Str→Option Value) (base:Heap) (A:Around) (outer:List Env) (s:Shared) (H:Hp):Prop where
  frames:A.frames = some outer
  mod:Mod K mg base
  bs:∀ b o,base.get? b = some o→s.heap.get? b = some o∧H b = none
  bsz:base.objs.size ≤ s.heap.objs.size
  funs:s.heap.FunFrames base outer
  frf:∀ b ∈ frs outer,H b = none
  hok:HOk P w H s.heap
  bare:AllBare s.gens
noncomputable def CE (outer:List Env) (P:Program) (w:World) (H:Hp) (s:Shared) (Q:VK) (u:Value) (s':Shared):Prop :=
  ∃ v H',s'.os = s.os∧AllBare s'.gens∧Un (frs outer) [] H H' s.heap s'.heap∧HOk P w H' s'.heap∧RelV v u∧Q v H'
noncomputable def CR (CX:CXT) (outer:List Env) (P:Program) (w:World) (H:Hp) (s:Shared) (Q:VK) (E:XK) (r:Result) (s':Shared):Prop :=
  match r with
  | .ok (.ret u) => CE outer P w H s Q u s'
  | .ok _ => False
  | .error e => CX outer H s E e s'
structure FnOk (P:Program) (w:World) (K:PySem.W.Frag) (mg:Str→Option Value) (base:Heap) (CX:CXT) (k:Nat) (f:Addr) (fd:FuncData) (ps:List Str) (sp:Sp):Prop where
  len:∀ vs H Q E,sp vs H Q E→vs.length = ps.length
  run:∀ (A:Around) (outer:List Env) (s:Shared) (H:Hp) (args:Args) (us:List Value) (vs:List V) (Q:VK) (E:XK),Room k A→Env0 P w K mg base A outer s H→BindsTo s fd args (ps.zip us)→Vals vs us→sp vs H Q E →
    codeAny (model P w) A (.call (.ref f) args) (CR CX outer P w H s Q E) s
theorem FnOk.mono {P:Program} {w:World} {K:PySem.W.Frag} {mg:Str→Option Value} {base:Heap} {CX:CXT} {j k:Nat} {f:Addr} {fd:FuncData} {ps:List Str} {sp:Sp} (F:FnOk P w K mg base CX j f fd ps sp) (h:j ≤ k) :
    FnOk P w K mg base CX k f fd ps sp:=⟨F.len,fun A outer s H args us vs Q E hr => F.run A outer s H args us vs Q E (hr.mono h)⟩
theorem FnOk.imp {P:Program} {w:World} {K:PySem.W.Frag} {mg:Str→Option Value} {base:Heap} {CX:CXT} {k:Nat} {f:Addr} {fd:FuncData} {ps:List Str} {sp sp':Sp} (F:FnOk P w K mg base CX k f fd ps sp)
    (h:∀ vs H Q E,sp' vs H Q E→sp vs H Q E):FnOk P w K mg base CX k f fd ps sp' :=
  ⟨fun vs H Q E q => F.len vs H Q E (h _ _ _ _ q),fun A outer s H args us vs Q E hr he hb hv hs => F.run A outer s H args us vs Q E hr he hb hv (h _ _ _ _ hs)⟩

theorem Env0.make {P:Program} {w:World} {K:PySem.W.Frag} {mg:Str→Option Value} {base:Heap} {A:Around} {outer:List Env} {s:Shared} {H:Hp} (e:Env0 P w K mg base A outer s H) (C:Addr) (us:List Value) (kw:List (Str × Value)) :
    Env0 P w K mg base (A.under (.builtin "type.__call__" ⟨.ref C :: us,kw⟩)) outer s H:=⟨by first | exact e.frames | (simpa [Around.under,Code.envs,Code.isFrame,pushEnvs] using e.frames),e.mod,e.bs,e.bsz,e.funs,e.frf,e.hok,e.bare⟩
theorem Env0.in1 {P:Program} {w:World} {K:PySem.W.Frag} {mg:Str→Option Value} {base:Heap} {A:Around} {outer:List Env} {s:Shared} {H:Hp} (e:Env0 P w K mg base A outer s H) :
    Env0 P w K mg base A.in1 outer s H:=⟨e.frames,e.mod,e.bs,e.bsz,e.funs,e.frf,e.hok,e.bare⟩

section
variable {X:Cx} {pins:List (Addr × Obj)} {σ:St} {H:Hp} {s s':Shared}
theorem Inv.env0 (I:Inv X pins σ H s):Env0 X.prog X.w X.K X.mg X.base X.A X.stack s H :=
  ⟨I.ok.frames,I.ok.mod,I.bs,Nat.le_trans I.ok.bsz I.sz,I.stack,I.stkFree,I.hok,I.bare⟩
theorem Inv.after {Q:VK} {u:Value} (I:Inv X pins σ H s) (h:CE X.stack X.prog X.w H s Q u s'):EP X pins σ Q u s':=by
  obtain ⟨v,H',os,bare,un,hok,r,q⟩:=h
  obtain ⟨hh,g,d,t,os'⟩:=s'
  obtain rfl:os' = s.os:=os
  exact ⟨v,H',I.call (h':=hh) (g':=g) (d':=d) (t':=t) (ch:=[]) un hok bare (fun b z => absurd z (by simp)),r,q⟩
end

noncomputable def tCall (sp:Sp) (dvs:List V) (E:XK) (t:TA):TE:=fun σ H Q => t σ H fun vs H1 => sp (vs ++ dvs) H1 Q E
noncomputable def tMeth (C:Addr) (m:Str) (sp:Sp) (dvs:List V) (E:XK) (ta:TE) (t:TA):TE:=fun σ H Q => ta σ H fun x H1 => ∃ a dx fs,x = .ref a∧H1 a = some (.ins C dx fs)∧fs.lookup m = none ∧
  t σ H1 fun vs H2 => sp (x :: (vs ++ dvs)) H2 Q E
noncomputable def tMake (C:Addr) (sp:Sp) (dvs:List V) (E:XK) (t:TA):TE:=fun σ H Q => t σ H fun vs H1 => ∀ x dx,H1 x = none→H1 dx = none→dx ≠ x →
  sp (.ref x :: (vs ++ dvs)) (upd (upd H1 dx (.own x)) x (.ins C dx [])) (fun v H2 => v = .non∧Q (.ref x) H2) E

noncomputable def Binds (K:PySem.W.Frag) (fd:FuncData) (ps:List Str) (ds:List Value):Prop :=
  ∀ (s:Shared) (us:List Value),K.In s.heap→(us ++ ds).length = ps.length→BindsTo s fd ⟨us,[]⟩ (ps.zip (us ++ ds))
theorem Binds.all {K:PySem.W.Frag} {fd:FuncData} {ps:List Str} (h:∀ us:List Value,us.length = ps.length→bindArgs fd ⟨us,[]⟩ = pure (ps.zip us)):Binds K fd ps []:=fun s us _ hl => by
  rw [List.append_nil] at hl ⊢
  exact .of_eq (h us hl)

noncomputable def Passes (CX:CXT) (X:Cx) (E:XK):Prop:=∀ (pins:List (Addr × Obj)) (σ:St) (H:Hp) (s:Shared) (e:Value) (s':Shared),Inv X pins σ H s→CX X.stack H s E e s'→X.xe e s'

section
variable {X:Cx} {CX:CXT} {k:Nat} {f C:Addr} {fd:FuncData} {ps:List Str} {sp:Sp} {dvs:List V} {ds:List Value} {E:XK} {x m:Str} {p pos apos:Pos} {e o:Expr} {es:List Expr} {ta:TE} {t:TA}

theorem run_fn {pins:List (Addr × Obj)} {σ:St} {H:Hp} {s:Shared} {Q:VK} {us:List Value} {vs:List V} (F:FnOk X.prog X.w X.K X.mg X.base CX k f fd ps sp) (hr:Room k X.A) (hb:Binds X.K fd ps ds) (hd:Vals dvs ds) (hx:Passes CX X E)
    (I:Inv X pins σ H s) (r:Vals vs us) (h:sp (vs ++ dvs) H Q E):wpAny (model X.prog X.w) X.A (call (.ref f) us) (EP X pins σ Q) X.xe s:=by
  have r2:Vals (vs ++ dvs) (us ++ ds):=r.append hd
  have hl:(us ++ ds).length = ps.length:=by rw [← r2.length]; exact F.len _ _ _ _ h
  refine wpAny_call (codeAny_mono (F.run X.A X.stack s H ⟨us,[]⟩ (us ++ ds) (vs ++ dvs) Q E hr I.env0 (hb s us I.kIn hl) r2 h) fun r s' hq => ?_)
  cases r with
  | error e => exact hx pins σ H s e s' I hq
  | ok fl =>
    cases fl with
    | ret u => exact I.after hq
    | next => exact False.elim hq
    | brk => exact False.elim hq
    | cont => exact False.elim hq

theorem pe_call (F:FnOk X.prog X.w X.K X.mg X.base CX k f fd ps sp) (hr:Room k X.A) (hg:Gl X x) (hm:X.mg x = some (.ref f)) (hk:PySem.W.keepIn X.K (.ref f) = true) (hb:Binds X.K fd ps ds) (hd:Vals dvs ds) (hx:Passes CX X E)
    (ha:PA X (e :: es) t) (hdb:(x == ("__debug__":Str)) = false:=by decide) (he:starEach (e :: es) X.env = (false,eval e X.env) :: starEach es X.env:=by rfl) (hpl:(backTo pos (starEach es X.env)).any (·.1) = false:=by rfl) :
    PE X (.Call (.Name x p) (e :: es) [] pos) (tCall sp dvs E t):=by
  intro pins s σ H Q I h
  refine wpAny_Call_Name_kw (ld_glob I hg hm ?_ hdb)
  refine PySem.W.callWith_K (h₀:=X.base) I.ok.mod.kin hk (thn (ha pos pins s σ H _ I h) fun us s1 ⟨vs,H1,I1,r,q⟩ => ⟨I1.kIn,?_⟩) he hpl
  exact run_fn F hr hb hd hx I1 r q
theorem pe_meth {pl:Sem Bool} (he:PE X o ta) (c:Cls X.K C) (hm:Meth X.K C m f) (F:FnOk X.prog X.w X.K X.mg X.base CX k f fd ps sp) (hr:Room k X.A) (hb:Binds X.K fd ps ds) (hd:Vals dvs ds) (hx:Passes CX X E) (ha:PA X (e :: es) t)
    (hst:starEach (e :: es) X.env = (false,eval e X.env) :: starEach es X.env:=by rfl) (hpl:(backTo pos (starEach es X.env)).any (·.1) = false:=by rfl)
    (ht:eval (.Call (.Attribute o m apos) (e :: es) [] pos) X.env = (do
      let ov ← eval o X.env
      standAt apos.atName
      let (f,first) ← holding [ov] (getMethod ov m pl)
      callWith pos f first (backTo pos (starEach (e :: es) X.env)) (backToKw pos (keywordEach [] X.env))):=by rfl) :
    PE X (.Call (.Attribute o m apos) (e :: es) [] pos) (tMeth C m sp dvs E ta t):=by
  intro pins s σ H Q I h
  refine PySem.W.methodCall_KW (pl:=pl) (thn (he pins s σ H _ I h) fun u s1 x__48 => ?_) ht
  obtain ⟨x,H1,I1,rx,a,dx,fs,ex,ea,l,q⟩:=x__48
  subst ex
  obtain rfl:u = Value.ref a:=rx
  refine getmeth_ok I1 ea c hm l ?_
  refine PySem.W.callWith_K (first:=[.ref a]) (h₀:=X.base) I.ok.mod.kin hm.kp (thn (ha pos pins s1 σ H1 _ I1 q) fun us s2 ⟨vs,H2,I2,r,q2⟩ => ⟨I2.kIn,?_⟩) hst hpl
  exact run_fn (us:=.ref a :: us) (vs:=.ref a :: vs) F hr hb hd hx I2 (.cons rfl r) q2
structure Mk (K:PySem.W.Frag) (C f:Addr):Prop where
  makes:PySem.W.makesIn K C = true
  init:PySem.W.findIn K (.ref C) "__init__" = some (some (.ref f))
  fn:PySem.W.isFn K (.ref f) = true
  kp:PySem.W.keepIn K (.ref C) = true

theorem run_make {pins:List (Addr × Obj)} {σ:St} {H:Hp} {s:Shared} {Q:VK} {us:List Value} {vs:List V} (M:Mk X.K C f) (F:FnOk X.prog X.w X.K X.mg X.base CX k f fd ps sp) (hr:Room (k + 1) X.A) (hb:Binds X.K fd ps ds) (hd:Vals dvs ds)
    (hx:Passes CX X E) (I:Inv X pins σ H s) (r:Vals vs us)
    (h:∀ x dx,H x = none→H dx = none→dx ≠ x→sp (.ref x :: (vs ++ dvs)) (upd (upd H dx (.own x)) x (.ins C dx [])) (fun v H2 => v = .non∧Q (.ref x) H2) E) :
    wpAny (model X.prog X.w) X.A (call (.ref C) us) (EP X pins σ Q) X.xe s:=by
  have hq:=h (s.heap.objs.size + 1) s.heap.objs.size (I.hok.fresh (Nat.le_succ _)) (I.hok.fresh (Nat.le_refl _)) (Nat.ne_of_lt (Nat.lt_succ_self _))
  have I2:=Inv.made (C:=C) I
  have r2:Vals (V.ref (s.heap.objs.size + 1) :: (vs ++ dvs)) (Value.ref (s.heap.objs.size + 1) :: (us ++ ds)):=.cons rfl (r.append hd)
  have hl:(Value.ref (s.heap.objs.size + 1) :: us ++ ds).length = ps.length:=by
    have e:=r2.length
    rw [F.len _ _ _ _ hq] at e
    exact e.symm
  refine wpAny_call (make_map (f:=f) I.kIn M.makes M.init (beq_iff_eq.mp M.fn) (codeAny_mono (F.run _ X.stack _ _ ⟨Value.ref (s.heap.objs.size + 1) :: us,[]⟩ (Value.ref (s.heap.objs.size + 1) :: (us ++ ds)) _ _ E (hr.make C us [])
    (I2.env0.make C us []) (hb _ (Value.ref (s.heap.objs.size + 1) :: us) I2.kIn hl) r2 hq) fun r s' hq' => ?_))
  cases r with
  | error e => exact hx pins σ _ _ e s' I2 hq'
  | ok fl =>
    cases fl with
    | ret u =>
      obtain ⟨v,H',I3,rv,ev,q3⟩:=I2.after hq'
      subst ev
      exact ⟨rv,⟨V.ref (s.heap.objs.size + 1),H',I3,rfl,q3⟩⟩
    | next => exact False.elim hq'
    | brk => exact False.elim hq'
    | cont => exact False.elim hq'
theorem pe_make (M:Mk X.K C f) (F:FnOk X.prog X.w X.K X.mg X.base CX k f fd ps sp) (hr:Room (k + 1) X.A) (hg:Gl X x) (hm:X.mg x = some (.ref C)) (hb:Binds X.K fd ps ds) (hd:Vals dvs ds) (hx:Passes CX X E)
    (ha:PA X (e :: es) t) (hdb:(x == ("__debug__":Str)) = false:=by decide) (he:starEach (e :: es) X.env = (false,eval e X.env) :: starEach es X.env:=by rfl) (hpl:(backTo pos (starEach es X.env)).any (·.1) = false:=by rfl) :
    PE X (.Call (.Name x p) (e :: es) [] pos) (tMake C sp dvs E t):=by
  intro pins s σ H Q I h
  refine wpAny_Call_Name_kw (ld_glob I hg hm ?_ hdb)
  refine PySem.W.callWith_K (h₀:=X.base) I.ok.mod.kin M.kp (thn (ha pos pins s σ H _ I h) fun us s1 ⟨vs,H1,I1,r,q⟩ => ⟨I1.kIn,?_⟩) he hpl
  exact run_make M F hr hb hd hx I1 r q
end

section
variable {X:Cx} {CX:CXT} {k:Nat} {f C:Addr} {fd:FuncData} {ps ks:List Str} {sp:Sp} {E:XK} {x m:Str} {p pos apos kpos:Pos} {e o:Expr} {es:List Expr} {kws:List Keyword} {te ta:TE} {t tk:TA} {nm:Option Str}
structure KBinds (K:PySem.W.Frag) (fd:FuncData) (ps ks:List Str) (g:List Value→List Value→List Value) (gV:List V→List V→List V):Prop where
  to:∀ (s:Shared) (us ws:List Value),K.In s.heap→(g us ws).length = ps.length→BindsTo s fd ⟨us,ks.zip ws⟩ (ps.zip (g us ws))
  rel:∀ {vs:List V} {us:List Value} {zs:List V} {ws:List Value},Vals vs us→Vals zs ws→Vals (gV vs zs) (g us ws)
variable {g:List Value→List Value→List Value} {gV:List V→List V→List V}
end

structure FnScope (N P:List Str) (sc:Scope):Prop where
  kind:sc.kind = .function
  co:sc.isCoroutine = false
  gen:sc.isGenerator = false
  nd:N.Nodup
  pre:N.take P.length = P
  par:∀ x ∈ P,sc.names.lookup x = some .local ∨ sc.names.lookup x = some .cell
  nofree:∀ y ∈ sc.names,y.2 ≠ .free

theorem bindL_out {kindOf:Str→Option NameKind} {x:Str}:∀ {binds:List (Str × Value)} {m:Str→Option Value},(∀ v,(x,v) ∉ binds)→bindL kindOf binds m x = m x
  | [],_,_ => rfl
  | (n,v) :: r,m,h => by
    unfold bindL
    rw [bindL_out fun w hw => h w (List.mem_cons_of_mem _ hw)]
    split
    · have:x ≠ n:=by rintro rfl; exact h v List.mem_cons_self
      simp [this]
    · rfl
theorem bindC_out {kindOf:Str→Option NameKind} {x:Str}:∀ {binds:List (Str × Value)} {m:Str→Option Value},(∀ v,(x,v) ∉ binds)→bindC kindOf binds m x = m x
  | [],_,_ => rfl
  | (n,v) :: r,m,h => by
    unfold bindC
    rw [bindC_out fun w hw => h w (List.mem_cons_of_mem _ hw)]
    split
    · rfl
    · have:x ≠ n:=by rintro rfl; exact h v List.mem_cons_self
      simp [this]
theorem bindL_get {kindOf:Str→Option NameKind} {x:Str} {v:Value}:∀ {P:List Str} {vs:List Value} {i:Nat} {m:Str→Option Value},P.Nodup→P[i]? = some x→vs[i]? = some v→kindOf x = some .local →
    bindL kindOf (P.zip vs) m x = some v
  | [],_,_,_,_,h,_,_ => by simp at h
  | _ :: _,[],_,_,_,_,h,_ => by simp at h
  | p :: P,w :: vs,0,m,nd,h1,h2,hk => by
    simp at h1 h2; subst h1; subst h2
    show bindL kindOf ((p,w) :: P.zip vs) m p = _
    unfold bindL
    rw [bindL_out fun v hv => (List.nodup_cons.mp nd).1 (List.of_mem_zip hv).1,if_pos hk]
    simp
  | p :: P,w :: vs,i + 1,m,nd,h1,h2,hk => by
    show bindL kindOf ((p,w) :: P.zip vs) m x = _
    unfold bindL
    exact bindL_get (i:=i) (List.nodup_cons.mp nd).2 (by simpa using h1) (by simpa using h2) hk
theorem bindC_get {kindOf:Str→Option NameKind} {x:Str} {v:Value}:∀ {P:List Str} {vs:List Value} {i:Nat} {m:Str→Option Value},P.Nodup→P[i]? = some x→vs[i]? = some v→kindOf x ≠ some .local →
    bindC kindOf (P.zip vs) m x = some v
  | [],_,_,_,_,h,_,_ => by simp at h
  | _ :: _,[],_,_,_,_,h,_ => by simp at h
  | p :: P,w :: vs,0,m,nd,h1,h2,hk => by
    simp at h1 h2; subst h1; subst h2
    show bindC kindOf ((p,w) :: P.zip vs) m p = _
    unfold bindC
    rw [bindC_out fun v hv => (List.nodup_cons.mp nd).1 (List.of_mem_zip hv).1,if_neg hk]
    simp
  | p :: P,w :: vs,i + 1,m,nd,h1,h2,hk => by
    show bindC kindOf ((p,w) :: P.zip vs) m x = _
    unfold bindC
    exact bindC_get (i:=i) (List.nodup_cons.mp nd).2 (by simpa using h1) (by simpa using h2) hk

noncomputable def start (N:List Str) (vs:List V):St:=vs.map some ++ List.replicate (N.length - vs.length) none

noncomputable def cxOf (CX:CXT) (P:Program) (w:World) (K:PySem.W.Frag) (mg:Str→Option Value) (base:Heap) (N:List Str) (qual:Str) (scope:Scope) (f:Addr) (cd:Value) (A:Around) (outer:List Env) (s:Shared) (H:Hp) (E:XK):Cx where
  prog:=P
  w:=w
  K:=K
  mg:=mg
  base:=base
  A:=A.deeper (envOfC qual scope s.heap.objs.size f cd)
  N:=N
  s₀:=s
  H₀:=H
  env:=envOfC qual scope s.heap.objs.size f cd
  outer:=outer
  stack:=envOfC qual scope s.heap.objs.size f cd :: outer
  ex:=[]
  calm:=true
  fn:=fun _ => true
  pn:=[]
  xe:=fun e s' => wpAny (model P w) (A.deeper (envOfC qual scope s.heap.objs.size f cd)) (leaving (envOfC qual scope s.heap.objs.size f cd) e) (fun _ s'' => CX outer H s E e s'') (fun e' s'' => CX outer H s E e' s'') s'

theorem cell_has {sc:Scope} {n:Nat} {x:Str} (h:sc.names.lookup x = some .cell):∃ c,(cellsFrom n sc.names []).lookup x = some c:=by
  have q:=PySem.W.cellsFrom_some sc.names n [] (.inl h)
  exact Option.isSome_iff_exists.mp q

theorem inv_start {CX:CXT} {P:Program} {w:World} {K:PySem.W.Frag} {mg:Str→Option Value} {base:Heap} {N ps:List Str} {qual:Str} {scope:Scope} {f:Addr} {cd:Value} {A:Around} {outer:List Env} {s s1:Shared} {H:Hp} {E:XK} {us:List Value} {vs:List V}
    (S:FnScope N ps scope) (hd:A.handled = none) (e0:Env0 P w K mg base A outer s H) (hl:vs.length = ps.length) (r:Vals vs us)
    (x:InCallC s s.heap.objs.size (bindL (envOfC qual scope s.heap.objs.size f cd).kindOf (ps.zip us) fun _ => none) (cellsFrom (s.heap.objs.size + 1) scope.names []) (bindC (envOfC qual scope s.heap.objs.size f cd).kindOf (ps.zip us) fun _ => none) s1) :
    Inv (cxOf CX P w K mg base N qual scope f cd A outer s H E) [] (start N vs) H s1:=by
  have hpl:ps.length ≤ N.length:=by have:=congrArg List.length S.pre; rw [List.length_take] at this; omega
  obtain ⟨h1,tk,rfl,hk⟩:=x.done
  have noA:∀ b:Addr,b ∉ (cxOf CX P w K mg base N qual scope f cd A outer s H E).ex:=fun b z => absurd (show b ∈ ([]:List Addr) from z) (by simp)
  refine ⟨⟨e0.mod,S.kind,rfl,rfl,Nat.le_refl _,fun y z c h1 h2 => ?_,fun y hy => ?_,fun y c _ h => ?_,fun _ => hd,Around.frames_deeper e0.frames,.inr ⟨rfl,rfl⟩,fun b z => absurd z (noA b),e0.bs,e0.bsz,fun b _ _ => noA b,fun b z => absurd z (noA b),e0.funs,e0.frf⟩,
    rfl,e0.bare,Un.kept hk,⟨_,x.toInCall.ns,fun i y v h1 h2 h3 => ?_⟩,fun y c h => ⟨_,x.cell y c h⟩,e0.hok.fresh (Nat.le_refl _),fun y c h => ?_,fun p hp => absurd (show p ∈ ([]:List (Addr × Obj)) from hp) (by simp),e0.hok.kept hk,?_⟩
  · exact name_of_addr x.apart (PySem.mem_of_lookup h1) (PySem.mem_of_lookup h2)
  · have hy:scope.names.lookup y = some .cell ∨ scope.names.lookup y = some .free:=hy
    rcases hy with hy | hy
    · exact cell_has hy
    · exact absurd rfl (S.nofree _ (PySem.mem_of_lookup hy))
  · exact Nat.le_of_lt (x.above y c (PySem.mem_of_lookup h))
  · have hi:i < vs.length:=by
      unfold start at h2
      by_cases hi:i < vs.length
      · exact hi
      · rw [List.getElem?_append_right (by simpa using hi)] at h2
        rw [List.getElem?_replicate] at h2
        split at h2 <;> cases h2
    have ha:vs[i]? = some v:=by
      unfold start at h2
      rw [List.getElem?_append_left (by simpa using hi),List.getElem?_map] at h2
      cases e:vs[i]? with
      | none => rw [e] at h2; cases h2
      | some a => rw [e] at h2; cases h2; rfl
    obtain ⟨u,hu,rv⟩:=r.get ha
    have hp:ps[i]? = some y:=by
      rw [← S.pre,List.getElem?_take_of_lt (by omega)]; exact h1
    have ndP:ps.Nodup:=by rw [← S.pre]; exact S.nd.sublist (List.take_sublist _ _)
    refine ⟨u,rv,?_⟩
    rcases S.par y (List.mem_of_getElem? hp) with k | k
    · exact .inl ⟨k,bindL_get ndP hp hu k⟩
    · obtain ⟨c,e⟩:=cell_has (n:=s.heap.objs.size + 1) k
      refine .inr ⟨.inl k,c,e,?_⟩
      have q:=x.cell y c e
      rw [bindC_get ndP hp hu (by show scope.names.lookup y ≠ _; rw [k]; decide)] at q
      exact q
  · exact e0.hok.fresh (Nat.le_of_lt (x.above y c (PySem.mem_of_lookup h)))
  · unfold start
    show _ = N.length
    rw [List.length_append,List.length_map,List.length_replicate]
    omega

theorem fn_of {CX:CXT} {P:Program} {w:World} {K:PySem.W.Frag} {mg:Str→Option Value} {base:Heap} {k:Nat} {f:Addr} {name qual:Str} {params:Arguments} {body:List Stmt} {scope:Scope} {dV kV doc pm cdv ct oc:Value} {an od:Option Addr}
    {osl:Array (Option Value)} {N ps:List Str} {sp:Sp} (lk:K.lookup f = some ⟨oc,od,.func (PySem.W.fnOf name qual params body scope dV kV doc pm an cdv ct),osl⟩) (hcd:PySem.W.codeIn K cdv qual = true) (S:FnScope N ps scope)
    (len:∀ vs H Q E,sp vs H Q E→vs.length = ps.length)
    (hbody:∀ (A:Around) (outer:List Env) (s:Shared) (H:Hp) (vs:List V) (Q:VK) (E:XK),Room k (A.deeper (envOfC qual scope s.heap.objs.size f cdv))→sp vs H Q E →
      ∃ t,PSs (cxOf CX P w K mg base N qual scope f cdv A outer s H E) body t∧t { nx:=fun _ H' => Q .non H',rt:=Q } (start N vs) H) :
    FnOk P w K mg base CX (k + 1) f (PySem.W.fnOf name qual params body scope dV kV doc pm an cdv ct) ps sp:=by
  refine ⟨len,fun A outer s H args us vs Q E hr e0 hb r hsp => ?_⟩
  have hl:=len _ _ _ _ hsp
  have KX:K.In s.heap:=e0.mod.kin.keeps fun b o e => (e0.bs b o e).1
  have lim:s.heap.NoLimit:=e0.mod.nolimit.keeps fun b o e => (e0.bs b o e).1
  have hkind:∀ y ∈ ps.zip us,scope.names.lookup y.1 = some .local ∨ (scope.names.lookup y.1 = some .cell∧((cellsFrom (s.heap.objs.size + 1) scope.names []).lookup y.1).isSome = true):=fun x__51 hy => by
    obtain ⟨n,v⟩:=x__51
    rcases S.par n (List.of_mem_zip hy).1 with q | q
    · exact .inl q
    · exact .inr ⟨q,PySem.W.cellsFrom_some _ _ _ (.inl q)⟩
  refine codeAny_call_function hr.depth (KX _ _ lk) rfl S.co S.gen rfl (PySem.W.codeRec_of KX hcd) (hb _ _ _ _ ?_)
  refine wpAny_newFunctionEnv_cells S.kind hkind fun env he s1 x => ?_
  subst he
  refine ⟨lim.keeps x.toInCall.keep,codeAny_func ?_⟩
  obtain ⟨t,ht,hq⟩:=hbody A outer s H vs Q E (hr.deeper _) hsp
  have I:Inv (cxOf CX P w K mg base N qual scope f cdv A outer s H E) [] (start N vs) H s1:=inv_start S hr.hd e0 hl r x
  refine wpAny_mono (ht [] s1 (start N vs) H _ I hq) (fun fl s' hs => ?_) fun e s' hs => hs
  have fin:∀ {σ':St} {H':Hp} {v:V} {u:Value},Inv (cxOf CX P w K mg base N qual scope f cdv A outer s H E) [] σ' H' s'→RelV v u→Q v H'→CE outer P w H s Q u s' :=
    fun {σ' H' v u} J rv q => ⟨v,H',J.os,J.bare,J.base,J.hok,rv,q⟩
  cases fl with
  | ret u =>
    obtain ⟨v,σ',H',J,rv,q⟩:=hs
    exact fin J rv q
  | next =>
    obtain ⟨σ',H',J,q⟩:=hs
    exact fin (v:=V.non) (u:=Value.none) J rfl q
  | brk =>
    obtain ⟨_,_,_,q⟩:=hs
    exact False.elim q
  | cont =>
    obtain ⟨_,_,_,q⟩:=hs
    exact False.elim q
end L2

namespace L2
open PySem PySem.Spec PyProof.Rows
section
variable {X:Cx} {x:Str} {p pos:Pos} {e:Expr} {es:List Expr} {t:TA} {id T:String} {r:List V→Hp→VK→Prop}

noncomputable def tCB (r:List V→Hp→VK→Prop) (t:TA):TE:=fun σ H Q => t σ H fun vs H1 => r vs H1 Q
theorem pe_callB (hc:CallR X (.builtin id) r) (hg:Gl X x) (hm:X.mg x = none) (hv:bootBuiltins x = some (.builtin id)) (ha:PA X (e :: es) t) (hn:x ≠ "__name__":=by decide) (hdb:(x == ("__debug__":Str)) = false:=by decide)
    (he:starEach (e :: es) X.env = (false,eval e X.env) :: starEach es X.env:=by rfl) (hpl:(backTo pos (starEach es X.env)).any (·.1) = false:=by rfl):PE X (.Call (.Name x p) (e :: es) [] pos) (tCB r t):=by
  intro pins s σ H Q I h
  refine wpAny_Call_Name_kw (ld_blt I hg hm hv ?_ hn hdb)
  exact PyProof.Rows.callWith_builtin1 (thn (ha pos pins s σ H _ I h) fun us s1 x__52 => (by obtain ⟨vs,H1,I1,r1,q1⟩:=x__52; exact hc pins s1 σ H1 vs us Q I1 r1 q1)) he hpl
theorem pe_callTy (hc:CallR X (.type T) r) (hg:Gl X x) (hm:X.mg x = none) (hv:bootBuiltins x = some (.type T)) (ha:PA X (e :: es) t) (hn:x ≠ "__name__":=by decide) (hdb:(x == ("__debug__":Str)) = false:=by decide)
    (he:starEach (e :: es) X.env = (false,eval e X.env) :: starEach es X.env:=by rfl) (hpl:(backTo pos (starEach es X.env)).any (·.1) = false:=by rfl):PE X (.Call (.Name x p) (e :: es) [] pos) (tCB r t):=by
  intro pins s σ H Q I h
  refine wpAny_Call_Name_kw (ld_blt I hg hm hv ?_ hn hdb)
  exact PyProof.Rows.callWith_type1 (thn (ha pos pins s σ H _ I h) fun us s1 x__53 => (by obtain ⟨vs,H1,I1,r1,q1⟩:=x__53; exact hc pins s1 σ H1 vs us Q I1 r1 q1)) he hpl
end
end L2

namespace HT
open PySem PyProof.Rows

section
open PySem.SeqAt
open PySem.AutoSeq1 (wpAny_loadPart')
open PySem.MeetsSeq PySem.MeetsSeq2 PySem.MeetsSeq3

end

section
variable {prog:Program} {w:World} {A:Around} {E:Value→Shared→Prop} {s:Shared}

theorem cat_tup {t b:Addr} {vs ws:List Value} {Q:Value→Shared→Prop} (ht:IsTup s.heap t vs.toArray) (hb:IsTup s.heap b ws.toArray) (hv:vs ≠ [])
    (h1:ws = []→Q (.ref t) s) (h2:ws ≠ []→Q (.ref s.heap.objs.size) { s with heap:=s.heap.push { cls:=.type "tuple",data:=.seq (vs ++ ws).toArray } })
    (hsz:vs.length + ws.length ≤ sizeLine):wpAny (model prog w) A (binaryOp .Add (.ref t) (.ref b)) Q E s:=by
  obtain ⟨⟨cls,dd,data,sl⟩,ho,hc,n,hd⟩:=id ht
  obtain ⟨⟨cls2,dd2,data2,sl2⟩,ho2,hc2,n2,hd2⟩:=id hb
  simp only at hc hd hc2 hd2
  subst hc hd hc2 hd2
  have e:vs.toArray ++ ws.toArray = (vs ++ ws).toArray:=by simp
  by_cases hw:ws = []
  · exact concat_meets ⟨_,ho,rfl⟩ ⟨_,ho2,rfl⟩ noFill_tuple_add seq_tuple_add PySem.F.slot_tuple_add PySem.F.entry_tuple_add (PySem.F.args_tuple_add_2 _ _)
      (tuple_addW1 t b vs.toArray ws.toArray n n2 dd dd2 sl sl2 (by simpa using hv) (by simp [hw])) ⟨ho,ho2,h1 hw⟩
  · refine concat_meets ⟨_,ho,rfl⟩ ⟨_,ho2,rfl⟩ noFill_tuple_add seq_tuple_add PySem.F.slot_tuple_add PySem.F.entry_tuple_add (PySem.F.args_tuple_add_2 _ _)
      (tuple_addW2 t b vs.toArray ws.toArray n n2 dd dd2 sl sl2 (by simpa using hv) (by simpa using hw) (by rw [List.size_toArray,List.size_toArray]; exact hsz)) ⟨ho,ho2,?_⟩
    rw [e]
    exact h2 hw

noncomputable def sIx (n d:Nat):Option Int→Nat
  | none => d
  | some v => if v < 0 then (v + (n:Int)).toNat else min v.toNat n
theorem sIx_none (n d:Nat):sIx n d none = d:=rfl
theorem sIx_nat (n d k:Nat):sIx n d (some (k:Int)) = min k n:=by
  show (if (k:Int) < 0 then ((k:Int) + (n:Int)).toNat else min (k:Int).toNat n) = min k n
  rw [if_neg (by omega),Int.toNat_natCast]
theorem sIx_le (n d:Nat) (hd:d ≤ n) (o:Option Int):sIx n d o ≤ n:=by
  cases o with
  | none => exact hd
  | some v =>
    show (if v < 0 then (v + (n:Int)).toNat else min v.toNat n) ≤ n
    by_cases hv:v < 0
    · rw [if_pos hv]; omega
    · rw [if_neg hv]; exact Nat.min_le_right _ _
theorem clip_eq (v:Int) (n d:Nat):(if v < 0 then max (v + (n:Int)) 0 else min v (n:Int)) = ((sIx n d (some v):Nat):Int):=by
  show (if v < 0 then max (v + (n:Int)) 0 else min v (n:Int)) = (((if v < 0 then (v + (n:Int)).toNat else min v.toNat n):Nat):Int)
  by_cases hv:v < 0
  · simp only [if_pos hv]; omega
  · simp only [if_neg hv]; omega
theorem adjust_gen (lo hi:Option Int) (n:Nat):Builtin.Slice.sliceAdjust lo hi 1 (n:Int) = (((sIx n 0 lo:Nat):Int),((sIx n n hi:Nat):Int)):=by
  have h1:¬ ((1:Int) < 0):=by omega
  unfold Builtin.Slice.sliceAdjust
  simp only [h1,if_false]
  refine Prod.ext ?_ ?_
  · cases lo with
    | none => rfl
    | some v => exact clip_eq v n 0
  · cases hi with
    | none => rfl
    | some v => exact clip_eq v n n
theorem places_gen (i j:Nat):Builtin.Slice.slicePlaces (i:Int) (j:Int) 1 = j - i:=by
  unfold Builtin.Slice.slicePlaces
  have h1:(1:Int) > 0:=by omega
  simp only [h1,if_true,Int.ediv_one]
  split <;> omega
theorem slicePart_ {v:Value} {o:Option Int} {Q:Option Int→Shared→Prop} (p:IsPart v o) (h:Q o s):wpAny (model prog w) A (Builtin.Slice.slicePartIndex v) Q E s:=by
  cases p with
  | none => exact slicePart_none h
  | int i t => exact slicePart_int h
theorem sliceApplied_gen {sl:Addr} {vl vu:Value} {lo hi:Option Int} {n:Nat} {Q:Int × Int × Nat→Shared→Prop} (hs:s.heap.IsSliceOf sl vl vu .none) (pl:IsPart vl lo) (pu:IsPart vu hi)
    (h:Q (((sIx n 0 lo:Nat):Int),1,sIx n n hi - sIx n 0 lo) s):wpAny (model prog w) A (Builtin.Slice.sliceApplied (.ref sl) (pure (n:Int))) Q E s:=by
  obtain ⟨os,hos,hcs,hds⟩:=id hs
  unfold Builtin.Slice.sliceApplied Builtin.Slice.sliceFields
  refine wpAny_bind (wpAny_bind (wpAny_field hos hds (x:=vl) rfl (wpAny_bind (wpAny_field hos hds (x:=vu) rfl (wpAny_bind (wpAny_field hos hds (x:=.none) rfl (wpAny_pure ?_)))))))
  refine wpAny_bind (slicePart_none ?_)
  show wpAny _ _ (if ((1:Int) == 0) = true then _ else _) _ _ s
  rw [if_neg (by decide)]
  refine wpAny_bind (slicePart_ pl (wpAny_bind (slicePart_ pu (wpAny_bind (wpAny_pure ?_)))))
  show wpAny _ _ (match Builtin.Slice.sliceAdjust lo hi 1 (n:Int) with | (lo,hi) => pure (lo,(1:Int),Builtin.Slice.slicePlaces lo hi 1)) _ _ s
  rw [adjust_gen lo hi n]
  show wpAny _ _ (pure (((sIx n 0 lo:Nat):Int),(1:Int),Builtin.Slice.slicePlaces ((sIx n 0 lo:Nat):Int) ((sIx n n hi:Nat):Int) 1)) _ _ s
  rw [places_gen]
  exact wpAny_pure h
theorem pick_gen (xs:Array Value) (i k:Nat):((List.range k).filterMap fun (m:Nat) => xs[((i:Int) + (m:Int) * 1).toNat]?).toArray = ((xs.toList.drop i).take k).toArray:=by
  have e:(fun (m:Nat) => xs[((i:Int) + (m:Int) * 1).toNat]?) = fun m => xs[i + m]?:=by
    funext m
    have:((i:Int) + (m:Int) * 1).toNat = i + m:=by omega
    rw [this]
  rw [e]
  have:=pick_run xs i k
  rw [List.filterMap_map] at this
  have e2:((fun x => xs[x]?) ∘ fun x => i + x) = fun m => xs[i + m]?:=rfl
  rw [e2] at this
  rw [this]

theorem getItem_tuple_cut {t sl:Addr} {items:Array Value} {vl vu:Value} {lo hi:Option Int} {Q:Value→Shared→Prop} (ht:IsTup s.heap t items) (hs:s.heap.IsSliceOf sl vl vu .none) (pl:IsPart vl lo) (pu:IsPart vu hi)
    (hw:¬ (sIx items.size 0 lo = 0∧sIx items.size items.size hi = items.size))
    (h:Q (.ref s.heap.objs.size) { s with heap:=s.heap.push { cls:=.type "tuple",data:=.seq ((items.toList.drop (sIx items.size 0 lo)).take (sIx items.size items.size hi - sIx items.size 0 lo)).toArray } })
    (hsz:items.size ≤ sizeLine):wpAny (model prog w) A (getItem (.ref t) (.ref sl)) Q E s:=by
  have htake:sizeOk (.seq ((items.toList.drop (sIx items.size 0 lo)).take (sIx items.size items.size hi - sIx items.size 0 lo)).toArray):=by
    show ((items.toList.drop (sIx items.size 0 lo)).take (sIx items.size items.size hi - sIx items.size 0 lo)).toArray.size ≤ sizeLine
    rw [List.size_toArray,List.length_take,List.length_drop,Array.length_toList]
    omega
  have hj:sIx items.size items.size hi ≤ items.size:=sIx_le _ _ (Nat.le_refl _) hi
  obtain ⟨os,hos,hcs,hds⟩:=id hs
  have hTs:s.TypeIs (.ref sl) "slice":=⟨os,hos,hcs⟩
  unfold getItem
  try with_reducible refine wpAny_holding ?_
  first | refine wpAny_bind (wpAny_pure ?_) | skip
  refine wpAny_bind (wpAny_sequenceKey ht.typeIs (by decide) ?_)
  refine wpAny_bind (wpAny_callSpecial?_slot (name:=Str.ofString "__getitem__") ht.typeIs PyProof.Rows.slot_tuple_getitem
    (wpAny_call_entry PyProof.Rows.slot_tuple_getitem ht.typeIs entry_tuple_getitem ?_ (args_tuple_getitem _ _)))
  show wpAny _ _ (Builtin.Tuple.tupleItemsOf (.ref t) >>= _) _ _ s
  refine wpAny_bind (tupleItemsOf_ ht ?_)
  refine wpAny_bind (wpAny_typeOf hTs ?_)
  rw [if_pos (by decide)]
  refine wpAny_bind (sliceApplied_gen hs pl pu ?_)
  have hno:¬ ((((sIx items.size 0 lo:Nat):Int) == 0 && (1:Int) == 1 && (sIx items.size items.size hi - sIx items.size 0 lo) == items.size) = true):=by
    intro q
    rw [Bool.and_eq_true,Bool.and_eq_true] at q
    have q1:((sIx items.size 0 lo:Nat):Int) = 0:=eq_of_beq q.1.1
    have q2:sIx items.size items.size hi - sIx items.size 0 lo = items.size:=eq_of_beq q.2
    exact hw ⟨by omega,by omega⟩
  show wpAny _ _ (if (((sIx items.size 0 lo:Nat):Int) == 0 && (1:Int) == 1 && (sIx items.size items.size hi - sIx items.size 0 lo) == items.size) = true then _ else _) _ _ s
  rw [if_neg hno,pick_gen]
  first
    | exact wpAny_bind (m:=Builtin.Tuple.tupleExact _) (wpAny_newObj_type (wpAny_pure ⟨_,rfl,wpAny_pure h⟩) htake)
    | exact wpAny_bind (m:=Builtin.Tuple.tupleExact _) (wpAny_newObj_type (wpAny_bind (wpAny_pure (wpAny_pure ⟨_,rfl,wpAny_pure h⟩))) htake)
    | exact wpAny_bind (wpAny_bind (m:=Builtin.Tuple.tupleExact _) (wpAny_newObj_type (wpAny_pure (wpAny_pure ⟨_,rfl,wpAny_pure h⟩)) htake))
    | exact wpAny_bind (wpAny_bind (m:=Builtin.Tuple.tupleExact _) (wpAny_newObj_type (wpAny_pure ⟨_,rfl,wpAny_pure h⟩) htake))
end
end HT

namespace L2
open PySem PySem.Spec PyProof.Rows

noncomputable abbrev TO:=St→Hp→(Option Int→Hp→Prop)→Prop
noncomputable def PO (X:Cx) (e:Option Expr) (t:TO):Prop :=
  ∀ (pins:List (Addr × Obj)) (s:Shared) (σ:St) (H:Hp) (Q:Option Int→Hp→Prop),Inv X pins σ H s→t σ H Q →
    wpAny (model X.prog X.w) X.A (evalPart e X.env) (fun u s' => ∃ o H',Inv X pins σ H' s'∧IsPart u o∧Q o H') X.xe s
noncomputable def tNoPart:TO:=fun _ H Q => Q none H
noncomputable def tPart (t:TE):TO:=fun σ H Q => t σ H fun x H1 => ∃ i,x = .int i∧Q (some i) H1

section
variable {X:Cx} {e:Expr} {te:TE} {lo hi:Option Expr} {tl th:TO} {pos p2:Pos}

theorem po_none:PO X none tNoPart:=by
  intro pins s σ H Q I h
  rw [evalPart_none]
  exact wpAny_pure ⟨none,H,I,.none,h⟩
theorem po_some (h:PE X e te):PO X (some e) (tPart te):=by
  intro pins s σ H Q I hw
  rw [evalPart_some]
  refine thn (h pins s σ H _ I hw) fun u s1 x__54 => ?_
  obtain ⟨x,H1,I1,r1,q1⟩:=x__54
  obtain ⟨i,rfl,q⟩:=q1
  obtain ⟨t,rfl⟩:=r1
  exact ⟨some i,H1,I1,.int i t,q⟩

noncomputable def SlR (X:Cx) (r:V→Option Int→Option Int→Hp→VK→Prop):Prop :=
  ∀ (pins:List (Addr × Obj)) (s:Shared) (σ:St) (H:Hp) (x:V) (v vl vu:Value) (lo hi:Option Int) (sl:Addr) (Q:VK),Inv X pins σ H s→RelV x v→s.heap.IsSliceOf sl vl vu .none→IsPart vl lo→IsPart vu hi→r x lo hi H Q →
    ∃ T id,typeLookup (.type T) "__getitem__" = pure (some (.builtin id))∧s.TypeIs v T∧wpAny (model X.prog X.w) X.A (getItem v (.ref sl)) (EP X pins σ Q) X.xe s
theorem SlR.or {r r':V→Option Int→Option Int→Hp→VK→Prop} (h:SlR X r) (h':SlR X r'):SlR X (fun x lo hi H Q => r x lo hi H Q ∨ r' x lo hi H Q):=by
  intro pins s σ H x v vl vu lo hi sl Q I rx hs pl pu q
  rcases q with q | q
  · exact h pins s σ H x v vl vu lo hi sl Q I rx hs pl pu q
  · exact h' pins s σ H x v vl vu lo hi sl Q I rx hs pl pu q
noncomputable def tSl (r:V→Option Int→Option Int→Hp→VK→Prop) (te:TE) (tl th:TO):TE:=fun σ H Q => te σ H fun x H1 => tl σ H1 fun l H2 => th σ H2 fun u H3 => r x l u H3 Q
theorem pe_slice {r:V→Option Int→Option Int→Hp→VK→Prop} (hr:SlR X r) (he:PE X e te) (hl:PO X lo tl) (hu:PO X hi th):PE X (.Subscript e (.Slice lo hi none p2) pos) (tSl r te tl th):=by
  intro pins s σ H Q I h
  refine Subscript_ (thn (he pins s σ H _ I h) fun v s1 x__55 => ?_)
  obtain ⟨x,H1,I1,r1,q1⟩:=x__55
  refine wpAny_Slice (thn (hl pins s1 σ H1 _ I1 q1) fun vl s2 ⟨l,H2,I2,pl,q2⟩ => thn (hu pins s2 σ H2 _ I2 q2) fun vu s3 x__57 => ?_)
  obtain ⟨u,H3,I3,pu,q3⟩:=x__57
  rw [evalPart_none]
  refine wpAny_pure ?_
  have I4:Inv X pins σ H3 { s3 with heap:=s3.heap.push { cls:=.type "slice",data:=.fields #[vl,vu,.none] } }:=I3.kept (t':=s3.toks) fun b ob q => Heap.get?_push_of_some _ q
  obtain ⟨T,id,hT,ht,hg⟩:=hr pins { s3 with heap:=s3.heap.push { cls:=.type "slice",data:=.fields #[vl,vu,.none] } } σ H3 x v vl vu l u s3.heap.objs.size Q I4 r1 (Heap.IsSliceOf.new ..) pl pu q3
  show wpAny (model X.prog X.w) X.A (subscriptTail e (.Slice lo hi none p2) v (.ref s3.heap.objs.size)) (EP X pins σ Q) X.xe { s3 with heap:=s3.heap.push { cls:=.type "slice",data:=.fields #[vl,vu,.none] } }
  exact tail_any (ops:=[.ref s3.heap.objs.size,v]) ht hT hg (by with_unfolding_all rfl)

noncomputable def cutV (xs:List V) (lo hi:Option Int):List V:=(xs.drop (HT.sIx xs.length 0 lo)).take (HT.sIx xs.length xs.length hi - HT.sIx xs.length 0 lo)
theorem cutV_length (xs:List V) (lo hi:Option Int):(cutV xs lo hi).length ≤ xs.length:=by
  unfold cutV
  rw [List.length_take,List.length_drop]
  omega
noncomputable def rSlT (K:PySem.W.Frag):V→Option Int→Option Int→Hp→VK→Prop:=fun x lo hi H Q => ∃ a xs,x = .ref a∧SqT K H a xs ∧
  ¬ (HT.sIx xs.length 0 lo = 0∧HT.sIx xs.length xs.length hi = xs.length)∧∀ p,H p = none→Q (.ref p) (upd H p (.tup (cutV xs lo hi)))
theorem sl_tup:SlR X (rSlT X.K):=by
  intro pins s σ H x v vl vu lo hi sl Q I rx hs pl pu h
  obtain ⟨a,xs,rfl,hx,hw,q⟩:=h
  cases rx
  obtain ⟨its,r,ht,hz⟩:=I.tuple hx
  have hlen:its.toArray.size = xs.length:=by rw [List.size_toArray]; exact r.length.symm
  refine ⟨"tuple",_,PyProof.Rows.slot_tuple_getitem.lookup,ht.typeIs,?_⟩
  refine HT.getItem_tuple_cut ht hs pl pu (by rw [hlen]; exact hw) ?_ (by rw [hlen]; exact hz)
  rw [hlen]
  refine ⟨.ref s.heap.objs.size,_,I.laid (t':=s.toks) (o:=.tup (cutV xs lo hi)) (fun b ob q => Heap.get?_push_of_some _ q) (Nat.le_refl _) ?_,rfl,q _ (I.hok.fresh (Nat.le_refl _))⟩
  exact ⟨Nat.le_trans (cutV_length xs lo hi) hz,_,(r.drop (HT.sIx xs.length 0 lo)).take (HT.sIx xs.length xs.length hi - HT.sIx xs.length 0 lo),IsTup.new _ _⟩

noncomputable def rCatT (K:PySem.W.Frag):R2:=fun x y H Q => ∃ a b xs ys,x = .ref a∧y = .ref b∧SqT K H a xs∧SqT K H b ys∧xs ≠ []∧xs.length + ys.length ≤ sizeLine ∧
  (ys = []→Q (.ref a) H)∧(ys ≠ []→∀ p,H p = none→Q (.ref p) (upd H p (.tup (xs ++ ys))))
theorem Vals.nil_iff {xs:List V} {us:List Value} (r:Vals xs us):us = [] ↔ xs = []:=by
  cases r with
  | nil => simp
  | cons _ _ => simp
theorem op_catT:OpR X (binaryOp .Add) (rCatT X.K):=by
  intro pins s σ H x y v u Q I rx ry h
  obtain ⟨a,b,xs,ys,rfl,rfl,ha,hb,hx,hz,q1,q2⟩:=h
  cases rx
  cases ry
  obtain ⟨its,r1,p1,_⟩:=I.tuple ha
  obtain ⟨its2,r2,p2,_⟩:=I.tuple hb
  refine HT.cat_tup p1 p2 (fun z => hx (r1.nil_iff.mp z)) (fun z => ⟨.ref a,H,I,rfl,q1 (r2.nil_iff.mp z)⟩) (fun z => ?_) (by rw [← r1.length,← r2.length]; exact hz)
  refine ⟨.ref s.heap.objs.size,_,I.laid (t':=s.toks) (o:=.tup (xs ++ ys)) (fun b ob q => Heap.get?_push_of_some _ q) (Nat.le_refl _) ?_,rfl,q2 (fun w => z (r2.nil_iff.mpr w)) _ (I.hok.fresh (Nat.le_refl _))⟩
  exact ⟨by rw [List.length_append]; exact hz,_,r1.append r2,IsTup.new _ _⟩
end
end L2

namespace L2
open PySem PySem.Spec PyProof.Rows

noncomputable def ixN (n:Nat) (i:Int):Option Nat:=if 0 ≤ i then (if i < n then some i.toNat else none) else if -(n:Int) ≤ i then some (i + n).toNat else none
noncomputable def atI {α:Type} (xs:List α) (i:Int):Option α:=(ixN xs.length i).bind fun j => xs[j]?
theorem ixN_seq {n:Nat} {i:Int} {j:Nat} (h:ixN n i = some j):seqIndex? i n = some j∧j < n∧-(n:Int) ≤ i∧i < n:=by
  unfold ixN at h
  by_cases h0:0 ≤ i
  · rw [if_pos h0] at h
    by_cases h1:i < n
    · rw [if_pos h1] at h
      have e:i.toNat = j:=Option.some.inj h
      exact ⟨by rw [seqIndex_of h0 h1,e],by omega,by omega,h1⟩
    · rw [if_neg h1] at h; cases h
  · rw [if_neg h0] at h
    by_cases h1:-(n:Int) ≤ i
    · rw [if_pos h1] at h
      have e:(i + n).toNat = j:=Option.some.inj h
      exact ⟨by rw [seqIndex_neg (by omega) h1,e],by omega,h1,by omega⟩
    · rw [if_neg h1] at h; cases h
theorem atI_get {α:Type} {xs:List α} {i:Int} {v:α} (h:atI xs i = some v):∃ j,seqIndex? i xs.length = some j∧xs[j]? = some v∧j < xs.length∧-(xs.length:Int) ≤ i∧i < xs.length:=by
  unfold atI at h
  cases e:ixN xs.length i with
  | none => rw [e] at h; cases h
  | some j =>
    rw [e] at h
    obtain ⟨h1,h2,h3,h4⟩:=ixN_seq e
    exact ⟨j,h1,h,h2,h3,h4⟩
theorem atI_nat {α:Type} {xs:List α} {j:Nat} {v:α} (h:xs[j]? = some v):atI xs (j:Int) = some v:=by
  have hj:j < xs.length:=(List.getElem?_eq_some_iff.mp h).1
  have e:ixN xs.length (j:Int) = some j:=by
    unfold ixN
    rw [if_pos (by omega),if_pos (by omega)]; simp
  unfold atI; rw [e]; exact h
noncomputable def PlainIx (b:Expr):Prop:=∀ o i,subscripted b false o i = operate [o,i] (getItem o i)
noncomputable def IxR (X:Cx) (r:R2):Prop :=
  ∀ (value slice:Expr) (pins:List (Addr × Obj)) (s:Shared) (σ:St) (H:Hp) (x y:V) (v u:Value) (Q:VK),Inv X pins σ H s→RelV x v→RelV y u→r x y H Q →
    subscripted slice false v u = operate [v,u] (getItem v u)→wpAny (model X.prog X.w) X.A (subscriptTail value slice v u) (EP X pins σ Q) X.xe s
noncomputable def MtR (X:Cx) (id:String) (r:V→List V→Hp→VK→Prop):Prop :=
  ∀ (pins:List (Addr × Obj)) (s:Shared) (σ:St) (H:Hp) (x:V) (xs:List V) (v:Value) (us:List Value) (Q:VK),Inv X pins σ H s→RelV x v→Vals xs us→r x xs H Q →
    wpAny (model X.prog X.w) X.A (call (.builtin id) (v :: us)) (EP X pins σ Q) X.xe s
section
variable {X:Cx} {a b:Expr} {ta tb:TE} {pos:Pos}
theorem IxR.or {r r':R2} (h:IxR X r) (h':IxR X r'):IxR X (fun x y H Q => r x y H Q ∨ r' x y H Q):=by
  intro value slice pins s σ H x y v u Q I rx ry q hs
  rcases q with q | q
  · exact h value slice pins s σ H x y v u Q I rx ry q hs
  · exact h' value slice pins s σ H x y v u Q I rx ry q hs
theorem MtR.or {id:String} {r r':V→List V→Hp→VK→Prop} (h:MtR X id r) (h':MtR X id r'):MtR X id (fun x xs H Q => r x xs H Q ∨ r' x xs H Q):=by
  intro pins s σ H x xs v us Q I rx rs q
  rcases q with q | q
  · exact h pins s σ H x xs v us Q I rx rs q
  · exact h' pins s σ H x xs v us Q I rx rs q
theorem pe_ix {r:R2} (hr:IxR X r) (ha:PE X a ta) (hb:PE X b tb) (hs:PlainIx b):PE X (.Subscript a b pos) (tOp r ta tb):=by
  intro pins s σ H Q I h
  exact Subscript_ (binT ha hb I h fun v u s2 x y H2 I2 rx ry q => hr a b pins s2 σ H2 x y v u Q I2 rx ry q (hs _ _))

noncomputable def rIxL (K:PySem.W.Frag):R2:=fun x y H Q => ∃ p xs i v,x = .ref p∧y = .int i∧SqL K H p xs∧atI xs i = some v∧Q v H
noncomputable def rIxT (K:PySem.W.Frag):R2:=fun x y H Q => ∃ p xs i v,x = .ref p∧y = .int i∧SqT K H p xs∧atI xs i = some v∧Q v H
noncomputable def rIxS:R2:=fun x y H Q => ∃ z i c,x = .str z∧y = .int i∧z.length ≤ sizeLine∧atI z.cps.toList i = some c∧Q (.str ⟨#[c]⟩) H
theorem ix_list:IxR X (rIxL X.K):=by
  intro value slice pins s σ H x y v u Q I rx ry h hs
  obtain ⟨p,xs,i,z,rfl,rfl,hq,he,q⟩:=h
  cases rx
  obtain ⟨t,rfl⟩:=ry
  obtain ⟨its,r,pl,hz⟩:=I.list hq
  obtain ⟨j,h1,h2,h3,h4,h5⟩:=atI_get he
  obtain ⟨w,ew,rw'⟩:=r.get h2
  have hl:=r.length
  have hn:=line63
  have fin:EP X pins σ Q w s:=⟨z,H,I,rw',q⟩
  by_cases h0:0 ≤ i
  · have hj:i.toNat = j:=by
      rw [seqIndex_of h0 h5] at h1
      exact Option.some.inj h1
    exact item_listR pl.isList h0 (by omega) (by rw [hj]; simpa using ew) fin hs
  · have hj:(i + (its.toArray.size:Int)).toNat = j:=by
      rw [seqIndex_neg (by omega) h4] at h1
      rw [List.size_toArray,← hl]
      exact Option.some.inj h1
    exact subscriptTail_builtinR (x:=w) pl.isList.typeIs slot_list_getitem.lookup
      (wpAny_getItem_list_neg (Q:=fun r s' => r = w∧EP X pins σ Q r s') pl.isList (by omega) (by rw [List.size_toArray] <;> omega) (by omega) (by rw [hj]; simpa using ew) ⟨rfl,fin⟩) hs
theorem ix_tup:IxR X (rIxT X.K):=by
  intro value slice pins s σ H x y v u Q I rx ry h hs
  obtain ⟨p,xs,i,z,rfl,rfl,hq,he,q⟩:=h
  cases rx
  obtain ⟨t,rfl⟩:=ry
  obtain ⟨its,r,pl,hz⟩:=I.tuple hq
  obtain ⟨j,h1,h2,h3,h4,h5⟩:=atI_get he
  obtain ⟨w,ew,rw'⟩:=r.get h2
  have hl:=r.length
  have hn:=line63
  have fin:EP X pins σ Q w s:=⟨z,H,I,rw',q⟩
  exact subscriptTail_builtinR (x:=w) pl.typeIs slot_tuple_getitem.lookup
    (getItem_tuple (j:=j) (Q:=fun r s' => r = w∧EP X pins σ Q r s') pl (by omega) (by omega) (by rw [List.size_toArray,← hl]; exact h1) (by simpa using ew) ⟨rfl,fin⟩) hs
theorem ix_str:IxR X rIxS:=by
  intro value slice pins s σ H x y v u Q I rx ry h hs
  obtain ⟨z,i,c,rfl,rfl,hz,he,q⟩:=h
  obtain ⟨t,rfl⟩:=rx
  obtain ⟨t',rfl⟩:=ry
  obtain ⟨j,h1,h2,h3,h4,h5⟩:=atI_get he
  have hl:z.cps.toList.length = z.length:=by simp [Str.length]
  rw [hl] at h1 h4 h5
  have hn:=line63
  exact tail_any (typeIs_str s z t) slot_str_getitem.lookup (getItem_str (c:=c) (by
    have e1:decide (i < -(2 ^ 63:Int)) = false:=decide_eq_false (by omega)
    have e2:decide (i ≥ 2 ^ 63) = false:=decide_eq_false (by omega)
    rw [e1,e2,Bool.or_false]) (by rw [h1]; simpa using h2) ⟨.str ⟨#[c]⟩,H,I.tok _,⟨_,rfl⟩,q⟩) hs
noncomputable def rIx (K:PySem.W.Frag):R2:=fun x y H Q => rIxL K x y H Q ∨ rIxT K x y H Q ∨ rIxS x y H Q
theorem ix_seq:IxR X (rIx X.K):=ix_list.or (ix_tup.or ix_str)

theorem mapSeq_set (its:List Value) (n j:Nat) (u:Value):Obj.mapSeq (·.setIfInBounds j u) { cls:=.type "list",data:=.seq its.toArray n } = { cls:=.type "list",data:=.seq (its.set j u).toArray n }:=by
  simp [Obj.mapSeq]
theorem Inv.lst {pins:List (Addr × Obj)} {σ:St} {H:Hp} {s:Shared} {p:Addr} {xs:List V} (I:Inv X pins σ H s) (h:H p = some (.lst xs)) :
    ∃ (its:List Value) (n:Nat),Vals xs its∧s.heap.get? p = some { cls:=.type "list",data:=.seq its.toArray n }∧xs.length ≤ sizeLine:=by
  obtain ⟨z,its,n,r,e⟩:=I.hok p _ h
  exact ⟨its,n,r,e,z⟩
theorem Inv.lstUpd {pins:List (Addr × Obj)} {σ:St} {H:Hp} {s:Shared} {p:Addr} {xs ys:List V} {its its':List Value} {n n':Nat} {f:Obj→Obj} (I:Inv X pins σ H s) (h:H p = some (.lst xs))
    (ho:s.heap.get? p = some { cls:=.type "list",data:=.seq its.toArray n }) (hf:f { cls:=.type "list",data:=.seq its.toArray n } = { cls:=.type "list",data:=.seq its'.toArray n' }) (r:Vals ys its') (hz:ys.length ≤ sizeLine) (t:Nat) :
    Inv X pins σ (upd H p (.lst ys)) { s with heap:=s.heap.update p f,toks:=t }:=by
  have e:(s.heap.update p f).get? p = some { cls:=.type "list",data:=.seq its'.toArray n' }:=by
    rw [Heap.get?_update_self f ho (by rw [hf] <;> rfl),hf]
  refine I.write (x:=p) (e:=p) (by rw [h]; trivial) (.inl rfl) (fun b u hb q => (Heap.get?_update_other _ _ (Ne.symm hb)).trans q) ⟨_,e⟩ ?_
  exact ⟨hz,its',n',r,e⟩
noncomputable def rSetL:V→V→V→Hp→(Hp→Prop)→Prop:=fun o i v H Q => ∃ p xs k j,o = .ref p∧i = .int k∧H p = some (.lst xs)∧ixN xs.length k = some j∧Q (upd H p (.lst (xs.set j v)))
theorem set_list:PSet X rSetL:=by
  intro pins s σ H o i v ov iv u Q I ro ri rv h
  obtain ⟨p,xs,k,j,rfl,rfl,hp,hj,q⟩:=h
  cases ro
  obtain ⟨t,rfl⟩:=ri
  obtain ⟨its,n,r,ho,hz⟩:=I.lst hp
  obtain ⟨h1,h2,h3,h4⟩:=ixN_seq hj
  have hl:=r.length
  have hn:=line63
  have I':Inv X pins σ (upd H p (.lst (xs.set j v))) { s with heap:=s.heap.update p (Obj.mapSeq (·.setIfInBounds j u)) } :=
    I.lstUpd hp ho (mapSeq_set its n j u) (r.set rv j) (by rw [List.length_set]; exact hz) s.toks
  by_cases h0:0 ≤ k
  · have hk:k.toNat = j:=by
      rw [seqIndex_of h0 h4] at h1
      exact Option.some.inj h1
    exact PySem.W.ki_setAt ho h0 (by omega) (by rw [List.size_toArray,← hl]; exact h4) (by rw [hk]; exact ⟨_,I',q⟩)
  · have hk:(k + (its.toArray.size:Int)).toNat = j:=by
      rw [seqIndex_neg (by omega) h3] at h1
      rw [List.size_toArray,← hl]
      exact Option.some.inj h1
    exact PySem.W.ki_setBack ho (by omega) (by rw [List.size_toArray,← hl]; exact h3) (by omega) (by rw [hk]; exact ⟨_,I',q⟩)

theorem slice_bounds (lo hi:Option Int) (n:Nat):(sliceBounds lo hi none n).1 = ((HT.sIx n 0 lo:Nat):Int)∧(sliceBounds lo hi none n).2.1 = ((HT.sIx n n hi:Nat):Int)∧(sliceBounds lo hi none n).2.2 = 1:=by
  refine ⟨?_,?_,rfl⟩
  · cases lo with
    | none => simp [sliceBounds,HT.sIx]
    | some i =>
      simp only [sliceBounds,HT.sIx,Option.getD_none,show (1:Int) > 0 by decide,if_true]
      by_cases h:i < 0
      · simp only [h,if_true] <;> omega
      · simp only [h,if_false] <;> omega
  · cases hi with
    | none => simp [sliceBounds,HT.sIx]
    | some i =>
      simp only [sliceBounds,HT.sIx,Option.getD_none,show (1:Int) > 0 by decide,if_true]
      by_cases h:i < 0
      · simp only [h,if_true] <;> omega
      · simp only [h,if_false] <;> omega
theorem slicePick_cut (its:List Value) (lo hi:Option Int):slicePick its.toArray lo hi none = ((its.drop (HT.sIx its.length 0 lo)).take (HT.sIx its.length its.length hi - HT.sIx its.length 0 lo)).toArray:=by
  obtain ⟨h1,h2,h3⟩:=slice_bounds lo hi its.toArray.size
  unfold slicePick
  rw [h1,h2,h3]
  simp only [sliceRange_one,pick_run,List.size_toArray] <;> rfl
noncomputable def rSlL (K:PySem.W.Frag):V→Option Int→Option Int→Hp→VK→Prop:=fun x lo hi H Q => ∃ a xs,x = .ref a∧SqL K H a xs∧∀ p,H p = none→Q (.ref p) (upd H p (.lst (cutV xs lo hi)))
theorem sl_list:SlR X (rSlL X.K):=by
  intro pins s σ H x v vl vu lo hi sl Q I rx hs pl pu h
  obtain ⟨a,xs,rfl,hx,q⟩:=h
  cases rx
  obtain ⟨its,r,ht,hz⟩:=I.list hx
  have hlen:=r.length
  refine ⟨"list",_,slot_list_getitem.lookup,ht.isList.typeIs,?_⟩
  refine wpAny_getItem_list_slice ht.isList hs pl pu .none (by simp) ?_ (by rw [List.size_toArray] <;> omega)
  rw [slicePick_cut,← hlen]
  refine ⟨.ref s.heap.objs.size,_,I.laid (t':=s.toks) (o:=.lst (cutV xs lo hi)) (fun b ob q => Heap.get?_push_of_some _ q) (Nat.le_refl _) ?_,rfl,q _ (I.hok.fresh (Nat.le_refl _))⟩
  exact ⟨Nat.le_trans (cutV_length xs lo hi) hz,_,0,(r.drop (HT.sIx xs.length 0 lo)).take (HT.sIx xs.length xs.length hi - HT.sIx xs.length 0 lo),Heap.get?_push_size _ rfl⟩

theorem call_len_seq:CallR X (.builtin "len") (fun xs H Q => ∃ p ys,xs = [.ref p]∧(SqL X.K H p ys ∨ SqT X.K H p ys)∧Q (.int ys.length) H):=by
  intro pins s σ H xs us Q I r h
  obtain ⟨p,ys,rfl,hq,q⟩:=h
  obtain ⟨u,rfl,rx⟩:=vals1 r
  cases rx
  have hn:=line63
  rcases hq with hq | hq
  · obtain ⟨its,r',pl,hz⟩:=I.list hq
    have hlen:=r'.length
    exact Calls.call_len_list pl.isList (by simp only [List.size_toArray] <;> omega) ⟨.int ys.length,H,I.tok _,⟨s.toks + 1,by rw [List.size_toArray,hlen]⟩,q⟩
  · obtain ⟨its,r',pl,hz⟩:=I.tuple hq
    have hlen:=r'.length
    exact len_tuple pl (by simp only [List.size_toArray] <;> omega) ⟨.int ys.length,H,I.tok _,⟨s.toks + 1,by rw [List.size_toArray,hlen]⟩,q⟩
theorem CallR.or {f:Value} {r r':List V→Hp→VK→Prop} (h:CallR X f r) (h':CallR X f r'):CallR X f (fun xs H Q => r xs H Q ∨ r' xs H Q):=by
  intro pins s σ H xs us Q I rs q
  rcases q with q | q
  · exact h pins s σ H xs us Q I rs q
  · exact h' pins s σ H xs us Q I rs q
theorem call_list_of:CallR X (.type "list") (fun xs H Q => ∃ p ys,xs = [.ref p]∧(SqL X.K H p ys ∨ SqT X.K H p ys)∧∀ l,H l = none→Q (.ref l) (upd H l (.lst ys))):=by
  intro pins s σ H xs us Q I r h
  obtain ⟨p,ys,rfl,hq,q⟩:=h
  obtain ⟨u,rfl,rx⟩:=vals1 r
  cases rx
  have fin:∀ (its:List Value),Vals ys its→ys.length ≤ sizeLine→∀ (h':Heap) (c':Nat),(∀ b o',s.heap.get? b = some o'→h'.get? b = some o') →
      h'.get? s.heap.objs.size = some { cls:=.type "list",dict:=none,data:=.seq its.toArray c',slots:=#[] }→EP X pins σ Q (.ref s.heap.objs.size) { s with heap:=h' }:=fun its r' hz h' c' kp e =>
    ⟨.ref s.heap.objs.size,_,I.laid (t':=s.toks) kp (Nat.le_refl _) (show ObjOk X.prog X.w _ h' _ (.lst ys) from ⟨hz,its,c',r',e⟩),rfl,q _ (I.hok.fresh (Nat.le_refl _))⟩
  rcases hq with hq | hq
  · obtain ⟨its,r',pl,hz⟩:=I.list hq
    have hlen:=r'.length
    obtain ⟨o,ho,hc,n,hd⟩:=pl.isList
    exact call_list_seq p (.inl rfl) ho hc hd (fun h' c' kp e => fin its r' hz h' c' kp e) (by simp only [List.size_toArray] <;> omega)
  · obtain ⟨its,r',pl,hz⟩:=I.tuple hq
    have hlen:=r'.length
    obtain ⟨o,ho,hc,n,hd⟩:=pl
    exact call_list_seq p (.inr rfl) ho hc hd (fun h' c' kp e => fin its r' hz h' c' kp e) (by simp only [List.size_toArray] <;> omega)
theorem call_tuple_of:CallR X (.type "tuple") (fun xs H Q => ∃ p ys,xs = [.ref p]∧((SqL X.K H p ys∧∀ l,H l = none→Q (.ref l) (upd H l (.tup ys))) ∨ (SqT X.K H p ys∧Q (.ref p) H))):=by
  intro pins s σ H xs us Q I r h
  obtain ⟨p,ys,rfl,h⟩:=h
  obtain ⟨u,rfl,rx⟩:=vals1 r
  cases rx
  rcases h with ⟨hq,q⟩ | ⟨hq,q⟩
  · obtain ⟨its,r',pl,hz⟩:=I.list hq
    have hlen:=r'.length
    refine call_tuple_list pl.isList (fun h' kp => ?_) (by simp only [List.size_toArray] <;> omega)
    have I1:Inv X pins σ H { s with heap:=h' }:=I.kept (t':=s.toks) kp
    have I2:Inv X pins σ (upd H h'.objs.size (.tup ys)) { s with heap:=h'.push { cls:=.type "tuple",data:=.seq its.toArray } } :=
      I1.laid (t':=s.toks) (fun b o e => Heap.get?_push_of_some _ e) (Nat.le_refl _) (show ObjOk X.prog X.w _ _ _ (.tup ys) from ⟨hz,its,r',IsTup.new _ _⟩)
    exact ⟨.ref h'.objs.size,_,I2,rfl,q _ (I1.hok.fresh (Nat.le_refl _))⟩
  · obtain ⟨its,r',pl,hz⟩:=I.tuple hq
    exact call_tuple_same pl ⟨.ref p,H,I,rfl,q⟩

noncomputable def tyV (K:PySem.W.Frag) (T:String) (x:V) (H:Hp):Prop:=match x with
  | .str _ => T = "str"
  | .int _ => T = "int"
  | .ref p => (T = "list"∧∃ xs,SqL K H p xs) ∨ (T = "tuple"∧∃ o,K.lookup p = some o∧o.cls = .type "tuple"∧o.dict = none) ∨
      (T = "dict"∧((∃ kvs,H p = some (.dK kvs)) ∨ ∃ kvs,H p = some (.dT kvs))) ∨ (T = "set"∧∃ S n,H p = some (.set S n))
  | _ => False
theorem tyV_is {pins:List (Addr × Obj)} {σ:St} {H:Hp} {s:Shared} {T:String} {x:V} {v:Value} (I:Inv X pins σ H s) (r:RelV x v) (ty:tyV X.K T x H) :
    s.TypeIs v T∧∀ a,v = .ref a→∃ ob,s.heap.get? a = some ob∧ob.dict = none:=by
  cases x with
  | str z =>
    obtain ⟨t,rfl⟩:=r
    cases (show T = "str" from ty)
    exact ⟨typeIs_str s z t,fun _ e => nomatch e⟩
  | int i =>
    obtain ⟨t,rfl⟩:=r
    cases (show T = "int" from ty)
    exact ⟨typeIs_int s i t,fun _ e => nomatch e⟩
  | ref p =>
    cases r
    rcases ty with ⟨rfl,xs,hq⟩ | ⟨rfl,o,hk,hc,hd⟩ | ⟨rfl,hk⟩ | ⟨rfl,S,n,hk⟩
    · obtain ⟨its,_,pl,_⟩:=I.list hq
      refine ⟨pl.isList.typeIs,fun a e => ?_⟩
      cases e
      obtain ⟨o,n,e,c,hd,_⟩:=pl
      exact ⟨o,e,hd⟩
    · refine ⟨⟨o,I.kIn p o hk,hc⟩,fun a e => ?_⟩
      cases e
      exact ⟨o,I.kIn _ o hk,hd⟩
    · have z:∃ o,s.heap.get? p = some o∧o.ExactDict:=by
        rcases hk with ⟨kvs,hk⟩ | ⟨kvs,hk⟩
        · obtain ⟨_,_,_,_,o,_,_,e,ex,_⟩:=I.hok p _ hk
          exact ⟨o,e,ex⟩
        · obtain ⟨_,_,_,_,o,_,_,e,ex,_⟩:=I.hok p _ hk
          exact ⟨o,e,ex⟩
      obtain ⟨o,e,ex⟩:=z
      refine ⟨⟨o,e,ex.1⟩,fun a e2 => ?_⟩
      cases e2
      exact ⟨o,e,ex.2.1⟩
    · obtain ⟨o,_,_,_,e,ex,_⟩:=I.hok p _ hk
      refine ⟨⟨o,e,ex.1⟩,fun a e2 => ?_⟩
      cases e2
      exact ⟨o,e,ex.2.1⟩
  | _ => exact False.elim ty
noncomputable def tBM0 (K:PySem.W.Frag) (T:String) (r:V→List V→Hp→VK→Prop) (to:TE):TE:=fun σ H Q => to σ H fun x H1 => tyV K T x H1∧r x [] H1 Q
variable {o e:Expr} {es:List Expr} {to:TE} {t:TA} {name:Str} {apos cpos:Pos} {T id:String} {r:V→List V→Hp→VK→Prop}
theorem pe_bm0 (pa:PlainAttrs T) (slot:Slot T name id) (hty:typeOf (.builtin id) = pure (.type "method_descriptor")) (hm:MtR X id r) (ho:PE X o to)
    (hbase:attributeBase o name X.env (eval o X.env) = eval o X.env:=by rfl) (hline:(apos.endLine == cpos.line) = true:=by rfl):PE X (.Call (.Attribute o name apos) [] [] cpos) (tBM0 X.K T r to):=by
  intro pins s σ H Q I h
  refine wpAny_Call_method0_late hbase hline (thn (ho pins s σ H _ I h) fun v s1 x__58 => ?_)
  obtain ⟨x,H1,I1,r1,ty,q1⟩:=x__58
  obtain ⟨h1,h2⟩:=tyV_is I1 r1 ty
  exact ⟨T,id,pa,slot,hty,h1,h2,Calls.callWith_builtin rfl (PySem.evalArgs_none (hm pins s1 σ H1 x [] v [] Q I1 r1 .nil q1))⟩
end
end L2

namespace L2
open PySem PySem.Spec PyProof.Rows

noncomputable def MtM (X:Cx) (id:String) (r:V→List V→Hp→VK→Prop):Prop :=
  ∀ (pins:List (Addr × Obj)) (s:Shared) (σ:St) (H:Hp) (x:V) (xs:List V) (v:Value) (us:List Value) (Q:VK),Inv X pins σ H s→RelV x v→Vals xs us→r x xs H Q →
    wpAny (model X.prog X.w) X.A (call (.builtin id) (v :: us)) (EP X pins σ Q) X.xe s

theorem Vals.one {x:V} {us:List Value} (h:Vals [x] us):∃ u,us = [u]∧RelV x u:=by
  cases h with
  | cons r h =>
    cases h
    exact ⟨_,rfl,r⟩
theorem Vals.two {x y:V} {us:List Value} (h:Vals [x,y] us):∃ u v,us = [u,v]∧RelV x u∧RelV y v:=by
  cases h with
  | cons r h =>
    cases h with
    | cons q h =>
      cases h
      exact ⟨_,_,rfl,r,q⟩
theorem Vals.zero:∀ {us:List Value},Vals [] us→us = []
  | _,.nil => rfl
theorem Vals.dropLast {xs:List V} {us:List Value} (h:Vals xs us):Vals xs.dropLast us.dropLast:=by
  induction h with
  | nil => exact .nil
  | cons r t ih =>
    cases t with
    | nil => exact .nil
    | cons q t' => exact .cons r ih
theorem Vals.eraseIdx:∀ {xs:List V} {us:List Value} (i:Nat),Vals xs us→Vals (xs.eraseIdx i) (us.eraseIdx i)
  | _,_,_,.nil => .nil
  | _,_,0,.cons _ t => t
  | _,_,i + 1,.cons r t => .cons r (Vals.eraseIdx i t)
theorem Vals.reverse {xs:List V} {us:List Value} (h:Vals xs us):Vals xs.reverse us.reverse:=by
  induction h with
  | nil => exact .nil
  | cons r t ih => rw [List.reverse_cons,List.reverse_cons]; exact Vals.append ih (.cons r .nil)
theorem Vals.rep {xs:List V} {us:List Value} (h:Vals xs us):∀ k:Nat,Vals (List.replicate k xs).flatten (List.replicate k us).flatten
  | 0 => .nil
  | k + 1 => by
    rw [List.replicate_succ,List.replicate_succ,List.flatten_cons,List.flatten_cons]
    exact Vals.append h (Vals.rep h k)
theorem erase_last {α:Type} (l:List α):l.eraseIdx (l.length - 1) = l.dropLast:=by
  induction l with
  | nil => rfl
  | cons a r ih =>
    cases r with
    | nil => rfl
    | cons b r =>
      have e:(a :: b :: r).length - 1 = ((b :: r).length - 1) + 1:=by
        have h1:(a :: b :: r).length = r.length + 2:=rfl
        have h2:(b :: r).length = r.length + 1:=rfl
        omega
      rw [e,List.eraseIdx_cons_succ,ih]
      all_goals rfl
theorem foldl_rep (its:List Value):∀ (k:Nat) (acc:List Value),
    List.foldl (fun x1 x2 => x1 ++ x2) acc.toArray (List.replicate k its.toArray) = (acc ++ (List.replicate k its).flatten).toArray
  | 0,acc => by simp
  | k + 1,acc => by
    have e:acc.toArray ++ its.toArray = (acc ++ its).toArray:=by simp
    have e2:(acc ++ its) ++ (List.replicate k its).flatten = acc ++ (List.replicate (k + 1) its).flatten:=by
      rw [List.replicate_succ,List.flatten_cons,List.append_assoc]
    rw [← e2,← foldl_rep its k (acc ++ its),← e,List.replicate_succ,List.foldl_cons]

section
variable {X:Cx} {pins:List (Addr × Obj)} {σ:St} {H:Hp} {s:Shared} {l b:Addr} {xs ys zs:List V}

theorem Inv.lset {its its':List Value} {n:Nat} {f:Array Value→Array Value} {t':Nat} (I:Inv X pins σ H s) (hH:H l = some (.lst xs))
    (e:s.heap.get? l = some { cls:=.type "list",data:=.seq its.toArray n }) (hf:f its.toArray = its'.toArray) (hv:Vals ys its') (hz:ys.length ≤ sizeLine) :
    Inv X pins σ (upd H l (.lst ys)) { s with heap:=s.heap.update l (Obj.mapSeq f),toks:=t' }:=by
  have q:=PySem.IsL.update e f
  rw [hf] at q
  refine I.write (x:=l) (e:=l) (by rw [hH]; exact trivial) (.inl rfl) (fun b' u hb hu => (Heap.get?_update_other s.heap (Obj.mapSeq f) (Ne.symm hb)).trans hu) ⟨_,q⟩ ?_
  exact ⟨hz,its',_,hv,q⟩
theorem Inv.lnew {its:List Value} {t':Nat} (I:Inv X pins σ H s) (hv:Vals ys its) (hz:ys.length ≤ sizeLine) :
    Inv X pins σ (upd H s.heap.objs.size (.lst ys)) { s with heap:=s.heap.push { cls:=.type "list",data:=.seq its.toArray },toks:=t' } :=
  I.laid (fun _ _ q => Heap.get?_push_of_some _ q) (Nat.le_refl _) ⟨hz,its,0,hv,Heap.get?_push_size _ rfl⟩
theorem Inv.fresh (I:Inv X pins σ H s):H s.heap.objs.size = none:=I.hok.fresh (Nat.le_refl _)
theorem Inv.lstM (I:Inv X pins σ H s) (hH:H l = some (.lst xs)):xs.length ≤ sizeLine∧∃ (its:List Value) (n:Nat),Vals xs its∧xs.length = its.length∧s.heap.get? l = some { cls:=.type "list",data:=.seq its.toArray n }:=by
  obtain ⟨z,its,n,r,e⟩:=I.hok l _ hH
  exact ⟨z,its,n,r,r.length,e⟩

theorem notLongL {n:Nat} (h:n ≤ sizeLine):Builtin.List.listTooLong n = false:=by
  unfold Builtin.List.listTooLong
  exact decide_eq_false (by omega)
end

section
variable {X:Cx}

noncomputable def rPop:V→List V→Hp→VK→Prop:=fun x vs H Q => ∃ l xs y,x = .ref l∧vs = []∧H l = some (.lst xs)∧xs[xs.length - 1]? = some y∧Q y (upd H l (.lst xs.dropLast))
theorem mt_pop:MtM X "list.pop" rPop:=by
  intro pins s σ H x vs v us Q I rx rv h
  obtain ⟨l,xs,y,rfl,rfl,hH,hy,q⟩:=h
  cases rx
  have hus:=rv.zero
  subst hus
  obtain ⟨z,its,n,r,hl,e⟩:=I.lstM hH
  obtain ⟨u,hu,ru⟩:=r.get hy
  have hy':its.toArray[its.toArray.size - 1]? = some u:=by
    show its.toArray[its.length - 1]? = some u
    rw [← Array.getElem?_toList,← hl]
    exact hu
  refine call_meets F.slot_list_pop ⟨_,e,rfl⟩ F.entry_list_pop (F.args_list_pop_1 _) (MeetsSeq.list_pop_last l its.toArray n u hy' (by rw [List.size_toArray]; omega)) ⟨e,?_⟩
  refine ⟨y,_,I.lset (its':=its.dropLast) hH e ?_ r.dropLast ?_,ru,q⟩
  · show its.toArray.eraseIdxIfInBounds (its.toArray.size - 1) = its.dropLast.toArray
    rw [List.size_toArray,List.eraseIdxIfInBounds_toArray,erase_last]
  · rw [List.length_dropLast]
    omega

noncomputable def rCat:R2:=fun x y H Q => ∃ l b xs zs,x = .ref l∧y = .ref b∧H l = some (.lst xs)∧H b = some (.lst zs)∧xs.length + zs.length ≤ sizeLine∧∀ p,H p = none→Q (.ref p) (upd H p (.lst (xs ++ zs)))
theorem op_cat:OpR X (binaryOp .Add) rCat:=by
  intro pins s σ H x y v u Q I rx ry h
  obtain ⟨l,b,xs,zs,rfl,rfl,hH,hB,hz,q⟩:=h
  cases rx
  cases ry
  obtain ⟨z,its,n,r,hl,e⟩:=I.lstM hH
  obtain ⟨z2,its2,n2,r2,hl2,e2⟩:=I.lstM hB
  refine PySem.P.add_list e e2 ?_ (by rw [List.size_toArray,List.size_toArray]; omega)
  have ea:its.toArray ++ its2.toArray = (its ++ its2).toArray:=by simp
  rw [ea]
  exact ⟨.ref _,_,I.lnew (t':=s.toks) (r.append r2) (by rw [List.length_append]; omega),rfl,q _ I.fresh⟩
noncomputable def rRep:R2:=fun x y H Q => ∃ l k xs,x = .ref l∧y = .int k∧H l = some (.lst xs)∧-(2 ^ 63) ≤ k∧k < 2 ^ 63∧xs.length * k.toNat ≤ sizeLine ∧
  ∀ p,H p = none→Q (.ref p) (upd H p (.lst (List.replicate k.toNat xs).flatten))
theorem len_rep {α:Type} (xs:List α) (k:Nat):(List.replicate k xs).flatten.length = k * xs.length:=by
  induction k with
  | zero => simp
  | succ k ih => rw [List.replicate_succ,List.flatten_cons,List.length_append,ih,Nat.succ_mul,Nat.add_comm]
theorem op_rep:OpR X (binaryOp .Mult) rRep:=by
  intro pins s σ H x y v u Q I rx ry h
  obtain ⟨l,k,xs,rfl,rfl,hH,h1,h2,hz,q⟩:=h
  cases rx
  obtain ⟨t,rfl⟩:=ry
  obtain ⟨z,its,n,r,hl,e⟩:=I.lstM hH
  have hlen:its.toArray.size * k.toNat ≤ sizeLine:=by rw [List.size_toArray,← hl]; exact hz
  have hcap:¬ its.toArray.size * k.toNat > (2 ^ 63 - 1) / 8:=by
    have:(sizeLine:Nat) ≤ (2 ^ 63 - 1) / 8:=by decide
    omega
  have hfit:¬ (!Builtin.List.listFitsIndex k) = true:=by
    rw [fitsIndex_both h1 h2]
    exact Bool.false_ne_true
  have hlong:¬ Builtin.List.listTooLong (its.toArray.size * k.toNat) = true:=by
    rw [notLongL hlen]
    exact Bool.false_ne_true
  have hnew:List.foldl (fun x1 x2 => x1 ++ x2) #[] (List.replicate (if its.toArray.isEmpty = true then 0 else k.toNat) its.toArray) = (List.replicate k.toNat its).flatten.toArray:=by
    have f0:∀ m:Nat,List.foldl (fun x1 x2 => x1 ++ x2) #[] (List.replicate m its.toArray) = (List.replicate m its).flatten.toArray:=fun m => by
      have:=foldl_rep its m []
      rw [List.nil_append] at this
      exact this
    rw [f0]
    cases its with
    | nil => simp
    | cons a r' => rw [if_neg (by simp)]
  refine wpAny_binaryOp_repeat_ref (T:="list") (U:="int") (by decide) ⟨_,e,rfl⟩ (fun s' => typeIs_int s' k t) noFill_list_mul F.fills_int_mul F.slot_int_rmul repeat_list F.slot_int_index.lookup
    (call_meets F.slot_int_rmul (typeIs_int s k t) F.entry_int_rmul (F.args_int_rmul_2 _ _) (int___rmul___int_list k t l its.toArray n)
      ⟨e,rfl,⟨_,e,rfl⟩,call_meets F.slot_list_mul ⟨_,e,rfl⟩ F.entry_list_mul (F.args_list_mul_2 _ _) (AutoListH.list___mul___list_int_3 l its.toArray n k t hfit hcap hlong) ⟨e,?_⟩⟩)
  rw [hnew]
  exact ⟨.ref _,_,I.lnew (t':=s.toks) (r.rep k.toNat) (by rw [len_rep,Nat.mul_comm]; exact hz),rfl,q _ I.fresh⟩

end

section
variable {prog:Program} {w:World} {A:Around} {E:Value→Shared→Prop} {s:Shared}
end

section
variable {X:Cx}
end
end L2


namespace L2
open PySem PySem.Spec PyProof.Rows

section
variable {κ:Type} [DecidableEq κ]
noncomputable def valV (kvs:List (κ × V)) (k:κ):Option V:=(kvs.find? fun kv => decide (kv.1 = k)).map (·.2)
noncomputable def putK (kvs:List (κ × V)) (k:κ) (v:V):List (κ × V) :=
  if (kvs.any fun kv => decide (kv.1 = k)) = true then kvs.map (fun kv => if kv.1 = k then (kv.1,v) else kv) else kvs ++ [(k,v)]
noncomputable def dropK (kvs:List (κ × V)) (k:κ):List (κ × V):=kvs.filter fun kv => decide (kv.1 ≠ k)

theorem valV_pos {p:κ × V} {r:List (κ × V)} {k:κ} (e:p.1 = k):valV (p :: r) k = some p.2:=by simp [valV,List.find?_cons,e]
theorem valV_neg {p:κ × V} {r:List (κ × V)} {k:κ} (e:¬ p.1 = k):valV (p :: r) k = valV r k:=by simp [valV,List.find?_cons,e]
theorem valV_any (k:κ):∀ kvs:List (κ × V),(kvs.any fun kv => decide (kv.1 = k)) = (valV kvs k).isSome
  | [] => rfl
  | p :: r => by
    rw [List.any_cons]
    by_cases e:p.1 = k
    · simp only [valV_pos e,decide_eq_true e,Bool.true_or,Option.isSome_some]
    · rw [valV_neg e,decide_eq_false e,Bool.false_or]; exact valV_any k r
theorem length_putK (kvs:List (κ × V)) (k:κ) (v:V):(putK kvs k v).length ≤ kvs.length + 1:=by
  unfold putK
  split
  · rw [List.length_map]; omega
  · rw [List.length_append,List.length_cons,List.length_nil]; omega
theorem RelO.isSome_eq {o:Option V} {u:Option Value} (r:RelO o u):o.isSome = u.isSome:=by
  cases o with
  | none => cases u with
    | none => rfl
    | some _ => exact (show False from r).elim
  | some _ => cases u with
    | none => exact (show False from r).elim
    | some _ => rfl
theorem RelO.getD {o:Option V} {u:Option Value} {d:V} {d':Value} (r:RelO o u) (rd:RelV d d'):RelV (o.getD d) (u.getD d'):=by
  cases o with
  | none => cases u with
    | none => exact rd
    | some _ => exact (show False from r).elim
  | some _ => cases u with
    | none => exact (show False from r).elim
    | some _ => exact r

theorem KV.val {kvs:List (κ × V)} {vs:List (κ × Value)} (r:KV kvs vs) (k:κ):RelO (valV kvs k) (valueAt vs k):=by
  unfold KV at r
  induction r with
  | nil => exact True.intro
  | @cons p q ps qs h t ih =>
    obtain ⟨h1,h2⟩:=h
    by_cases e:p.1 = k
    · have e':q.1 = k:=h1.symm.trans e
      have b:valueAt (q :: qs) k = some q.2:=by simp [valueAt,List.find?_cons,e']
      rw [valV_pos e,b]; exact h2
    · have e':¬ q.1 = k:=fun z => e (h1.trans z)
      have b:valueAt (q :: qs) k = valueAt qs k:=by simp [valueAt,List.find?_cons,e']
      rw [valV_neg e,b]; exact ih
theorem KV.any {kvs:List (κ × V)} {vs:List (κ × Value)} (r:KV kvs vs) (k:κ):(kvs.any fun kv => decide (kv.1 = k)) = vs.any fun kv => decide (kv.1 = k):=by
  unfold KV at r
  induction r with
  | nil => rfl
  | cons h t ih => rw [List.any_cons,List.any_cons,ih,h.1]
theorem KV.repl {kvs:List (κ × V)} {vs:List (κ × Value)} (r:KV kvs vs) (k:κ) {y:V} {u:Value} (ry:RelV y u) :
    KV (kvs.map fun kv => if kv.1 = k then (kv.1,y) else kv) (vs.map fun kv => if kv.1 = k then (kv.1,u) else kv):=by
  unfold KV at r ⊢
  induction r with
  | nil => exact .nil
  | @cons p q ps qs h t ih =>
    rw [List.map_cons,List.map_cons]
    refine .cons ?_ ih
    obtain ⟨h1,h2⟩:=h
    by_cases e:p.1 = k
    · rw [if_pos e,if_pos (h1.symm.trans e)]; exact ⟨h1,ry⟩
    · rw [if_neg e,if_neg (fun z => e (h1.trans z))]; exact ⟨h1,h2⟩
theorem KV.put {kvs:List (κ × V)} {vs:List (κ × Value)} (r:KV kvs vs) (k:κ) {y:V} {u:Value} (ry:RelV y u):KV (putK kvs k y) (stored vs k u):=by
  unfold putK stored
  rw [r.any k]
  by_cases e:(vs.any fun kv => decide (kv.1 = k)) = true
  · rw [if_pos e,if_pos e]; exact r.repl k ry
  · rw [if_neg e,if_neg e]; exact Paired.snoc r ⟨rfl,ry⟩
theorem KV.drop {kvs:List (κ × V)} {vs:List (κ × Value)} (r:KV kvs vs) (k:κ):KV (dropK kvs k) (without vs k):=by
  unfold KV at r ⊢
  unfold dropK without
  induction r with
  | nil => exact .nil
  | @cons p q ps qs h t ih =>
    obtain ⟨h1,h2⟩:=h
    rw [List.filter_cons,List.filter_cons]
    by_cases e:p.1 = k
    · have a:¬ decide (p.1 ≠ k) = true:=by simp [e]
      have b:¬ decide (q.1 ≠ k) = true:=by simp [h1.symm.trans e]
      rw [if_neg a,if_neg b]; exact ih
    · have e':¬ q.1 = k:=fun z => e (h1.trans z)
      have a:decide (p.1 ≠ k) = true:=by simp [e]
      have b:decide (q.1 ≠ k) = true:=by simp [e']
      rw [if_pos a,if_pos b]; exact .cons ⟨h1,h2⟩ ih
theorem KV.keys {kvs:List (κ × V)} {vs:List (κ × Value)} (r:KV kvs vs):kvs.map (·.1) = vs.map (·.1):=by
  unfold KV at r
  induction r with
  | nil => rfl
  | cons h t ih => rw [List.map_cons,List.map_cons,ih,h.1]
theorem KV.length {kvs:List (κ × V)} {vs:List (κ × Value)} (r:KV kvs vs):kvs.length = vs.length:=Paired.length r
end


theorem kV_is {P:Program} {w:World} {k:Key} {u:Value} (r:RelV (kV k) u):(mixKind P w).is k u = true:=by
  cases k with
  | inl i => obtain ⟨t,e⟩:=(show ∃ t,u = Value.int i t from r); subst e; exact mixKind_int P w i t
  | inr x => obtain ⟨t,e⟩:=(show ∃ t,u = Value.str x t from r); subst e; exact mixKind_str P w x t
theorem items_are {P:Program} {w:World}:∀ {ks:List Key} {us:List Value},Vals (ks.map kV) us→ItemsAre (mixKind P w) ks us
  | [],_,r => by rw [List.map_nil] at r; cases r; exact .nil
  | k :: ks,_,r => by
    rw [List.map_cons] at r
    cases r with
    | cons h t => exact .cons (kV_is h) (items_are t)

noncomputable abbrev KT (H:Hp):List (List Key × V)→List (List Key × Addr × Value)→Prop:=Paired fun p q => p.1 = q.1∧H q.2.1 = some (.tup (p.1.map kV))∧RelV p.2 q.2.2
theorem KT.val {H:Hp} {kvs:List (List Key × V)} {xs:List (List Key × Addr × Value)} (r:KT H kvs xs) (k:List Key):RelO (valV kvs k) ((atKey xs k).map (·.2)):=by
  induction r with
  | nil => exact True.intro
  | @cons p q ps qs h t ih =>
    obtain ⟨h1,_,h2⟩:=h
    by_cases e:p.1 = k
    · have e':q.1 = k:=h1.symm.trans e
      have b:atKey (q :: qs) k = some q.2:=by simp [atKey,List.find?_cons,e']
      rw [valV_pos e,b]; exact h2
    · have e':¬ q.1 = k:=fun z => e (h1.trans z)
      have b:atKey (q :: qs) k = atKey qs k:=by simp [atKey,List.find?_cons,e']
      rw [valV_neg e,b]; exact ih
theorem KT.repl {H:Hp} {kvs:List (List Key × V)} {xs:List (List Key × Addr × Value)} (r:KT H kvs xs) (k:List Key) {y:V} {u:Value} (ry:RelV y u) :
    KT H (kvs.map fun kv => if kv.1 = k then (kv.1,y) else kv) (xs.map (putAt k u)):=by
  induction r with
  | nil => exact .nil
  | @cons p q ps qs h t ih =>
    rw [List.map_cons,List.map_cons]
    refine .cons ?_ ih
    obtain ⟨h1,h2,h3⟩:=h
    unfold putAt
    by_cases e:p.1 = k
    · rw [if_pos e,if_pos (h1.symm.trans e)]; exact ⟨h1,h2,ry⟩
    · rw [if_neg e,if_neg (fun z => e (h1.trans z))]; exact ⟨h1,h2,h3⟩
theorem KT.put {H:Hp} {kvs:List (List Key × V)} {xs:List (List Key × Addr × Value)} (r:KT H kvs xs) (k:List Key) {b:Addr} {y:V} {u:Value} (hb:H b = some (.tup (k.map kV))) (ry:RelV y u) :
    KT H (putK kvs k y) (storedH xs k b u):=by
  have e:(kvs.any fun kv => decide (kv.1 = k)) = (atKey xs k).isSome:=by
    rw [valV_any,(r.val k).isSome_eq,Option.isSome_map]
  unfold putK storedH
  rw [e]
  by_cases q:(atKey xs k).isSome = true
  · rw [if_pos q,if_pos q]; exact r.repl k ry
  · rw [if_neg q,if_neg q]; exact Paired.snoc r ⟨rfl,hb,ry⟩
theorem KT.keeps {H H':Hp} {kvs:List (List Key × V)} {xs:List (List Key × Addr × Value)} (r:KT H kvs xs) (ht:∀ b ys,H b = some (.tup ys)→H' b = some (.tup ys)):KT H' kvs xs :=
  Paired.mapP r fun _ _ z => ⟨z.1,ht _ _ z.2.1,z.2.2⟩

section
variable {P:Program} {w:World} {H:Hp} {h:Heap} {a:Addr}
theorem rd_of {u:HO} (ok:HOk P w H h) (e:Rd H a u):ObjOk P w H h a u:=e.ok ok
theorem dk_rd {kvs:List (Key × V)} (ok:HOk P w H h) (e:Rd H a (.dK kvs)):kvs.length ≤ sizeLine∧(a == sysModules) = false∧∃ vs,KV kvs vs∧h.DictOf (mixKind P w) a vs :=
  show ObjOk P w H h a (.dK kvs) from rd_of ok e
theorem dk_of {kvs:List (Key × V)} (ok:HOk P w H h) (e:H a = some (.dK kvs)):kvs.length ≤ sizeLine∧(a == sysModules) = false∧∃ vs,KV kvs vs∧h.DictOf (mixKind P w) a vs:=dk_rd ok (.inl e)
theorem key_of {ks:List Key} (ok:HOk P w H h) (e:H a = some (.tup (ks.map kV))):(tupleKind (mixKind P w)).is h ks a:=by
  obtain ⟨_,its,r,o,h1,h2,n,h3⟩:=(show ObjOk P w H h a (.tup (ks.map kV)) from ok a _ e)
  exact ⟨o,its.toArray,n,h1,h2,h3,by simpa using items_are r⟩
theorem dt_rd {kvs:List (List Key × V)} (ok:HOk P w H h) (e:Rd H a (.dT kvs)):kvs.length ≤ sizeLine∧(a == sysModules) = false ∧
    ∃ xs,KT H kvs xs∧h.DictOfH (tupleKind (mixKind P w)) a xs:=by
  obtain ⟨z,y,xs,r,o,es,ep,h1,h2,h3,h4,h5⟩:=(show ObjOk P w H h a (.dT kvs) from rd_of ok e)
  refine ⟨z,y,xs,r,o,es,ep,h1,h2,h3,h4,fun x hx => ?_,h5⟩
  have all:∀ {l:List (List Key × V)} {m:List (List Key × Addr × Value)},KT H l m→∀ x ∈ m,(tupleKind (mixKind P w)).is h x.1 x.2.1:=by
    intro l m q
    induction q with
    | nil => intro x hx; exact nomatch hx
    | @cons p q ps qs hq t ih =>
      intro x hx
      rcases List.mem_cons.mp hx with e | hx
      · subst e
        exact key_of ok (by rw [← hq.1]; exact hq.2.1)
      · exact ih x hx
  exact all r x hx
theorem dt_of {kvs:List (List Key × V)} (ok:HOk P w H h) (e:H a = some (.dT kvs)):kvs.length ≤ sizeLine∧(a == sysModules) = false ∧
    ∃ xs,KT H kvs xs∧h.DictOfH (tupleKind (mixKind P w)) a xs:=dt_rd ok (.inl e)
end

noncomputable def DGet (H:Hp) (a:Addr) (y:V) (r:Option V):Prop :=
  (∃ kvs k,Rd H a (.dK kvs)∧y = kV k∧r = valV kvs k) ∨ ∃ kvs k b,Rd H a (.dT kvs)∧y = .ref b∧H b = some (.tup (k.map kV))∧r = valV kvs k
noncomputable def DPut (H:Hp) (a:Addr) (y v:V) (H':Hp):Prop :=
  (∃ kvs k,H a = some (.dK kvs)∧y = kV k∧kvs.length < sizeLine∧H' = upd H a (.dK (putK kvs k v))) ∨
  ∃ kvs k b,H a = some (.dT kvs)∧y = .ref b∧H b = some (.tup (k.map kV))∧kvs.length < sizeLine∧H' = upd H a (.dT (putK kvs k v))
theorem DGet.k {H:Hp} {a:Addr} {kvs:List (Key × V)} {k:Key} (e:H a = some (.dK kvs)):DGet H a (kV k) (valV kvs k):=.inl ⟨kvs,k,.inl e,rfl,rfl⟩
theorem DGet.t {H:Hp} {a b:Addr} {kvs:List (List Key × V)} {k:List Key} (e:H a = some (.dT kvs)) (eb:H b = some (.tup (k.map kV))):DGet H a (.ref b) (valV kvs k):=.inr ⟨kvs,k,b,.inl e,rfl,eb,rfl⟩
theorem DPut.k {H:Hp} {a:Addr} {kvs:List (Key × V)} {k:Key} {v:V} (e:H a = some (.dK kvs)) (hl:kvs.length < sizeLine):DPut H a (kV k) v (upd H a (.dK (putK kvs k v))):=.inl ⟨kvs,k,e,rfl,hl,rfl⟩
theorem DPut.t {H:Hp} {a b:Addr} {kvs:List (List Key × V)} {k:List Key} {v:V} (e:H a = some (.dT kvs)) (eb:H b = some (.tup (k.map kV))) (hl:kvs.length < sizeLine) :
    DPut H a (.ref b) v (upd H a (.dT (putK kvs k v))):=.inr ⟨kvs,k,b,e,rfl,eb,hl,rfl⟩


section
variable {X:Cx} {pins:List (Addr × Obj)} {σ:St} {H:Hp} {s:Shared} {a:Addr} {y v:V} {u r:Value} {o:Option V} {A:Around} {E:Value→Shared→Prop}

theorem Inv.big (I:Inv X pins σ H s):sysModules < s.heap.objs.size:=by
  have h:mainGlobals < s.heap.objs.size:=(I.mod.glob.keeps I.bk).lt
  exact Nat.lt_trans (by decide) h

theorem d_getItem {Q:Value→Shared→Prop} (hu:A.units + 1 < cLine) (I:Inv X pins σ H s) (g:DGet H a y (some v)) (ry:RelV y u) (h:∀ w' s',Inv X pins σ H s'→RelV v w'→Q w' s') :
    wpAny (model X.prog X.w) A (getItem (.ref a) u) Q E s:=by
  rcases g with ⟨kvs,k,e,ey,l⟩ | ⟨kvs,k,b,e,ey,eb,l⟩
  · subst ey
    obtain ⟨z,hd,vs,rel,dd⟩:=dk_rd I.hok e
    obtain ⟨w',hw,rw'⟩:=RelO.some_of (v:=v) (o:=valueAt vs k) (by rw [l]; exact rel.val k)
    exact wpAny_getItem_of (kV_is ry) dd.mapOf hw (h w' _ (I.tok _) rw')
  · subst ey
    cases (show u = Value.ref b from ry)
    obtain ⟨z,hd,xs,rel,dd⟩:=dt_rd I.hok e
    obtain ⟨w',hw,rw'⟩:=RelO.some_of (v:=v) (o:=(atKey xs k).map (·.2)) (by rw [l]; exact rel.val k)
    obtain ⟨p,hp,hp2⟩:=Option.map_eq_some_iff.mp hw
    refine wpAny_getItem_heap (tupleKind_room_in1 hu) (key_of I.hok eb) dd hp ?_
    rw [hp2]
    exact h w' _ (I.tok _) rw'
theorem d_write {h':Heap} {t':Nat} {ob:HO} (I:Inv X pins σ H s) (mu:Mut (H a)) (hs:Heap.SameBut a s.heap h') (he:∃ q,h'.get? a = some q) (new:ObjOk X.prog X.w (upd H a ob) h' a ob) :
    Inv X pins σ (upd H a ob) { s with heap:=h',toks:=t' } :=
  I.write (x:=a) (e:=a) mu (.inl rfl) (fun b q hb z => (hs.2 b hb).trans z) he new
theorem dk_new {P:Program} {w:World} {H':Hp} {h':Heap} {kvs:List (Key × V)} {vs:List (Key × Value)} (z:kvs.length ≤ sizeLine) (hd:(a == sysModules) = false) (rel:KV kvs vs) (dd:h'.DictOf (mixKind P w) a vs) :
    ObjOk P w H' h' a (.dK kvs):=⟨z,hd,vs,rel,dd⟩
theorem d_setItem {H':Hp} {Q:Unit→Shared→Prop} (hu:A.units + 1 < cLine) (I:Inv X pins σ H s) (g:DPut H a y v H') (ry:RelV y u) (rv:RelV v r) (h:∀ s',Inv X pins σ H' s'→Q () s') :
    wpAny (model X.prog X.w) A (setItem (.ref a) u r) Q E s:=by
  rcases g with ⟨kvs,k,e,ey,l,eH⟩ | ⟨kvs,k,b,e,ey,eb,l,eH⟩
  · subst ey eH
    obtain ⟨z,hd,vs,rel,dd⟩:=dk_of I.hok e
    have hz:vs.length ≤ sizeLine:=by rw [← rel.length]; exact z
    have hl:(putK kvs k v).length ≤ sizeLine:=by have:=length_putK kvs k v; omega
    refine wpAny_setItem_pairs (hsz:=hz) (kV_is ry) dd fun h' dd' hs => h _ ?_
    have he:∃ q,h'.get? a = some q:=let ⟨q,_,_,hq,_⟩:=dd'; ⟨q,hq⟩
    exact d_write I (by rw [e]; exact True.intro) hs he (dk_new hl hd (rel.put k rv) dd')
  · subst ey eH
    cases (show u = Value.ref b from ry)
    obtain ⟨z,hd,xs,rel,dd⟩:=dt_of I.hok e
    have hz:xs.length ≤ sizeLine:=by rw [← Paired.length rel]; exact z
    have hl:(putK kvs k v).length ≤ sizeLine:=by have:=length_putK kvs k v; omega
    refine wpAny_setItem_heap (hsz:=hz) (tupleKind_room_in1 hu) (key_of I.hok eb) dd fun h' dd' hs => h _ ?_
    obtain ⟨q,es,ep,hq,h2,h3,h4,_,h5⟩:=dd'
    refine d_write I (by rw [e]; exact True.intro) hs ⟨q,hq⟩ ⟨hl,hd,_,(rel.put k eb rv).keeps fun c ys ec => ?_,q,es,ep,hq,h2,h3,h4,h5⟩
    rw [upd_ne (ne_of ec e (fun z => nomatch z))]
    exact ec
end

section
variable {X:Cx} {pins:List (Addr × Obj)} {σ:St} {H:Hp} {s:Shared} {a:Addr} {kvs:List (Key × V)} {k:Key} {u:Value} {A:Around} {E:Value→Shared→Prop}
end


noncomputable def NoSl (i:Expr):Prop:=∀ ov iv,subscripted i false ov iv = operate [ov,iv] (getItem ov iv)
theorem subD_of {prog:Program} {w:World} {A:Around} {E:Value→Shared→Prop} {s:Shared} {env:Env} {value slice:Expr} {pos:Pos} {T id:String} {Q:Value→Shared→Prop}
    (hl:typeLookup (.type T) "__getitem__" = pure (some (.builtin id))) (hs:NoSl slice)
    (h:wpAny (model prog w) A (eval value env) (fun o s₁ => wpAny (model prog w) A (eval slice env) (fun i s₂ => s₂.TypeIs o T∧wpAny (model prog w) A (getItem o i) Q E s₂) E s₁) E s) :
    wpAny (model prog w) A (eval (.Subscript value slice pos) env) Q E s:=by
  refine Subscript_ (wpAny_mono h (fun o s₁ h₁ => wpAny_mono h₁ (fun i s₂ h₂ => ?_) fun _ _ x => x) fun _ _ x => x)
  obtain ⟨hT,h₂⟩:=h₂
  unfold subscriptTail
  refine wpAny_bind ?_
  rw [getitemInPython_of_ne hT.not_modules]
  refine wpAny_bind (wpAny_specialOf hT hl ?_)
  have fin:wpAny (model prog w) A (subscripted slice false o i) (fun r s₃ => wpAny (model prog w) A (letTemporaryGo value o r >>= fun _ => pure r) Q E s₃) E s₂:=by
    rw [hs o i]
    exact wpAny_operating (wpAny_mono h₂ (fun r s₃ h₃ => wpAny_bind (wpAny_letTemporaryGo (wpAny_pure h₃))) fun _ _ x => x)
  first
    | exact wpAny_pure (wpAny_bind fin)
    | exact wpAny_bind (wpAny_pure (wpAny_bind fin))
    | exact wpAny_bind fin

theorem dict_typeIs {X:Cx} {pins:List (Addr × Obj)} {σ:St} {H:Hp} {s:Shared} {a:Addr} {y:V} {o:Option V} (I:Inv X pins σ H s) (g:DGet H a y o):s.TypeIs (.ref a) "dict":=by
  rcases g with ⟨kvs,k,e,_,_⟩ | ⟨kvs,k,b,e,_,_,_⟩
  · obtain ⟨_,_,vs,_,dd⟩:=dk_rd I.hok e
    exact dd.typeIs
  · obtain ⟨_,_,xs,_,dd⟩:=dt_rd I.hok e
    exact dd.typeIs
noncomputable def tDGet (td ty:TE):TE:=fun σ H Q => td σ H fun x H1 => ty σ H1 fun y H2 => ∃ a v,x = .ref a∧DGet H2 a y (some v)∧Q v H2
noncomputable def sDPut (td ty tv:TE):TS:=fun D σ H => tv σ H fun v H1 => td σ H1 fun x H2 => ty σ H2 fun y H3 => ∃ a H4,x = .ref a∧DPut H3 a y v H4∧D.nx σ H4
section
variable {X:Cx} {o i e value:Expr} {pos pos' tpos:Pos} {td ty tv:TE}
theorem pe_dget (hu:X.A.units + 1 < cLine) (ho:PE X o td) (hi:PE X i ty) (hs:NoSl i):PE X (.Subscript o i pos) (tDGet td ty):=by
  intro pins s σ H Q I h
  refine subD_of PySem.F.slot_dict_getitem.lookup hs (thn (ho pins s σ H _ I h) fun u s1 ⟨x,H1,I1,rx,q1⟩ => thn (hi pins s1 σ H1 _ I1 q1) fun iv s2 x__60 => ?_)
  obtain ⟨y,H2,I2,ry,a,v,ex,g,q2⟩:=x__60
  subst ex
  obtain rfl:u = Value.ref a:=rx
  exact ⟨dict_typeIs I2 g,d_getItem hu I2 g ry fun w' s3 I3 rw' => ⟨v,H2,I3,rw',q2⟩⟩
theorem ps_dput (hu:X.A.units + 1 < cLine) (ho:PE X o td) (hi:PE X i ty) (hv:PE X value tv) (hs:swapsWith value (some (.Subscript o i pos')) pos.line X.env = pure false) :
    PS X (.Assign [.Subscript o i pos'] value pos) (sDPut td ty tv):=by
  intro pins s σ H D I h
  refine wpAny_Assign_Subscript (thn (hv pins s σ H _ I h) fun r s1 ⟨v,H1,I1,rv,q1⟩ => thn (ho pins s1 σ H1 _ I1 q1) fun u s2 ⟨x,H2,I2,rx,q2⟩ => thn (hi pins s2 σ H2 _ I2 q2) fun iv s3 x__63 => ?_) hs
  obtain ⟨y,H3,I3,ry,a,H4,ex,g,q3⟩:=x__63
  subst ex
  obtain rfl:u = Value.ref a:=rx
  exact d_setItem hu I3 g ry rv fun s4 I4 => ⟨σ,H4,I4,q3⟩
end


theorem dk_empty {P:Program} {w:World} {H:Hp} (h:Heap) (hb:sysModules < h.objs.size):ObjOk P w H (h.push { cls:=.type "dict",data:=.dict #[] }) h.objs.size (.dK []) :=
  ⟨Nat.zero_le _,beq_eq_false_iff_ne.mpr (Ne.symm (Nat.ne_of_lt hb)),[],.nil,Heap.DictOf.new h⟩
section
variable {X:Cx} {pos:Pos}
end

noncomputable def tPairs:List (TE × TE)→St→Hp→(List (V × V)→Hp→Prop)→Prop
  | [],_,H,Q => Q [] H
  | (tk,tv) :: r,σ,H,Q => tk σ H fun x H1 => tv σ H1 fun y H2 => tPairs r σ H2 fun ps H3 => Q ((x,y) :: ps) H3
noncomputable abbrev VV:List (V × V)→List (Value × Value)→Prop:=Paired fun p q => RelV p.1 q.1∧RelV p.2 q.2
noncomputable def PPs (X:Cx) (pos:Pos) (keys:List (Option Expr)) (values:List Expr) (trs:List (TE × TE)):Prop :=
  ∀ (pins:List (Addr × Obj)) (s:Shared) (σ:St) (H:Hp) (Q:List (V × V)→Hp→Prop),Inv X pins σ H s→tPairs trs σ H Q →
    wpAny (model X.prog X.w) X.A (evalPairs (pairTrees keys values X.env pos)) (fun vs s' => ∃ ps H',Inv X pins σ H' s'∧VV ps vs∧Q ps H') X.xe s
theorem pps_nil {X:Cx} {pos:Pos}:PPs X pos [] [] []:=fun pins s σ H Q I h => pairTrees_nil_walk ⟨[],H,I,.nil,h⟩
theorem pps_cons {X:Cx} {pos:Pos} {k v:Expr} {ks:List (Option Expr)} {vs:List Expr} {tk tv:TE} {trs:List (TE × TE)} (hk:PE X k tk) (hv:PE X v tv) (hr:PPs X pos ks vs trs) :
    PPs X pos (some k :: ks) (v :: vs) ((tk,tv) :: trs):=fun pins s σ H Q I h =>
  pairTrees_cons_walk (thn (hk pins s σ H _ I h) fun u s1 ⟨x,H1,I1,rx,q1⟩ => thn (hv pins s1 σ H1 _ I1 q1) fun w2 s2 ⟨y,H2,I2,ry,q2⟩ =>
    thn (hr pins s2 σ H2 _ I2 q2) fun ws s3 x__66 => (by obtain ⟨ps,H3,I3,rel,q3⟩:=x__66; exact ⟨(x,y) :: ps,H3,I3,.cons ⟨rx,ry⟩ rel,q3⟩))

noncomputable def mergeK (kvs more:List (Key × V)):List (Key × V):=more.foldl (fun acc kv => putK acc kv.1 kv.2) kvs
theorem KV.merge:∀ {more:List (Key × V)} {rs:List (Key × Value)} {kvs:List (Key × V)} {vs:List (Key × Value)},KV more rs→KV kvs vs→KV (mergeK kvs more) (merged vs rs):=by
  intro more rs kvs vs r
  unfold KV at r
  induction r generalizing kvs vs with
  | nil => intro q; exact q
  | @cons p q ps qs h t ih =>
    intro r0
    have e:KV (putK kvs p.1 p.2) (stored vs q.1 q.2):=by
      have:=r0.put p.1 h.2
      rw [← h.1]; exact this
    exact ih e
theorem length_mergeK:∀ (more kvs:List (Key × V)),(mergeK kvs more).length ≤ kvs.length + more.length
  | [],kvs => by show kvs.length ≤ kvs.length + 0; omega
  | p :: r,kvs => by
    have h1:=length_mergeK r (putK kvs p.1 p.2)
    have h2:=length_putK kvs p.1 p.2
    show (mergeK (putK kvs p.1 p.2) r).length ≤ _
    rw [List.length_cons]; omega
theorem carries_of {P:Program} {w:World}:∀ {kvs:List (Key × V)} {ws:List (Value × Value)},VV (kvs.map fun kv => (kV kv.1,kv.2)) ws→∃ rs,Carries (mixKind P w) ws rs∧KV kvs rs
  | [],_,r => by rw [List.map_nil] at r; cases r; exact ⟨[],True.intro,.nil⟩
  | p :: kvs,_,r => by
    rw [List.map_cons] at r
    cases r with
    | @cons a b as bs h t =>
      obtain ⟨rs,c,q⟩:=carries_of (P:=P) (w:=w) t
      obtain ⟨b1,b2⟩:=b
      exact ⟨(p.1,b2) :: rs,⟨kV_is h.1,rfl,c⟩,.cons ⟨rfl,h.2⟩ q⟩
noncomputable def tDisp (trs:List (TE × TE)):TE:=fun σ H Q => ∀ p,H p = none→tPairs trs σ (upd H p (.dK [])) fun ps H2 => H2 p = some (.dK [])∧∃ kvs:List (Key × V),ps = kvs.map (fun kv => (kV kv.1,kv.2))∧kvs.length ≤ 15∧Q (.ref p) (upd H2 p (.dK (mergeK [] kvs)))
theorem pe_disp {X:Cx} {pos:Pos} {keys:List (Option Expr)} {values:List Expr} {trs:List (TE × TE)} (h:PPs X pos keys values trs) (hall:keys.all (·.isSome) = true) (hl:keys.length = values.length) (h0:keys ≠ [])
    (h15:keys.length ≤ 15):PE X (.Dict keys values pos) (tDisp trs):=by
  intro pins s σ H Q I q
  have hn:=I.hok.fresh (Nat.le_refl s.heap.objs.size)
  have I1:=I.laid (a:=s.heap.objs.size) (o:=.dK []) (h':=s.heap.push { cls:=.type "dict",data:=.dict #[] }) (t':=s.toks) (fun _ _ q => Heap.get?_push_of_some _ q) (Nat.le_refl _) (dk_empty s.heap I.big)
  refine wpAny_Dict_walk (knd:=mixKind X.prog X.w) hall hl h0 h15 (thn (h pins _ σ _ _ I1 (q _ hn)) fun ws s2 x__67 => ?_)
  obtain ⟨ps,H2,I2,rel,e,kvs,ep,lk,q2⟩:=x__67
  subst ep
  obtain ⟨rs,c,rk⟩:=carries_of (P:=X.prog) (w:=X.w) rel
  obtain ⟨z,hd,vs0,r0,dd⟩:=dk_of I2.hok e
  cases r0
  refine ⟨rs,c,dd,fun h' dd' hs => ⟨.ref s.heap.objs.size,_,?_,rfl,q2⟩⟩
  have hz:(mergeK [] kvs).length ≤ sizeLine:=by
    have h1:=length_mergeK kvs []
    rw [List.length_nil] at h1
    rw [sizeLine_eq]; omega
  have he:∃ q,h'.get? s.heap.objs.size = some q:=let ⟨q,_,_,hq,_⟩:=dd'; ⟨q,hq⟩
  exact d_write I2 (by rw [e]; exact True.intro) hs he (dk_new hz hd (rk.merge .nil) dd')


structure M1 (X:Cx) (o:Expr) (m:Str) (apos:Pos) (e:Expr) (cpos:Pos):Prop where
  base:attributeBase o m X.env (eval o X.env) = eval o X.env
  few:((backTo cpos (starEach [e] X.env)).all (fun x => !x.1) && (backToKw cpos (keywordEach [] X.env)).all (fun x => x.1.isSome)
    && decide (([e]:List Expr).length + ([]:List Keyword).length + (if ([]:List Keyword).isEmpty then 0 else 1) < 30)) = true
  line:(apos.endLine == cpos.line) = true
  trees:backTo cpos (starEach [e] X.env) = [(false,eval e X.env)]
structure M2 (X:Cx) (o:Expr) (m:Str) (apos:Pos) (e f:Expr) (cpos:Pos):Prop where
  base:attributeBase o m X.env (eval o X.env) = eval o X.env
  few:((backTo cpos (starEach [e,f] X.env)).all (fun x => !x.1) && (backToKw cpos (keywordEach [] X.env)).all (fun x => x.1.isSome)
    && decide (([e,f]:List Expr).length + ([]:List Keyword).length + (if ([]:List Keyword).isEmpty then 0 else 1) < 30)) = true
  line:(apos.endLine == cpos.line) = true
  trees:backTo cpos (starEach [e,f] X.env) = [(false,eval e X.env),(false,eval f X.env)]

section
variable {X:Cx} {pins:List (Addr × Obj)} {σ:St} {H:Hp} {s:Shared} {a:Addr} {y d:V} {u r:Value} {o:Option V} {A:Around} {E:Value→Shared→Prop}
end

section
variable {X:Cx} {o e f:Expr} {apos cpos:Pos} {td ty tx:TE}
end

section
variable {X:Cx} {pins:List (Addr × Obj)} {σ:St} {H:Hp} {s:Shared} {a:Addr} {kvs:List (Key × V)} {A:Around} {E:Value→Shared→Prop}
end


section
variable {X:Cx} {pins:List (Addr × Obj)} {σ:St} {H:Hp} {s:Shared} {a:Addr} {y:V} {u:Value} {A:Around} {E:Value→Shared→Prop}
end
end L2

namespace Att
open PySem PySem.W PySem.Calls PyProof.Rows

theorem ints_of_wellAll {P:Params} {h:Heap}:∀ (ns:List Int) (vs:List Value),WellAll P h vs (ns.map WData.int)→IntsAre vs ns:=by
  intro ns
  induction ns with
  | nil =>
    intro vs w
    rw [List.map_nil] at w
    cases w
    exact .nil
  | cons n ns ih =>
    intro vs w
    rw [List.map_cons] at w
    cases w with
    | cons a b =>
      cases a
      exact .cons _ _ (ih _ b)

theorem script_of {l:OpenLaw} {n:Nat} (hn:l.most = some n) {P:Params} {h:Heap} {args:List WData} {vals:List Value}
    (hpre:l.row.toRowW.claim.pre args = true) (hwl:WellAll P h vals args) :
    ∃ a vs ns,vals = [Value.ref a]∧args = [WData.list (ns.map WData.int)]∧h.get? a = some { cls:=.type "list",data:=.seq vs.toArray }∧IntsAre vs ns∧ns.length ≤ n:=by
  have hsh:WShape.hasAll [] args [.list .int] = true:=(pre_splitW hpre).1
  have hc:l.pre.holds [] { args:=args } = true:=(pre_splitW hpre).2
  obtain ⟨d,r,rfl,h1,h2⟩:=hasAllW_cons hsh
  obtain rfl:=hasAllW_nil h2
  obtain ⟨xs,rfl,h3⟩:=hasW_list h1
  obtain ⟨ns,rfl⟩:=items_int h3
  have hlen:ns.length ≤ n:=by
    unfold OpenLaw.pre at hc
    have h4:(WTm.not (.lt (.lit (.int (n:Int))) (.len (.arg 0)))).holds [] { args:=[.list (ns.map .int)] } = true:=by
      have h4:=(holds_andW hc).1
      rw [hn] at h4
      exact h4
    have h5:=condW_of h4 (w_not (w_lt w_lit (w_len_list (w_arg rfl))))
    rw [List.length_map] at h5
    refine Nat.le_of_not_lt fun q => ?_
    have q':(n:Int) < ((ns.length:Nat):Int):=by omega
    first
      | (rw [decide_eq_true q'] at h5; exact absurd h5 (by decide))
      | (simp at h5; omega)
  cases hwl with
  | cons w1 w2 =>
    cases w2
    cases w1 with
    | list ho hall => exact ⟨_,_,ns,rfl,rfl,ho,ints_of_wellAll ns _ hall,hlen⟩

theorem post_true (l:OpenLaw) (args:List WData):l.row.toRowW.claim.post args (.bool true) args = true :=
  postW_of (r:=l.row.toRowW) (X:=(true == true))
    (show WShape.has [] (.bool true) .bool = true by first | rfl | decide | simp [WShape.has,WShape.arms,WShape.armsAll])
    (show (WTm.eq .res (.lit (.bool true))).value [] { args:=args,res:=some (.bool true),after:=args } = some (.bool (true == true)) from w_eq_bool (w_res rfl) w_lit) rfl

theorem attach_call {l:OpenLaw} {n:Nat} {q:Program} {loose:List Str} {XP:(Str→Option Value)→Heap→Prop} {YP:World→Heap→Prop} {d:DefRec}
    (hn:l.most = some n) (hdf:d.params.defaults = [])
    (call:∀ (w:World) (s₀ s₁:Shared) (mg mb:Str→Option Value) (fa:Addr) (o:Obj) (pm cd doc:Value) (a:Addr) (vs:List Value) (ns:List Int),
      Ground q loose [] XP w s₀ mg mb s₁.heap→YP w s₁.heap →
      s₁.heap.get? fa = some o→o.data = .func (docDef d.name d.params d.body d.scope pm cd doc)→s₁.heap.CodeRec cd d.name→mg d.name = some (.ref fa) →
      s₁.heap.get? a = some { cls:=.type "list",data:=.seq vs.toArray }→IntsAre vs ns→ns.length ≤ n→s₁.gens = #[] →
      codeAny (model l.prog w) callerA (.call (.ref fa) ⟨[.ref a],[]⟩) (fun r s' => r = .ok (.ret (.bool true))∧OldK s₁.heap s'.heap∧s'.os = s₁.os∧AllBare s'.gens) s₁) :
    WalkO q loose XP YP l.row.toRowW d [] (fun f vs => PySem.call f vs):=by
  intro w s₀ s₁ mg mb G Y fa o pm cd doc dV kV ho hd hcd hD hmg hg args vals as hpre hlay hrd hwl hlo
  obtain rfl:dV = .none:=Dflts.none hD hdf
  obtain rfl:kV = .none:=Dflts.noKw hD
  obtain ⟨a,vs,ns,rfl,rfl,hobj,hints,hlen⟩:=script_of hn hpre hwl
  refine enter_call (codeAny_mono (call w s₀ s₁ mg mb fa o pm cd doc a vs ns G Y ho (fd_plain hd) hcd hmg hobj hints hlen hg) fun r s' hq => ?_)
  obtain ⟨rfl,h2,h3,h4⟩:=hq
  exact ⟨.inl ⟨.bool true,.bool true,[],rfl,fun _ => rfl,.bool true,post_true l _,fun _ => ⟨List.Pairwise.nil,fun _ hm => (nomatch hm)⟩⟩,h2,h3,h4⟩

section
variable {prog:Program} {w:World} {A:Around} {E:Value→Shared→Prop} {s:Shared} {K:Frag}

noncomputable def ledger (h:Heap) (L d:Addr):List (Addr × Obj):=(List.range h.objs.size).filterMap fun a => if a = L ∨ a = d then none else (h.get? a).map fun o => (a,o)
end
end Att

namespace L2
open PySem PySem.Spec PyProof.Rows

theorem vals_ints {vs:List Value} {ns:List Int} (h:IntsAre vs ns):Vals (ns.map V.int) vs:=by
  induction h with
  | nil => exact .nil
  | cons n t h ih => exact .cons ⟨t,rfl⟩ ih

noncomputable def Only (H:Hp):Prop:=∀ b,H b = none ∨ ∃ o xs,H b = some (.frz o (.lst xs))

theorem law_call {P:Program} {w:World} {K:PySem.W.Frag} {mg mb:Str→Option Value} {CX:CXT} {k:Nat} {fa a:Addr} {fd:FuncData} {x:Str} {sp:Sp} {s₁:Shared} {vs:List Value} {ns:List Int}
    (KX:K.In s₁.heap) (hns:s₁.heap.Ns mainGlobals mg) (hb:s₁.heap.Ns builtinsNs mb) (hbb:∀ x:Str,x ≠ "__name__"→mb x = bootBuiltins x) (hlim:s₁.heap.NoLimit) (hg:s₁.gens = #[])
    (ha:s₁.heap.get? a = some { cls:=.type "list",data:=.seq vs.toArray }) (hi:IntsAre vs ns) (hl:ns.length ≤ sizeLine) (hr:Room k callerA)
    (F:∀ base:Heap,K.In base→base.Ns mainGlobals mg→FnOk P w K mg base CX k fa fd [x] sp) (hbind:∀ (s:Shared) (u:Value),BindsTo s fd ⟨[u],[]⟩ [(x,u)])
    (hsp:∀ H:Hp,Only H→SqL K H a (ns.map V.int)→sp [.ref a] H (fun v _ => v = .bl true) fun _ _ _ => False)
    (hCX:∀ H e s',CX [] H s₁ (fun _ _ _ => False) e s'→False) :
    codeAny (model P w) callerA (.call (.ref fa) ⟨[.ref a],[]⟩) (fun r s' => r = .ok (.ret (.bool true))∧OldK s₁.heap s'.heap∧s'.os = s₁.os∧AllBare s'.gens) s₁:=by
  have rv:=vals_ints hi
  have lenV:=hi.length
  -- from an abstract heap in which nothing but the script may be tracked
  have core:∀ H:Hp,Only H→SqL K H a (ns.map V.int)→HOk P w H s₁.heap→(∀ b,H b ≠ none→b = a)→(H a ≠ none→K.lookup a = none) →
      codeAny (model P w) callerA (.call (.ref fa) ⟨[.ref a],[]⟩) (fun r s' => r = .ok (.ret (.bool true))∧OldK s₁.heap s'.heap∧s'.os = s₁.os∧AllBare s'.gens) s₁:=by
    intro H hO hS hok hA hK
    have base_of:∀ {b:Addr} {o:Obj},s₁.heap.get? b = some o→H b = none→(hidT s₁.heap H).get? b = some o:=fun e n => hidT_get e n
    have noA:∀ {b:Addr} {o:Obj} {es:Array DictEntry} {ep:Nat},s₁.heap.get? b = some o→o.data = .dict es ep→H b = none:=fun {b o es ep} e d => by
      cases q:H b with
      | none => rfl
      | some u =>
        have e':b = a:=hA b (by rw [q]; simp)
        subst e'
        rw [ha] at e; cases e
        have d':Data.seq vs.toArray _ = Data.dict es ep:=d
        cases d'
    have nsK:∀ {b:Addr} {m:Str→Option Value},s₁.heap.Ns b m→(hidT s₁.heap H).Ns b m:=fun {b m} x__68 => (by obtain ⟨o,es,ep,e,d,r⟩:=x__68; exact ⟨o,es,ep,base_of e (noA e d),d,r⟩)
    have hKb:K.In (hidT s₁.heap H):=fun b o e => base_of (KX b o e) (by
      cases q:H b with
      | none => rfl
      | some u =>
        have e':b = a:=hA b (by rw [q]; simp)
        subst e'
        rw [hK (by rw [q]; simp)] at e; cases e)
    have hM:Mod K mg (hidT s₁.heap H):=⟨hKb,nsK hns,⟨mb,nsK hb,hbb⟩,let ⟨mc,h1,h2⟩:=hlim; ⟨mc,nsK h1,h2⟩⟩
    have e0:Env0 P w K mg (hidT s₁.heap H) callerA [] s₁ H:=⟨rfl,hM,fun b o e => of_hidT e,Nat.le_of_eq (hidT_size _ _),trivial,fun b hb => absurd (show b ∈ ([]:List Addr) from hb) (by simp),hok,.of_eq hg⟩
    refine codeAny_mono ((F _ hKb (nsK hns)).run callerA [] s₁ H ⟨[.ref a],[]⟩ [.ref a] [.ref a] _ _ hr e0 (hbind s₁ (.ref a)) (.cons rfl .nil) (hsp H hO hS)) fun r s' h => ?_
    cases r with
    | error e => exact (hCX H e s' h).elim
    | ok fl =>
      cases fl with
      | next => exact False.elim h
      | brk => exact False.elim h
      | cont => exact False.elim h
      | ret u =>
        obtain ⟨v,H',os,bare,un,hok',r',q⟩:=h
        have q':v = .bl true:=q
        subst q'
        obtain rfl:u = Value.bool true:=r'
        refine ⟨rfl,OldK.of_keep fun b o e => ?_,os,bare⟩
        cases q:H b with
        | none => exact un.keep b o e q (by intro z; exact absurd (show b ∈ ([]:List Addr) from z) (by simp)) (by simp)
        | some u =>
          rcases hO b with z | ⟨ob,xs,z⟩
          · rw [q] at z; cases z
          · have z2:=un.frzs b ob _ z
            obtain ⟨e1,_⟩:=hok b _ z
            obtain ⟨e2,_⟩:=hok' b _ z2
            rw [e] at e1; cases e1
            exact e2
  cases hk:K.lookup a with
  | some o =>
    -- the script is one of the module's own objects
    have e:=KX a o hk
    rw [ha] at e
    cases e
    refine core (fun _ => none) (fun _ => .inl rfl) (.inr ⟨_,vs.toArray,_,hk,rfl,rfl,rfl,by rw [List.size_toArray,lenV]; exact hl,by simpa using rv⟩) (fun b u z => by have z':(none:Option HO) = some u:=z; cases z') (fun b z => absurd rfl z) fun z => absurd rfl z
  | none =>
    refine core (fun b => if b = a then some (.frz { cls:=.type "list",data:=.seq vs.toArray } (.lst (ns.map V.int))) else none) (fun b => ?_) (.inl (.inr ⟨{ cls:=.type "list",data:=.seq vs.toArray },if_pos rfl⟩)) (fun b u z => ?_) (fun b z => ?_) fun _ => hk
    · by_cases hb:b = a
      · exact .inr ⟨_,_,if_pos hb⟩
      · exact .inl (if_neg hb)
    · by_cases hb:b = a
      · have z':=(if_pos hb).symm.trans z
        cases z'
        subst hb
        exact ⟨ha,by rw [List.length_map]; exact hl,vs,_,rv,ha⟩
      · have z':=(if_neg hb).symm.trans z
        cases z'
    · by_cases hb:b = a
      · exact hb
      · exact absurd (if_neg hb) z
end L2

namespace L2
open PySem PySem.Spec PyProof.Rows

noncomputable abbrev KOf {K:PySem.W.Frag} {h:Heap} (_:K.In h):PySem.W.Frag:=K

theorem walk_of {l:PySem.W.OpenLaw} {n k:Nat} {q:Program} {loose:List Str} {XP:(Str→Option Value)→Heap→Prop} {YP:World→Heap→Prop} {d:DefRec} {K:Params→PySem.W.Frag} {CX:World→CXT} {sp:World→Sp} {x:Str}
    (hn:l.most = some n) (hn2:n ≤ sizeLine) (hdf:d.params.defaults = []) (hr:Room k callerA)
    (hY:∀ (w:World) (h:Heap),YP w h→(K w.params).In h)
    (F:∀ (w:World) (mg:Str→Option Value) (fa:Addr) (h:Heap),(K w.params).In h→h.Ns mainGlobals mg→mg d.name = some (.ref fa) →
      ∃ fd:FuncData,(∀ (s:Shared) (u:Value),BindsTo s fd ⟨[u],[]⟩ [(x,u)]) ∧
        ∀ base:Heap,(K w.params).In base→base.Ns mainGlobals mg→FnOk l.prog w (K w.params) mg base (CX w) k fa fd [x] (sp w))
    (hsp:∀ (w:World) (H:Hp) (a:Addr) (ns:List Int),ns.length ≤ n→Only H→SqL (K w.params) H a (ns.map V.int)→sp w [.ref a] H (fun v _ => v = .bl true) fun _ _ _ => False)
    (hCX:∀ (w:World) (H:Hp) (s:Shared) (e:Value) (s':Shared),CX w [] H s (fun _ _ _ => False) e s'→False) :
    PySem.W.WalkO q loose XP YP l.row.toRowW d [] (fun f vs => PySem.call f vs):=by
  refine Att.attach_call hn hdf fun w s₀ s₁ mg mb fa o pm cd doc a vs ns G Y ho hd hcd hmg hobj hints hlen hg => ?_
  have KX:=hY w _ Y
  obtain ⟨fd,hb,hF⟩:=F w mg fa _ KX G.T.g hmg
  exact law_call KX G.T.g G.T.b G.T.builtins G.T.nolimit hg hobj hints (Nat.le_trans hlen hn2) hr hF hb (fun H hO hS => hsp w H a ns hlen hO hS) fun H e s' => hCX w H s₁ e s'
theorem walk_ofK {l:PySem.W.OpenLaw} {n k:Nat} {q:Program} {loose:List Str} {XP:(Str→Option Value)→Heap→Prop} {YP:World→Heap→Prop} {d:DefRec} {K:Params→PySem.W.Frag} {CX:CXT} {sp:PySem.W.Frag→Sp} {x:Str}
    (hn:l.most = some n) (hn2:n ≤ sizeLine) (hdf:d.params.defaults = []) (hr:Room k callerA)
    (hY:∀ (w:World) (h:Heap),YP w h→(K w.params).In h)
    (F:∀ (w:World) (mg:Str→Option Value) (fa:Addr) (h:Heap),(K w.params).In h→h.Ns mainGlobals mg→mg d.name = some (.ref fa) →
      ∃ fd:FuncData,(∀ (s:Shared) (u:Value),BindsTo s fd ⟨[u],[]⟩ [(x,u)]) ∧
        ∀ base:Heap,(K w.params).In base→base.Ns mainGlobals mg→FnOk l.prog w (K w.params) mg base CX k fa fd [x] (sp (K w.params)))
    (hsp:∀ (K:PySem.W.Frag) (H:Hp) (a:Addr) (ns:List Int),ns.length ≤ n→Only H→SqL K H a (ns.map V.int)→sp K [.ref a] H (fun v _ => v = .bl true) fun _ _ _ => False)
    (hCX:∀ (H:Hp) (s:Shared) (e:Value) (s':Shared),CX [] H s (fun _ _ _ => False) e s'→False) :
    PySem.W.WalkO q loose XP YP l.row.toRowW d [] (fun f vs => PySem.call f vs) :=
  walk_of (K:=K) (CX:=fun _ => CX) (sp:=fun w => sp (K w.params)) hn hn2 hdf hr hY F (fun w H a ns h1 h2 h3 => hsp (K w.params) H a ns h1 h2 h3) fun _ H s e s' => hCX H s e s'
end L2

/- THE LAST THEOREM (shape; LID,My.* are yours):
   My.Adr: a structure of the addresses that your layer names (classes,functions); My.Txt K t: a structure (Prop) of the equations over K;
   My.txt_mk:{K} {implicit addresses ..} (e1:nsIn K mainGlobals "law" = some (some (.ref f))) (e2:K.lookup f = some ⟨oc,od,.func (fnOf "law" "law" params body scope dV kV doc pm an cdv ct),sl⟩) (e3:codeIn K cdv "law" = true) ..:∃ t,My.Txt K t

set_option maxRecDepth 100000 in
set_option maxHeartbeats 0 in
theorem PySem.Challenge.cw_LID_holds : PySem.Challenge.rw_LID.Holds := by
  w_on; o_law; k_head; (case hw => w_witness2)
  k_fill
  refine L2.walk_of (l:=PySem.Challenge.rw_LID) (n:=63) (k:=40) (x:="script") (CX:=fun w => ..) (sp:=fun _ => My.sp_law) rfl (by decide) rfl ⟨rfl,by decide,by decide⟩ (fun w h Y => PySem.W.kIn_of Y) ?F ?S ?C
  case F =>
    intro w mg fa h KX G hmg
    have T:∃ t,My.Txt (L2.KOf KX) t:=by
      dsimp only [L2.KOf]                          -- K must stand as «<heap const> w.params» for k_is
      refine' My.txt_mk ?e1 ?e2 ?e3 ..
      (case e1 => PySem.W.k_is)                    -- in the order: a name -> its address -> its object -> its parts
      (case e2 => PySem.W.k_is)
      ..
    obtain ⟨t,T⟩:=T
    have e0:=hmg.symm.trans (PySem.W.mg_of KX G T.law)
    cases e0                                       -- fa is the law's own address
    exact ⟨_,fun s u => .of_eq rfl,fun base kb nb => My.law_fn T kb nb⟩     -- if «.of_eq rfl» comes too early: refine' ⟨_,?b,fun base kb nb => My.law_fn T kb nb⟩; exact fun s u => .of_eq rfl
  case S => exact fun w H a ns hl hO hS => ..
  case C => exact ..
(the tactic k_is has no namespace: write k_is) -/

namespace L2
open PySem PySem.Spec PyProof.Rows

noncomputable def inClass (s:Stmt) (j:Nat):Stmt:=match s with
  | .ClassDef _ _ _ body _ _ _ _ _ _ _ => body.getD j (.Pass ⟨0,0,0,0⟩)
  | _ => .Pass ⟨0,0,0,0⟩
noncomputable def defArgs (s:Stmt):Arguments:=match s with
  | .FunctionDef _ a _ _ _ _ _ _ _ _ => a
  | _ => { posonlyargs:=[],args:=[],vararg:=none,kwonlyargs:=[],kw_defaults:=[],kwarg:=none,defaults:=[] }
noncomputable def defBody (s:Stmt):List Stmt:=match s with
  | .FunctionDef _ _ b _ _ _ _ _ _ _ => b
  | _ => []
noncomputable def defScope (s:Stmt):Scope:=match s with
  | .FunctionDef _ _ _ _ _ _ sc _ _ _ => sc
  | _ => { kind:=.function,names:=[],isGenerator:=false,isCoroutine:=false }

noncomputable abbrev CX0:CXT:=fun _ _ _ _ _ _ => False
noncomputable abbrev E0:XK:=fun _ _ _ => False
theorem pass0 {X:Cx}:Passes CX0 X E0:=fun _ _ _ _ _ _ _ h => h.elim

structure Fun (K:PySem.W.Frag) (x qual:Str) (st:Stmt) (f:Addr) (fd:FuncData):Prop where
  ex:∃ (oc:Value) (od:Option Addr) (kV doc pm:Value) (an:Option Addr) (cdv ct:Value) (osl:Array (Option Value)),
    fd = PySem.W.fnOf x qual (defArgs st) (defBody st) (defScope st) .none kV doc pm an cdv ct∧K.lookup f = some ⟨oc,od,.func fd,osl⟩∧PySem.W.codeIn K cdv qual = true
  kp:PySem.W.keepIn K (.ref f) = true
section
variable {P:Program} {w:World} {K:PySem.W.Frag} {mg:Str→Option Value} {base:Heap}
theorem Fun.ok {x qual:Str} {st:Stmt} {f:Addr} {fd:FuncData} {N ps:List Str} {k:Nat} {sp:Sp} (F:Fun K x qual st f fd) (S:FnScope N ps (defScope st)) (len:∀ vs H Q E,sp vs H Q E→vs.length = ps.length)
    (hbody:∀ (cdv:Value) (A:Around) (outer:List Env) (s:Shared) (H:Hp) (vs:List V) (Q:VK) (E:XK),Room k (A.deeper (envOfC qual (defScope st) s.heap.objs.size f cdv))→sp vs H Q E →
      ∃ t,PSs (cxOf CX0 P w K mg base N qual (defScope st) f cdv A outer s H E).nox (defBody st) t∧t { nx:=fun _ H' => Q .non H',rt:=Q } (start N vs) H):FnOk P w K mg base CX0 (k + 1) f fd ps sp:=by
  obtain ⟨oc,od,kV,doc,pm,an,cdv,ct,osl,rfl,lk,hcd⟩:=F.ex
  refine fn_of lk hcd S len fun A outer s H vs Q E hr hsp => ?_
  obtain ⟨t,h,q⟩:=hbody cdv A outer s H vs Q E hr hsp
  exact ⟨t,h.nox,q⟩
theorem Fun.binds {x qual:Str} {st:Stmt} {f:Addr} {fd:FuncData} {ps:List Str} (F:Fun K x qual st f fd)
    (h:∀ (kV doc pm:Value) (an:Option Addr) (cdv ct:Value) (us:List Value),us.length = ps.length→bindArgs (PySem.W.fnOf x qual (defArgs st) (defBody st) (defScope st) .none kV doc pm an cdv ct) ⟨us,[]⟩ = pure (ps.zip us)):Binds K fd ps []:=by
  obtain ⟨oc,od,kV,doc,pm,an,cdv,ct,osl,rfl,lk,hcd⟩:=F.ex
  exact .all (h kV doc pm an cdv ct)
theorem fun_mk {x qual:Str} {st:Stmt} {f:Addr} {oc:Value} {od an:Option Addr} {osl:Array (Option Value)} {kV doc pm cdv ct:Value} (l:K.lookup f = some ⟨oc,od,.func (PySem.W.fnOf x qual (defArgs st) (defBody st) (defScope st) .none kV doc pm an cdv ct),osl⟩)
    (c:PySem.W.codeIn K cdv qual = true) (k:PySem.W.keepIn K (.ref f) = true):Fun K x qual st f (PySem.W.fnOf x qual (defArgs st) (defBody st) (defScope st) .none kV doc pm an cdv ct):=⟨⟨oc,od,kV,doc,pm,an,cdv,ct,osl,rfl,l,c⟩,k⟩
end
theorem hu_of {A:Around} {k:Nat} (hr:Room k A):A.units + 1 < cLine:=Nat.lt_of_le_of_lt (Nat.add_le_add_left (by decide:1 ≤ 64) _) hr.units
theorem small1000 {n:Nat} (h:n ≤ 1000):n < sizeLine:=Nat.lt_of_le_of_lt h (by decide)

section
variable {X:Cx}
theorem pv (i:Nat) {x:Str} {pos:Pos} (hN:X.N[i]? = some x:=by rfl) (hv:Vis X.env.scope x:=by first | exact Or.inl rfl | exact Or.inr (Or.inl rfl) | exact Or.inr (Or.inr rfl)) (hd:(x == ("__debug__":Str)) = false:=by decide)
    (hcd:(x == ("__classdict__":Str)) = false:=by decide):PE X (.Name x pos) (tVar i):=pe_var hN hv hd hcd
end

theorem iteF {A B:Prop} (h:B):if false = true then A else B:=by
  rw [if_neg Bool.false_ne_true]
  exact h
theorem iteT {A B:Prop} (h:A):if true = true then A else B:=by
  rw [if_pos rfl]
  exact h
theorem ite2 {c A B:Prop} [Decidable c] (h1:c→A) (h2:¬ c→B):if c then A else B:=by
  by_cases h:c
  · rw [if_pos h]
    exact h1 h
  · rw [if_neg h]
    exact h2 h
noncomputable def Same (H H':Hp):Prop:=∀ b o,H b = some o→H' b = some o
theorem Same.refl (H:Hp):Same H H:=fun _ _ h => h
theorem Same.trans {H H1 H2:Hp} (a:Same H H1) (b:Same H1 H2):Same H H2:=fun c o h => b c o (a c o h)
theorem Same.free {H H':Hp} (e:Same H H') {l:Addr} (h:H' l = Option.none):H l = Option.none:=by
  cases q:H l with
  | none => rfl
  | some o =>
    rw [e l o q] at h
    cases h
theorem Same.seq {K:PySem.W.Frag} {H H':Hp} {a:Addr} {xs:List V} (e:Same H H') (h:SqL K H a xs):SqL K H' a xs:=by
  rcases h with (h | ⟨o,h⟩) | h
  · exact .inl (.inl (e _ _ h))
  · exact .inl (.inr ⟨o,e _ _ h⟩)
  · exact .inr h

end L2
namespace L2
open PySem PySem.Spec PyProof.Rows
section
variable {X:Cx}
end
section
variable {κ:Type} [DecidableEq κ]
end
end L2

namespace L2
open PySem PySem.Spec PyProof.Rows

noncomputable def compCx (X:Cx) (scope:Scope) (cl:List (Str × Addr)) (N:List Str) (C:Addr) (s:Shared) (H:Hp) (ex:List Addr):Cx where
  prog:=X.prog
  w:=X.w
  K:=X.K
  mg:=X.mg
  base:=X.base
  A:=X.A
  N:=N
  s₀:=s
  H₀:=H
  env:=compEnvC scope cl C X.env
  outer:=X.stack
  stack:=X.stack
  ex:=ex
  fn:=fun _ => false
  calm:=X.calm
  pn:=[]
  xe:=fun _ _ => False

noncomputable def compSt (k:Nat) (fr:List Nat) (σ:St):St:=List.replicate k none ++ fr.map fun j => (σ[j]?).getD none

structure CompOk (X:Cx) (scope:Scope) (cl:List (Str × Addr)) (N:List Str) (k:Nat) (fr:List Nat):Prop where
  kind:scope.kind = .function
  nocell:∀ y ∈ scope.names,y.2 ≠ .cell
  names:∀ y ∈ scope.names,y.2 = .local→scope.names.lookup y.1 = some .local
  clos:closureFor scope X.env = pure cl
  sub:∀ x c,cl.lookup x = some c→X.env.cells.lookup x = some c
  has:∀ x,((relabel scope X.env).names.lookup x = some .cell ∨ (relabel scope X.env).names.lookup x = some .free)→∃ c,cl.lookup x = some c
  len:N.length = k + fr.length
  free:∀ (t j:Nat) (x:Str),fr[t]? = some j→N[k + t]? = some x→X.N[j]? = some x∧Vis X.env.scope x∧(∃ c,cl.lookup x = some c)∧((relabel scope X.env).names.lookup x = some .cell ∨ (relabel scope X.env).names.lookup x = some .free)∧¬ X.env.scope.names.lookup x = some .local

noncomputable def PIfs (Y:Cx) (ifs:List Expr) (t:TT):Prop :=
  ∀ (pins:List (Addr × Obj)) (s:Shared) (σ:St) (H:Hp) (Q:Bool→Hp→Prop),Inv Y pins σ H s→t σ H Q →
    wpAny (model Y.prog Y.w) Y.A (forIn ifs true fun c r => if r = true then do let ok ← isTrue c Y.env (eval c Y.env); pure (ForInStep.yield ok) else pure (ForInStep.yield r)) (TP Y pins σ Q) Y.xe s
noncomputable def tTrue:TT:=fun _ H Q => Q true H
theorem pifs_nil {Y:Cx}:PIfs Y [] tTrue:=fun _ _ _ H _ I h => wpAny_tests_nil ⟨H,I,h⟩
theorem pifs_one {Y:Cx} {c:Expr} {t:TT} (h:PT Y c t):PIfs Y [c] t:=fun pins s σ H Q I q => wpAny_tests_one (h pins s σ H Q I q)

noncomputable def Fwd (σ σ':St):Prop:=σ'.length = σ.length∧∀ (i:Nat) (v:V),σ[i]? = some (some v)→σ'[i]? = some (some v)
theorem Fwd.refl (σ:St):Fwd σ σ:=⟨rfl,fun _ _ e => e⟩
theorem Fwd.set {σ σ':St} {i:Nat} {u:Option V} (h:Fwd σ σ') (hn:∀ v,σ[i]? ≠ some (some v)):Fwd σ (σ'.set i u) :=
  ⟨by rw [List.length_set]; exact h.1,fun j v e => by
    have hj:i ≠ j:=fun z => by subst z; exact hn v e
    rw [List.getElem?_set_ne hj]; exact h.2 j v e⟩
noncomputable def CompW (J:It) (g:TG) (tt:TT) (te:TE) (σc:St) (H1:Hp) (F:List V→Hp→Prop):Prop :=
  ∃ W:Nat→Nat→List V→Hp→Prop,(∃ m,W 0 m [] H1)∧∀ i m ys H,W i m ys H →
    (J.stop i H∧F ys H) ∨
    (J.go i H∧ys.length < sizeLine∧∀ x H',J.yld i H x H'→g x σc H' fun σ2 H2 => Fwd σc σ2∧tt σ2 H2 fun b H3 =>
      if b = true then te σ2 H3 fun y H4 => ∃ m',m' < m∧W (i + 1) m' (ys ++ [y]) H4 else ∃ m',m' < m∧W (i + 1) m' ys H3)
noncomputable def tComp (k:Nat) (fr:List Nat) (wi:TI) (g:TG) (tt:TT) (te:TE):TE:=fun σ H Q => wi σ H fun J H1 => CompW J g tt te (compSt k fr σ) H1 fun ys H2 => ys.length ≤ sizeLine∧∀ p,H2 p = none→Q (.ref p) (upd H2 p (.lst ys))
noncomputable def sComp (i:Nat) (k:Nat) (fr:List Nat) (wi:TI) (g:TG) (tt:TT) (te:TE):TS:=fun D σ H => wi σ H fun J H1 => CompW J g tt te (compSt k fr σ) H1 fun ys H2 => ys.length ≤ sizeLine∧∀ p,H2 p = none→D.nx (σ.set i (some (.ref p))) (upd H2 p (.lst ys))

section
variable {X:Cx} {pins:List (Addr × Obj)} {σ:St} {H:Hp} {s:Shared}

theorem Inv.track {D:Addr} {o:HO} {t':Nat} (I:Inv X pins σ H s) (hn:H D = none) (hL:D ≠ X.env.locals) (h1:X.s₀.heap.objs.size ≤ D) (h2:∀ x c,X.env.cells.lookup x = some c→c ≠ D) (h3:∀ p ∈ X.pn ++ pins,p.1 ≠ D)
    (new:ObjOk X.prog X.w (upd H D o) s.heap D o):Inv X pins σ (upd H D o) { s with toks:=t' }:=by
  have ne:∀ b u,H b = some u→b ≠ D:=fun b u e => ne_of_none e hn
  refine I.step (h':=s.heap) (g':=s.gens) (d':=s.drawn) (ch:=[D]) (fun b hb => ?_) (fun b o _ _ _ e _ => e) (fun b o _ _ _ e _ => ⟨o.slots,e⟩) (fun b o hc _ n => ?_) (fun b o _ e => ⟨o,e⟩)
    (fun b xs e => by rw [upd_ne (ne b _ e)]; exact e) (fun b o u e => by rw [upd_ne (ne b _ e)]; exact e) (fun b ps e => ⟨#[],by rw [upd_ne (ne b _ e),e]; simp⟩) (fun m hm => hm) (fun b u e => ?_) I.bare
  · have e:b = D:=by simpa using hb
    subst e
    exact ⟨.inr h1,hL,h2,h3⟩
  · rw [upd_ne (by simpa using hc)]; exact n
  · by_cases hb:b = D
    · subst hb; rw [upd_same] at e; cases e; exact new
    · rw [upd_ne hb] at e
      exact (I.hok b u e).stay (fun c v _ q => q) (fun c q => by rw [upd_ne (ne c _ q)]; exact q) fun c xs q => by rw [upd_ne (ne c _ q)]; exact q

theorem compSt_len (k:Nat) (fr:List Nat) (σ:St):(compSt k fr σ).length = k + fr.length:=by simp [compSt]
theorem compSt_own {k i:Nat} {fr:List Nat} {σ:St} (h:i < k):(compSt k fr σ)[i]? = some none:=by
  unfold compSt
  rw [List.getElem?_append_left (by simpa using h),List.getElem?_replicate,if_pos h]
theorem compSt_free {k i:Nat} {fr:List Nat} {σ:St} {v:V} (h:(compSt k fr σ)[i]? = some (some v)):∃ t j,i = k + t∧fr[t]? = some j∧σ[j]? = some (some v):=by
  by_cases hi:i < k
  · rw [compSt_own hi] at h; cases h
  · refine ⟨i - k,?_⟩
    unfold compSt at h
    rw [List.getElem?_append_right (by simpa using Nat.not_lt.mp hi),List.length_replicate,List.getElem?_map] at h
    cases e:fr[i - k]? with
    | none => rw [e] at h; cases h
    | some j =>
      rw [e] at h
      refine ⟨j,by omega,rfl,?_⟩
      cases e2:σ[j]? with
      | none => rw [show (some j).map (fun j => (σ[j]?).getD none) = some ((σ[j]?).getD none) from rfl,e2] at h; cases h
      | some u =>
        rw [show (some j).map (fun j => (σ[j]?).getD none) = some ((σ[j]?).getD none) from rfl,e2] at h
        exact h

noncomputable def CompRR (X:Cx) (pins:List (Addr × Obj)) (σ:St) (F:List V→Hp→Prop) (RR:Value→Addr→Result→Shared→Prop):Prop:=∀ D C ys (its:List Value) n H' m s',Inv X pins σ H' s'→H' D = none→X.s₀.heap.objs.size ≤ D→D ≠ X.env.locals→(∀ x c,X.env.cells.lookup x = some c→c ≠ D)→(∀ p ∈ X.pn ++ pins,p.1 ≠ D) →
      s'.heap.get? D = some { cls:=.type "list",data:=.seq its.toArray n }→Vals ys its→s'.heap.Ns C m→H' C = none→X.s₀.heap.objs.size ≤ C→C ≠ X.env.locals→(∀ x c,X.env.cells.lookup x = some c→c ≠ C)→(∀ p ∈ X.pn ++ pins,p.1 ≠ C)→C ≠ D →
      F ys H'→RR (.ref D) C (.ok .next) s'
inductive CompI (Y:Cx) (τ:St) (tn:Nat→Heap→Prop) (fp:List Addr) (D:Addr) (W:Nat→Nat→List V→Hp→Prop) (n:Nat) (s':Shared):Prop
  | mk (i:Nat) (ys:List V) (its:List Value) (nn:Nat) (H':Hp) (h0:Inv Y [] τ H' s') (h1:tn i s'.heap) (h2:∀ b ∈ fp,H' b = none) (h3:H' D = none) (h4:s'.heap.get? D = some { cls:=.type "list",data:=.seq its.toArray nn }) (h5:Vals ys its) (h6:W i n ys H')
theorem comp_core1 {tg iter elt:Expr} {ifs:List Expr} {scope:Scope} {cl:List (Str × Addr)} {N:List Str} {k:Nat} {fr:List Nat} {pos:Pos} {g:TG} {tt:TT} {te:TE}
    {F:List V→Hp→Prop} {RR:Value→Addr→Result→Shared→Prop} {it D C:Addr} {fp:List Addr} {tn:Nat→Heap→Prop} {J:It} {H1:Hp} {h3 h₁:Heap}
    (ok:CompOk X scope cl N k fr) (hc:X.calm = true)
    (hg:∀ C s H ex,PG (compCx X scope cl N C s H ex) tg g) (ht:∀ C s H ex,PIfs (compCx X scope cl N C s H ex) ifs tt) (he:∀ C s H ex,PE (compCx X scope cl N C s H ex) elt te)
    (hRR:CompRR X pins σ F RR) (I:Inv X pins σ H1 s) (T:Turn X.prog X.w X.K tg J fp it tn) (st0:tn 0 s.heap) (hf:∀ b ∈ fp,FpOk X pins H1 b) (hw:CompW J g tt te (compSt k fr σ) H1 F)
    (hD:s.heap.objs.size = D) (hp3:s.heap.push { cls:=.type "list",dict:=none,data:=.seq ([]:List Value).toArray } = h3) (hC:h3.objs.size = C)
    (hns₁:h₁.Ns C fun x => List.lookup x ([]:List (Str × Value)).reverse) (hsb₁:Heap.SameBut C (h3.push { cls:=.type (if (some X.env).isSome = true then "dict" else "frame"),data:=.dict #[] }) h₁) :
    codeAny (model X.prog X.w) X.A (.compStart (.ListComp elt [⟨tg,iter,ifs,0⟩] scope pos) 0 (.ref it) (.ref D) { newEnv scope C X.env.globals cl X.env.qual none .none (some X.env) builtinsNs with scope:=relabel scope X.env }) (RR (.ref D) C) { s with heap:=h₁,toks:=s.toks + ([]:List (Str × Value)).length }:=by
  obtain ⟨W,⟨m0,w0⟩,turn⟩:=hw
  have DF:H1 D = none:=I.hok.fresh (by rw [hD]; exact Nat.le_refl _)
  have hDfp:=I.fpOk (b:=D) (by rw [hD]; exact Nat.le_refl _) DF
  have up3:∀ b u,s.heap.get? b = some u→h3.get? b = some u:=fun b u e => by rw [← hp3]; exact Heap.get?_push_of_some _ e
  have I3:Inv X pins σ H1 { s with heap:=h3 }:=I.kept (t':=s.toks) up3
  have hD3:h3.get? D = some { cls:=.type "list",dict:=none,data:=.seq ([]:List Value).toArray }:=by rw [← hD,← hp3]; exact Heap.get?_push_size _ rfl
  have sz3:C = D + 1:=by rw [← hC,← hp3,Heap.size_push,hD]
  have CF:H1 C = none:=I3.hok.fresh (by show h3.objs.size ≤ C; rw [hC]; exact Nat.le_refl _)
  have hCfp:FpOk X pins H1 C:=I3.fpOk (b:=C) (by show h3.objs.size ≤ C; rw [hC]; exact Nat.le_refl _) CF
  have CD:C ≠ D:=by rw [sz3]; exact Nat.ne_of_gt (Nat.lt_succ_self _)
  have up1:∀ b u,h3.get? b = some u→h₁.get? b = some u:=fun b u e => hsb₁.extBut b u (Nat.ne_of_lt (by have:=Heap.lt_size e; rw [hC] at this; exact this)) (Heap.get?_push_of_some _ e)
  have hfb:∀ b ∈ fp,b < D:=fun b hb => by
    obtain ⟨o,e,_⟩:=T.obj 0 _ st0 b hb
    have:=Heap.lt_size e
    rw [hD] at this; exact this
  let s3:Shared:={ s with heap:=h3 }
  let Y:Cx:=compCx X scope cl N C s3 H1 (D :: fp)
  have yok:Y.Ok:={
    mod:=I.ok.mod
    kind:=ok.kind
    glob:=I.ok.glob
    blt:=I.ok.blt
    above:=by show h3.objs.size ≤ C; rw [hC]; exact Nat.le_refl _
    inj:=fun x y c e1 e2 => I.ok.inj x y c (ok.sub x c e1) (ok.sub y c e2)
    has:=ok.has
    cab:=fun x c e _ => nomatch e
    hd:=fun _ => I.ok.hd hc
    frames:=I.ok.frames
    stk:=.inl rfl
    exf:=fun b hb => by
      rcases List.mem_cons.mp hb with rfl | hb
      · exact ⟨Ne.symm CD,fun x c e => hDfp.2.2.2.2.1 x c (ok.sub x c e)⟩
      · exact ⟨fun z => by have q:=hfb b hb; have z':b = C:=z; rw [z',sz3] at q; exact absurd q (Nat.not_lt.mpr (Nat.le_succ _)),fun x c e => (hf b hb).2.2.2.2.1 x c (ok.sub x c e)⟩
    bs:=fun b o e => ⟨(I3.bs b o e).1,(I3.bs b o e).2⟩
    bsz:=Nat.le_trans I.ok.bsz I3.sz
    noex:=fun b o e hb => by
      rcases List.mem_cons.mp hb with rfl | hb
      · have e1:=(I.bs b o e).1
        have:=Heap.lt_size e1
        rw [hD] at this
        exact Nat.lt_irrefl _ this
      · rcases (hf b hb).2.2.2.1 with z | z
        · exact I.ok.noex b o e z
        · exact absurd (Nat.lt_of_lt_of_le (Heap.lt_size e) (Nat.le_trans I.ok.bsz z)) (Nat.lt_irrefl _)
    exfs:=fun b hb hb2 => by
      rcases List.mem_cons.mp hb with rfl | hb
      · rcases List.mem_cons.mp (I.stkSub b hb2) with z | z
        · exact hDfp.2.1 z
        · exact hDfp.2.2.1 z
      · rcases List.mem_cons.mp (I.stkSub b hb2) with z | z
        · exact (hf b hb).2.1 z
        · exact (hf b hb).2.2.1 z
    funs:=I3.stack
    frf:=I.stkFree }
  have neC:∀ b u,h3.get? b = some u→b ≠ C:=fun b u e => Nat.ne_of_lt (by have:=Heap.lt_size e; rw [hC] at this; exact this)
  have IY:Inv Y [] (compSt k fr σ) H1 { s3 with heap:=h₁,toks:=s.toks + ([]:List (Str × Value)).length }:={
    ok:=yok
    os:=rfl
    bare:=I.bare
    base:=Un.kept up1
    loc:=by
      obtain ⟨m,hn,hl⟩:=I3.loc
      refine ⟨_,hns₁,fun i x v e1 e2 e3 => ?_⟩
      obtain ⟨t,j,rfl,e4,e5⟩:=compSt_free e2
      obtain ⟨e6,e7,⟨c,e8⟩,e9,e10⟩:=ok.free t j x e4 e1
      obtain ⟨u,ru,lk⟩:=hl j x v e6 e5 e7
      refine ⟨u,ru,?_⟩
      rcases lk with ⟨z,_⟩ | ⟨_,c',e11,o,eo,ed⟩
      · exact absurd z e10
      · rw [ok.sub x c e8] at e11; cases e11
        exact .inr ⟨e9,c,e8,o,up1 _ _ eo,ed⟩
    cell:=fun x c e => by
      obtain ⟨v,o,eo,ed⟩:=I3.cell x c (ok.sub x c e)
      exact ⟨v,o,up1 _ _ eo,ed⟩
    free:=CF
    freeC:=fun x c e => I3.freeC x c (ok.sub x c e)
    pin:=fun p hp => nomatch hp
    hok:=I3.hok.kept up1
    len:=by rw [compSt_len]; exact ok.len.symm }
  -- the loop
  have DY:D ≠ Y.env.locals:=Ne.symm CD
  have DYf:D ∉ Y.fs:=yok.exfs D List.mem_cons_self
  have Dfp:D ∉ fp:=fun z => Nat.lt_irrefl _ (hfb D z)
  have pinD:∀ {σ':St} {H':Hp} {s':Shared} {its:List Value} {n:Nat},Inv Y [] σ' H' s'→H' D = none→s'.heap.get? D = some { cls:=.type "list",data:=.seq its.toArray n } →
      Inv Y [(D,{ cls:=.type "list",data:=.seq its.toArray n })] σ' H' s':=fun {σ' H' s' its n} J0 hn e => J0.pins_of fun p hp => by
    rcases List.mem_cons.mp hp with rfl | hp
    · exact ⟨e,hn,DY,DYf,fun v z => nomatch z⟩
    · exact nomatch hp
  have ffY:∀ {o:Obj} {H':Hp},(∀ b ∈ fp,H' b = none)→∀ b ∈ fp,FpOk Y [(D,o)] H' b:=fun {o H'} hn b hb =>
    ⟨hn b hb,(yok.exf b (List.mem_cons_of_mem _ hb)).1,yok.exfs b (List.mem_cons_of_mem _ hb),.inl (List.mem_cons_of_mem _ hb),(yok.exf b (List.mem_cons_of_mem _ hb)).2,fun p hp => by
      have hp':p ∈ ([]:List (Addr × Obj)) ++ [(D,o)]:=hp
      have e:p = (D,o):=by simpa using hp'
      rw [e]; exact fun z => Dfp (by have z':D = b:=z; rw [z']; exact hb)⟩
  have loop:codeAny (model X.prog X.w) X.A (.compLoop (.ListComp elt [⟨tg,iter,ifs,0⟩] scope pos) 0 (.ref it) (.ref D) (compEnvC scope cl C X.env)) (RR (.ref D) C)
      { s3 with heap:=h₁,toks:=s.toks + ([]:List (Str × Value)).length }:=by
    refine codeAny_loop rfl (CompI Y (compSt k fr σ) tn fp D W) ?_ m0
      ⟨0,[],[],0,H1,IY,?_,fun b hb => (hf b hb).1,DF,?_,.nil,w0⟩
    · rintro n s4 ⟨i,ys,its,nn,H4,I4,st4,fr4,D4,e4,v4,w4⟩
      have P4:=pinD I4 D4 e4
      show wpAny _ X.A ((compTurn (.ListComp elt [⟨tg,iter,ifs,0⟩] scope pos) 0 (.ref it) (.ref D) (compEnvC scope cl C X.env)).onRaise (fun x => do noteFrame x (compEnvC scope cl C X.env); theTreesLotGoes x)) _ _ s4
      refine wpAny_noted ?_
      rw [compTurn_list]
      refine wpAny_bind (wpAny_standAt (wpAny_bind ?_))
      rcases turn i n ys H4 w4 with ⟨stop,fin⟩ | ⟨go,small,step⟩
      · refine wpAny_mono (T.done Y rfl rfl rfl hc i _ s4 _ H4 (fun _ _ => False) P4 (ffY fr4) st4 stop) (fun r s5 ⟨hr,I5⟩ => ?_) fun _ _ z => z.elim
        subst hr
        refine wpAny_pure ?_
        have e5:=(I5.pin _ (List.mem_cons_self)).1
        have fin5:Inv X pins σ H4 s5:=I3.call' (ch:=D :: fp) I5.os I5.base I5.hok I5.bare fun b hb => by
          rcases List.mem_cons.mp hb with rfl | hb
          · exact ⟨hDfp.2.2.2.1,hDfp.2.1,hDfp.2.2.2.2.1,hDfp.2.2.2.2.2⟩
          · exact ⟨(hf b hb).2.2.2.1,(hf b hb).2.1,(hf b hb).2.2.2.2.1,(hf b hb).2.2.2.2.2⟩
        obtain ⟨m5,n5,_⟩:=I5.loc
        have szD:X.s₀.heap.objs.size ≤ D:=by have:=I.sz; rw [hD] at this; exact this
        have szC:X.s₀.heap.objs.size ≤ C:=by rw [sz3]; exact Nat.le_succ_of_le szD
        exact hRR D C ys its nn H4 m5 s5 fin5 D4 szD hDfp.2.1 hDfp.2.2.2.2.1 hDfp.2.2.2.2.2 e5 v4 n5 I5.free szC hCfp.2.1 hCfp.2.2.2.2.1 hCfp.2.2.2.2.2 CD fin
      · refine wpAny_mono (T.item Y rfl rfl rfl hc i _ s4 _ H4 (fun _ _ => False) P4 (ffY fr4) st4 go) (fun r s5 ⟨u,hr,h5⟩ => ?_) fun _ _ z => z.elim
        subst hr
        refine wpAny_bind (wpAny_mono h5 (fun _ s6 x__71 => ?_) fun _ _ z => z.elim)
        obtain ⟨x,H6,I6,r6,y6,st6,fr6⟩:=x__71
        have I6':=I6.pinned (ffY fr6) (T.obj _ _ st6)
        refine wpAny_bind (wpAny_mono (hg C s3 H1 (D :: fp) _ s6 _ H6 x u _ I6' r6 (step x H6 y6)) (fun _ s7 x__72 => ?_) fun _ _ z => z.elim)
        obtain ⟨σ7,H7,I7,f7,q7⟩:=x__72
        refine wpAny_bind (wpAny_mono (ht C s3 H1 (D :: fp) _ s7 σ7 H7 _ I7 q7) (fun b s8 x__73 => ?_) fun _ _ z => z.elim)
        obtain ⟨H8,I8,q8⟩:=x__73
        have keep:∀ {s9:Shared} {H9:Hp},Inv Y ([(D,{ cls:=.type "list",data:=.seq its.toArray nn })] ++ pinsAt fp s6.heap) σ7 H9 s9→tn (i + 1) s9.heap∧(∀ b ∈ fp,H9 b = none)∧H9 D = none∧s9.heap.get? D = some { cls:=.type "list",data:=.seq its.toArray nn }∧Inv Y [] (compSt k fr σ) H9 s9:=fun {s9 H9} I9 => by
          refine ⟨T.keep _ _ _ st6 fun b hb o e => (I9.pin (b,o) (List.mem_append_right _ (List.mem_append_right _ (mem_pinsAt hb e)))).1,fun b hb => ?_,?_,?_,?_⟩
          · obtain ⟨o,e,d⟩:=T.obj _ _ st6 b hb
            exact (I9.pin (b,o) (List.mem_append_right _ (List.mem_append_right _ (mem_pinsAt hb e)))).2.1
          · exact (I9.pin _ (List.mem_append_right _ (List.mem_append_left _ List.mem_cons_self))).2.1
          · exact (I9.pin _ (List.mem_append_right _ (List.mem_append_left _ List.mem_cons_self))).1
          · exact (I9.pins_of (pins':=[]) fun p hp => nomatch hp).weak f7.1.symm f7.2
        cases b with
        | false =>
          have q8:∃ m',m' < n∧W (i + 1) m' ys H8:=by simpa using q8
          obtain ⟨m',hm,w8⟩:=q8
          obtain ⟨a1,a2,a3,a4,a5⟩:=keep I8
          exact wpAny_pure ⟨rfl,m',hm,i + 1,ys,its,nn,H8,a5,a1,a2,a3,a4,v4,w8⟩
        | true =>
          have q8:te σ7 H8 fun y H4 => ∃ m',m' < n∧W (i + 1) m' (ys ++ [y]) H4:=by simpa using q8
          refine wpAny_bind (wpAny_bind (wpAny_mono (he C s3 H1 (D :: fp) _ s8 σ7 H8 _ I8 q8) (fun yv s9 x__74 => ?_) fun _ _ z => z.elim))
          obtain ⟨y,H9,I9,r9,m',hm,w9⟩:=x__74
          obtain ⟨a1,a2,a3,a4,a5⟩:=keep I9
          refine wpAny_bind (append_at (hsz:=by rw [List.size_toArray,← v4.length]; exact Nat.le_of_lt small) a4 fun h' hs' e' => ?_)
          refine wpAny_pure (wpAny_pure ⟨rfl,m',hm,i + 1,ys ++ [y],its ++ [yv],nn + 1,H9,?_,?_,a2,a3,?_,v4.append (.cons r9 .nil),w9⟩)
          · exact a5.turned (t':=s9.toks) (fun b o hb e => hs'.extBut b o hb e) a3 DY (.inl List.mem_cons_self) (yok.exf D List.mem_cons_self).2 fun p hp => nomatch hp
          · exact T.keep _ _ _ a1 fun b hb o e => hs'.extBut b o (fun z => Dfp (by rw [← z]; exact hb)) e
          · show h'.get? D = _
            rw [e']
            simp
    · exact T.keep 0 _ _ st0 fun b hb o e => up1 _ _ (up3 _ _ e)
    · exact up1 _ _ hD3
  exact codeAny_compStart_list loop (T.self _ 0 _ _ _ (T.keep 0 _ _ st0 fun b hb o e => up1 _ _ (up3 _ _ e)) loop)

theorem comp_core {tg iter elt:Expr} {ifs:List Expr} {scope:Scope} {cl:List (Str × Addr)} {N:List Str} {k:Nat} {fr:List Nat} {pos:Pos} {g:TG} {tt:TT} {te:TE} {itv:Value} {E:Value→Shared→Prop}
    {F:List V→Hp→Prop} {RR:Value→Addr→Result→Shared→Prop}
    (ok:CompOk X scope cl N k fr) (hc:X.calm = true)
    (hg:∀ C s H ex,PG (compCx X scope cl N C s H ex) tg g) (ht:∀ C s H ex,PIfs (compCx X scope cl N C s H ex) ifs tt) (he:∀ C s H ex,PE (compCx X scope cl N C s H ex) elt te)
    (h:PIE X pins σ tg (fun J H1 => CompW J g tt te (compSt k fr σ) H1 F) itv s)
    (hRR:CompRR X pins σ F RR) :
    wpAny (model X.prog X.w) X.A (newList []) (fun acc s₃ => wpAny (model X.prog X.w) X.A (newFunctionEnv scope X.env.globals cl [] X.env.qual none .none (some X.env)) (fun cenv s₄ =>
      codeAny (model X.prog X.w) X.A (.compStart (.ListComp elt [⟨tg,iter,ifs,0⟩] scope pos) 0 itv acc { cenv with scope:=relabel scope X.env }) (RR acc cenv.locals) s₄) E s₃) E s:=by
  obtain ⟨it,fp,tn,J,H1,rfl,I,T,st0,hf,hw⟩:=h
  exact wpAny_newObj_type (wpAny_newFunctionEnv ok.nocell (by intro y hy; simp at hy) (fun h₁ hns₁ hsb₁ => comp_core1 (s:=s) (h3:=s.heap.push { cls:=.type "list",dict:=none,data:=.seq ([]:List Value).toArray }) (h₁:=h₁) ok hc hg ht he hRR I T st0 hf hw rfl rfl rfl hns₁ hsb₁) ok.kind)
theorem pe_comp {tg iter elt:Expr} {ifs:List Expr} {scope:Scope} {cl:List (Str × Addr)} {N:List Str} {k:Nat} {fr:List Nat} {pos:Pos} {wi:TI} {g:TG} {tt:TT} {te:TE}
    (ok:CompOk X scope cl N k fr) (hc:X.calm = true) (hi:PI X tg iter wi)
    (hg:∀ C s H ex,PG (compCx X scope cl N C s H ex) tg g) (ht:∀ C s H ex,PIfs (compCx X scope cl N C s H ex) ifs tt) (he:∀ C s H ex,PE (compCx X scope cl N C s H ex) elt te)
    (hs:∀ x,foldedSetIterable iter X.env x = pure x:=by intro _; rfl):PE X (.ListComp elt [⟨tg,iter,ifs,0⟩] scope pos) (tComp k fr wi g tt te):=by
  intro pins s σ H Q I h
  rw [eval_ListComp]
  refine wpAny_comprehension_free (use:=none) rfl hs ok.clos ok.kind ok.names (thn (hi pins s σ H _ I h) fun v s1 h1 => thn h1 fun itv s2 h2 => ?_)
  refine comp_core ok hc hg ht he h2 fun D C ys its n H' m s' I' d1 d2 d3 d4 d5 e vv nC c1 c2 c3 c4 c5 cd fin => ?_
  refine ⟨m,nC,fun h'' sb => ?_⟩
  have I2:Inv X pins σ H' { s' with heap:=h'' }:=I'.turned (t':=s'.toks) (fun b o hb e => sb.extBut b o hb e) c1 c3 (.inr c2) c4 c5
  have e2:h''.get? D = some { cls:=.type "list",data:=.seq its.toArray n }:=sb.extBut _ _ (Ne.symm cd) e
  exact ⟨.ref D,upd H' D (.lst ys),I2.track (t':=s'.toks) d1 d3 d2 d4 d5 ⟨fin.1,its,n,vv,e2⟩,rfl,fin.2 D d1⟩
theorem ps_comp {i:Nat} {x:Str} {py spos:Pos} {tg iter elt:Expr} {ifs:List Expr} {scope:Scope} {cl:List (Str × Addr)} {N:List Str} {k:Nat} {fr:List Nat} {pos:Pos} {wi:TI} {g:TG} {tt:TT} {te:TE}
    (hN:X.N.Nodup) (hi':X.N[i]? = some x) (hx:Loc X.env.scope x) (ok:CompOk X scope cl N k fr) (hc:X.calm = true) (hi:PI X tg iter wi)
    (hg:∀ C s H ex,PG (compCx X scope cl N C s H ex) tg g) (ht:∀ C s H ex,PIfs (compCx X scope cl N C s H ex) ifs tt) (he:∀ C s H ex,PE (compCx X scope cl N C s H ex) elt te)
    (hsw:swapsWith (.ListComp elt [⟨tg,iter,ifs,0⟩] scope pos) (some (.Name x py)) spos.line X.env = pure true)
    (hs:∀ x,foldedSetIterable iter X.env x = pure x:=by intro _; rfl) (hf:X.fn x = true ∨ X.env.scope.names.lookup x = some .local:=by first | exact .inl rfl | exact .inr rfl | assumption) :
    PS X (.Assign [.Name x py] (.ListComp elt [⟨tg,iter,ifs,0⟩] scope pos) spos) (sComp i k fr wi g tt te):=by
  intro pins s σ H Dd I h
  rw [exec_Assign_Name_used _ _ _ _ hsw]
  refine wpAny_bind (wpAny_standAt (wpAny_bind ?_))
  show wpAny _ X.A (do let _ ← comprehension (.ListComp elt [⟨tg,iter,ifs,0⟩] scope pos) scope X.env _ (newList []) false (eval iter X.env) (some (assign (.Name x py) X.env))) _ _ s
  refine wpAny_bind (wpAny_mono (wpAny_comprehension_free (use:=some (assign (.Name x py) X.env)) (Q:=fun _ s' => SP X pins Dd .next s') rfl hs ok.clos ok.kind ok.names (thn (hi pins s σ H _ I h) fun v s1 h1 => thn h1 fun itv s2 h2 => ?_)) (fun _ s' hq => wpAny_pure (wpAny_pure hq)) fun _ _ e => e)
  refine comp_core ok hc hg ht he h2 fun D C ys its n H' m s' I' d1 d2 d3 d4 d5 e vv nC c1 c2 c3 c4 c5 cd fin => ?_
  show wpAny _ X.A (assign (.Name x py) X.env (.ref D)) _ _ s'
  have I0:Inv X pins σ (upd H' D (.lst ys)) s':=I'.track (t':=s'.toks) d1 d3 d2 d4 d5 ⟨fin.1,its,n,vv,e⟩
  refine wpAny_assign_Name (store_ok2 I0 hN hi' hx (show RelV (.ref D) (.ref D) from rfl) (fun s2 I2 x__75 => ?_) hf)
  obtain ⟨a,sb,ha⟩:=x__75
  have aC:C ≠ a:=by
    rcases ha with z | z
    · rw [z]; exact c3
    · exact Ne.symm (c4 x a z)
  refine ⟨m,nC.sameBut sb aC,fun h'' sb2 => ?_⟩
  have HC:(upd H' D (.lst ys)) C = none:=by rw [upd_ne cd]; exact c1
  exact ⟨_,_,I2.turned (t':=s2.toks) (fun b o hb e => sb2.extBut b o hb e) HC c3 (.inr c2) c4 c5,fin.2 D d1⟩
end
end L2

namespace L2
open PySem PySem.Spec PyProof.Rows

noncomputable def SqK (k:Bool) (K:PySem.W.Frag) (H:Hp) (a:Addr) (xs:List V):Prop:=if k = true then SqL K H a xs else SqT K H a xs
noncomputable def HasK (k:Bool) (h:Heap) (a:Addr) (its:Array Value):Prop:=if k = true then h.IsList a its else h.IsTuple a its
noncomputable def IterK (k:Bool) (h:Heap) (it a:Addr) (i:Nat):Prop:=if k = true then h.IsListIter it a i else h.IsTupleIter it a i
noncomputable def iterObj (k:Bool) (a:Addr):Obj:={ cls:=.type (if k = true then "list_iterator" else "tuple_iterator"),data:=.fields #[.ref a,.int 0 0] }

theorem IterK.at {k:Bool} {h h':Heap} {it a:Addr} {i:Nat} (x:IterK k h it a i) (e:∀ o,h.get? it = some o→h'.get? it = some o):IterK k h' it a i:=by
  cases k with
  | true => exact Heap.IsListIter.at (show h.IsListIter it a i from x) e
  | false => exact Heap.IsTupleIter.at (show h.IsTupleIter it a i from x) e
theorem IterK.get {k:Bool} {h:Heap} {it a:Addr} {i:Nat} (x:IterK k h it a i):∃ o,h.get? it = some o∧∀ v,o.data ≠ .cell v:=by
  cases k with
  | true => obtain ⟨o,e,_,d⟩:=(show h.IsListIter it a i from x); exact ⟨o,e,fun v z => by rw [d] at z; cases z⟩
  | false => obtain ⟨o,e,_,d⟩:=(show h.IsTupleIter it a i from x); exact ⟨o,e,fun v z => by rw [d] at z; cases z⟩
theorem HasK.at {k:Bool} {h h':Heap} {a:Addr} {its:Array Value} (x:HasK k h a its) (e:∀ o,h.get? a = some o→h'.get? a = some o):HasK k h' a its:=by
  cases k with
  | true => exact Heap.IsList.at (show h.IsList a its from x) e
  | false => obtain ⟨o,q,r⟩:=(show h.IsTuple a its from x); exact ⟨o,e o q,r⟩
theorem HasK.lt {k:Bool} {h:Heap} {a:Addr} {its:Array Value} (x:HasK k h a its):a < h.objs.size:=by
  cases k with
  | true => obtain ⟨_,e,_⟩:=(show h.IsList a its from x); exact Heap.lt_size e
  | false => obtain ⟨_,e,_⟩:=(show h.IsTuple a its from x); exact Heap.lt_size e
theorem Inv.hasK {X:Cx} {pins:List (Addr × Obj)} {σ:St} {H:Hp} {s:Shared} {k:Bool} {a:Addr} {xs:List V} (I:Inv X pins σ H s) (h:SqK k X.K H a xs) :
    ∃ its:List Value,Vals xs its∧HasK k s.heap a its.toArray∧xs.length ≤ sizeLine:=by
  cases k with
  | true =>
    obtain ⟨its,r,p,z⟩:=I.list (show SqL X.K H a xs from h)
    exact ⟨its,r,p.isList,z⟩
  | false =>
    obtain ⟨its,r,⟨o,e,c,n,d⟩,z⟩:=I.tuple (show SqT X.K H a xs from h)
    exact ⟨its,r,⟨o,e,c,n,d⟩,z⟩
theorem Inv.sqK_inj {X:Cx} {pins:List (Addr × Obj)} {σ:St} {H:Hp} {s:Shared} {k:Bool} {a:Addr} {xs ys:List V} (I:Inv X pins σ H s) (h:SqK k X.K H a xs) (h':SqK k X.K H a ys):xs = ys:=by
  cases k with
  | true => exact I.list_inj h h'
  | false => exact I.tuple_inj h h'

section
variable {prog:Program} {w:World} {A:Around} {E:Value→Shared→Prop} {s:Shared}
theorem nextK_item {k:Bool} {it a:Addr} {i:Nat} {its:Array Value} {x:Value} {Q:Value→Shared→Prop} (hi:IterK k s.heap it a i) (ha:HasK k s.heap a its) (hx:its[i]? = some x)
    (hQ:∀ h',IterK k h' it a (i + 1)→Heap.SameBut it s.heap h'→Q x { s with heap:=h' }):wpAny (model prog w) A (Builtin.SmallTypes.nextOf (.ref it)) Q E s:=by
  cases k with
  | true => exact wpAny_nextOf_list_item hi ha hx fun h' q1 q2 => hQ h' q1 q2
  | false =>
    have hit:s.heap.IsTupleIter it a i:=hi
    obtain ⟨o,eo,ec,ed⟩:=id hit
    obtain ⟨oa,ea,_,na,da⟩:=(show s.heap.IsTuple a its from ha)
    unfold Builtin.SmallTypes.nextOf
    refine wpAny_bind (wpAny_callSpecial?_slot (name:=Str.ofString "__next__") hit.typeIs F.slot_tuple_iterator_next (wpAny_call_entry F.slot_tuple_iterator_next hit.typeIs F.entry_tuple_iterator_next ?_ (F.args_tuple_iterator_next_1 _)))
    show wpAny (model prog w) _ (field (.ref it) 0 >>= _) _ E s
    refine wpAny_bind (wpAny_field eo ed (x:=.ref a) rfl ?_)
    show wpAny (model prog w) _ (if (Value.ref a == Value.none) = true then _ else _) _ E s
    rw [if_neg (by show ¬ false = true; exact Bool.false_ne_true)]
    show wpAny (model prog w) _ (field (.ref it) 1 >>= _) _ E s
    refine wpAny_bind (wpAny_field eo ed (x:=.int i 0) rfl ?_)
    show wpAny (model prog w) _ (seqItems? (.ref a) >>= _) _ E s
    refine wpAny_bind (wpAny_seqItems ea da ?_)
    simp only [Int.toNat_natCast,hx]
    refine wpAny_bind (wpAny_setField eo ed (by simp) (wpAny_pure ⟨x,rfl,wpAny_pure (hQ _ ?_ (Heap.SameBut.update ..))⟩))
    show Heap.IsTupleIter _ it a (i + 1)
    refine ⟨_,Heap.get?_update_self _ eo (Obj.isFreed_of_fields (Obj.data_mapFields ed _)),(Obj.cls_mapFields ..).trans ec,?_⟩
    rw [Obj.data_mapFields ed]
    simp [rawInt]
theorem nextK_end {k:Bool} {it a:Addr} {i:Nat} {its:Array Value} {Q:Value→Shared→Prop} (hh:A.handled = none) (hi:IterK k s.heap it a i) (ha:HasK k s.heap a its) (hx:its[i]? = none)
    (hE:∀ h' e,Heap.ExtBut it s.heap h'→(∃ o,h'.get? e = some o∧o.cls = .type "StopIteration")→E (.ref e) { s with heap:=h' }):wpAny (model prog w) A (Builtin.SmallTypes.nextOf (.ref it)) Q E s:=by
  cases k with
  | true => exact wpAny_nextOf_list_end hh hi ha hx hE
  | false =>
    have hit:s.heap.IsTupleIter it a i:=hi
    obtain ⟨o,eo,ec,ed⟩:=id hit
    obtain ⟨oa,ea,_,na,da⟩:=(show s.heap.IsTuple a its from ha)
    unfold Builtin.SmallTypes.nextOf
    refine wpAny_bind (wpAny_callSpecial?_slot (name:=Str.ofString "__next__") hit.typeIs F.slot_tuple_iterator_next (wpAny_call_entry F.slot_tuple_iterator_next hit.typeIs F.entry_tuple_iterator_next ?_ (F.args_tuple_iterator_next_1 _)))
    show wpAny (model prog w) _ (field (.ref it) 0 >>= _) _ E s
    refine wpAny_bind (wpAny_field eo ed (x:=.ref a) rfl ?_)
    show wpAny (model prog w) _ (if (Value.ref a == Value.none) = true then _ else _) _ E s
    rw [if_neg (by show ¬ false = true; exact Bool.false_ne_true)]
    show wpAny (model prog w) _ (field (.ref it) 1 >>= _) _ E s
    refine wpAny_bind (wpAny_field eo ed (x:=.int i 0) rfl ?_)
    show wpAny (model prog w) _ (seqItems? (.ref a) >>= _) _ E s
    refine wpAny_bind (wpAny_seqItems ea da ?_)
    simp only [Int.toNat_natCast,hx]
    refine wpAny_bind (wpAny_rule (wpAny_bind (wpAny_setField eo ed (by simp) ?_)))
    show wpAny (model prog w) _ (newExc (.type "StopIteration") [] >>= _) _ E _
    refine wpAny_bind ?_
    simp only [newExc,newTuple]
    refine wpAny_bind (wpAny_newObj_type ?_ (by size_fits))
    refine wpAny_bind (m:=firstArgMember _ _) (wpAny_of_eq (a:=Value.none) (by first | rfl | (simp only [firstArgMember]; rfl)) (wpAny_newObj_type ?_ (by size_fits)))
    simp only [raiseNew]
    refine wpAny_bind (wpAny_handled ?_)
    first | rw [show A.in1.handled = none from hh] | rw [hh]
    exact wpAny_bind (wpAny_pure (wpAny_throw (hE _ _ (((Heap.SameBut.update ..).extBut.push _).push _) ⟨_,Heap.get?_push_size _ rfl,rfl⟩)))
theorem iterK_new {k:Bool} {a:Addr} {its:Array Value} {Q:Value→Shared→Prop} (ha:HasK k s.heap a its) (hQ:Q (.ref s.heap.objs.size) { s with heap:=s.heap.push (iterObj k a) }) :
    wpAny (model prog w) A (pyIter (.ref a)) Q E s:=by
  cases k with
  | true => exact wpAny_pyIter_list ha hQ
  | false => exact wpAny_pyIter_tuple ha hQ
theorem iterObj_is {k:Bool} {a it:Addr} {h:Heap} (e:h.get? it = some (iterObj k a)):IterK k h it a 0:=by
  cases k with
  | true => exact ⟨_,e,rfl,rfl⟩
  | false => exact ⟨_,e,rfl,rfl⟩
end

structure ZipRec (h:Heap) (k1 k2:Bool) (z TI TO i1 i2 a b:Addr) (n:Nat) (f0:Value):Prop where
  zr:IsZip h z TI TO f0
  pi:IsPair h TI (.ref i1) (.ref i2)
  po:∃ u v,IsPair h TO u v
  it1:IterK k1 h i1 a n
  it2:IterK k2 h i2 b n
structure ZipFar (z TI TO i1 i2:Addr):Prop where
  d1:TI ≠ z
  d2:TO ≠ z
  d3:i1 ≠ z
  d4:i2 ≠ z
  d5:TI ≠ TO
  d6:TI ≠ i1
  d7:TI ≠ i2
  d8:TO ≠ i1
  d9:TO ≠ i2
  d10:i1 ≠ i2

section
variable {prog:Program} {w:World} {A:Around} {E:Value→Shared→Prop} {s:Shared} {k1 k2:Bool} {z TI TO i1 i2 a b:Addr} {n:Nat} {xs ys:Array Value}
theorem zipK_item {x y:Value} {Q:Value→Shared→Prop} (D:ZipFar z TI TO i1 i2) (Z:ZipRec s.heap k1 k2 z TI TO i1 i2 a b n .none) (ha:HasK k1 s.heap a xs) (hb:HasK k2 s.heap b ys)
    (fa:a ≠ z∧a ≠ TO∧a ≠ i1∧a ≠ i2) (fb:b ≠ z∧b ≠ TO∧b ≠ i1∧b ≠ i2) (hx:xs[n]? = some x) (hy:ys[n]? = some y)
    (hQ:∀ h',ZipRec h' k1 k2 z TI TO i1 i2 a b (n + 1) (rawInt s.heap.objs.size)→IsPair h' s.heap.objs.size x y→h'.objs.size = s.heap.objs.size + 1 →
      (∀ c o,c ≠ z→c ≠ TO→c ≠ i1→c ≠ i2→s.heap.get? c = some o→h'.get? c = some o)→Q (.ref s.heap.objs.size) { s with heap:=h' }) :
    wpAny (model prog w) A (Builtin.«zip.__next__» ⟨[.ref z],[]⟩) (fun fin s' => ∃ v,fin = .done (.ret v)∧Q v s') E s:=by
  obtain ⟨zr,zi,⟨u,v,zo⟩,z1,z2⟩:=Z
  show wpAny (model prog w) A (field (.ref z) 2 >>= _) _ E s
  refine wpAny_bind (wpAny_field zr rfl (x:=.bool false) rfl ?_)
  show wpAny (model prog w) A (field (.ref z) 3 >>= _) _ E s
  refine wpAny_bind (wpAny_field zr rfl (x:=.ref TI) rfl (wpAny_bind (wpAny_seqItems zi rfl ?_)))
  show wpAny (model prog w) A (Builtin.SmallTypes.ownedTupleIsFree (.ref z) >>= _) _ E s
  refine wpAny_bind ?_
  unfold Builtin.SmallTypes.ownedTupleIsFree
  refine wpAny_bind (wpAny_field zr rfl (x:=.none) rfl (wpAny_pure ?_))
  simp only [if_true]
  refine wpAny_bind (wpAny_rule (wpAny_bind (wpAny_field zr rfl (x:=.ref TO) rfl (wpAny_bind (wpAny_setField_rec zr (by simp) fun g1 r1 e1 => ?_)))))
  have r1':IsZip g1 z TI TO .ellipsis:=r1
  clear r1
  simp only [List.zipIdx_cons,List.zipIdx_nil,List.forIn_cons,List.forIn_nil]
  have kp1:∀ c o,c ≠ z→s.heap.get? c = some o→g1.get? c = some o:=fun c o q e => e1.extBut c o q e
  -- the first
  refine wpAny_bind (wpAny_bind (wpAny_bind (wpAny_onRaise ?_)))
  show wpAny (model prog w) A (Builtin.SmallTypes.nextOf (.ref i1) >>= _) _ _ { s with heap:=g1 }
  refine wpAny_bind (nextK_item (s:={ s with heap:=g1 }) (z1.at fun o e => kp1 _ o D.d3 e) (ha.at fun o e => kp1 _ o fa.1 e) hx fun g2 j1 e2 => wpAny_pure ?_)
  have kp2:∀ c o,c ≠ i1→g1.get? c = some o→g2.get? c = some o:=fun c o q e => e2.extBut c o q e
  have o2:IsPair g2 TO u v:=kp2 _ _ D.d8 (kp1 _ _ D.d2 zo)
  refine wpAny_bind (wpAny_seqItems o2 rfl (wpAny_bind (wpAny_updateSeq_pair o2 fun g3 o3 e3 => wpAny_bind (wpAny_letGo (wpAny_pure ?_)))))
  have o3':IsPair g3 TO x v:=o3
  clear o3
  have kp3:∀ c o,c ≠ TO→g2.get? c = some o→g3.get? c = some o:=fun c o q e => e3.extBut c o q e
  -- the second
  refine wpAny_bind (wpAny_bind (wpAny_onRaise ?_))
  show wpAny (model prog w) A (Builtin.SmallTypes.nextOf (.ref i2) >>= _) _ _ { s with heap:=g3 }
  refine wpAny_bind (nextK_item (s:={ s with heap:=g3 }) (z2.at fun o e => kp3 _ o D.d9.symm (kp2 _ o D.d10.symm (kp1 _ o D.d4 e))) (hb.at fun o e => kp3 _ o fb.2.1 (kp2 _ o fb.2.2.1 (kp1 _ o fb.1 e))) hy fun g4 j2 e4 => wpAny_pure ?_)
  have kp4:∀ c o,c ≠ i2→g3.get? c = some o→g4.get? c = some o:=fun c o q e => e4.extBut c o q e
  have o4:IsPair g4 TO x v:=kp4 _ _ D.d9 o3'
  refine wpAny_bind (wpAny_seqItems o4 rfl (wpAny_bind (wpAny_updateSeq_pair o4 fun g5 o5 e5 => wpAny_bind (wpAny_letGo (wpAny_pure (wpAny_pure ?_))))))
  have o5':IsPair g5 TO x y:=o5
  clear o5
  have kp5:∀ c o,c ≠ TO→g4.get? c = some o→g5.get? c = some o:=fun c o q e => e5.extBut c o q e
  refine wpAny_bind (wpAny_seqItems o5' rfl (wpAny_bind (wpAny_newTuple ?_)))
  have sz5:g5.objs.size = s.heap.objs.size:=by rw [e5.1,e4.1,e3.1,e2.1,e1.1]
  have z5:IsZip g5 z TI TO .ellipsis:=kp5 _ _ D.d2.symm (kp4 _ _ D.d4.symm (kp3 _ _ D.d2.symm (kp2 _ _ D.d3.symm r1')))
  have all5:∀ c o,c ≠ z→c ≠ TO→c ≠ i1→c ≠ i2→s.heap.get? c = some o→g5.get? c = some o:=fun c o q1 q2 q3 q4 e => kp5 _ _ q2 (kp4 _ _ q4 (kp3 _ _ q2 (kp2 _ _ q3 (kp1 _ _ q1 e))))
  have j1':IterK k1 g5 i1 a (n + 1):=j1.at fun o e => kp5 _ _ D.d8.symm (kp4 _ _ D.d10 (kp3 _ _ D.d8.symm e))
  have j2':IterK k2 g5 i2 b (n + 1):=j2.at fun o e => kp5 _ _ D.d9.symm e
  have zl:z < g5.objs.size:=Heap.lt_size z5
  refine wpAny_bind ?_
  unfold Builtin.SmallTypes.ownedTupleHandOut
  have z6:IsZip (g5.push { cls:=.type "tuple",data:=.seq #[x,y] }) z TI TO .ellipsis:=Heap.get?_push_of_some _ z5
  refine wpAny_bind (wpAny_setField_rec z6 (by simp) fun g7 r7 e7 => ?_)
  have r7':IsZip g7 z TI TO (rawInt g5.objs.size):=r7
  refine wpAny_setField_rec r7' (by simp) fun g8 r8 e8 => ?_
  have r8':IsZip g8 z TI TO (rawInt g5.objs.size):=r8
  have kp8:∀ c o,c ≠ z→g5.get? c = some o→g8.get? c = some o:=fun c o q e => e8.extBut _ _ q (e7.extBut _ _ q (Heap.get?_push_of_some _ e))
  have t8:IsPair g8 g5.objs.size x y:=e8.extBut _ _ (Nat.ne_of_gt zl) (e7.extBut _ _ (Nat.ne_of_gt zl) (Heap.get?_push_size _ rfl))
  have sz8:g8.objs.size = g5.objs.size + 1:=by rw [e8.1,e7.1,Heap.size_push]
  rw [sz5] at r8' t8 sz8
  refine wpAny_pure ⟨_,rfl,?_⟩
  show Q (.ref g5.objs.size) _
  rw [sz5]
  exact hQ g8 ⟨r8',kp8 _ _ D.d1 (all5 _ _ D.d1 D.d5 D.d6 D.d7 zi),⟨_,_,kp8 _ _ D.d2 o5'⟩,j1'.at fun o e => kp8 _ o D.d3 e,j2'.at fun o e => kp8 _ o D.d4 e⟩ t8 sz8 fun c o q1 q2 q3 q4 e => kp8 c o q1 (all5 c o q1 q2 q3 q4 e)

theorem zipK_end {Q:Fin→Shared→Prop} (hh:A.handled = none) (D:ZipFar z TI TO i1 i2) (Z:ZipRec s.heap k1 k2 z TI TO i1 i2 a b n .none) (ha:HasK k1 s.heap a xs) (hb:HasK k2 s.heap b ys)
    (fa:a ≠ z∧a ≠ TO∧a ≠ i1∧a ≠ i2) (fb:b ≠ z∧b ≠ TO∧b ≠ i1∧b ≠ i2) (hend:xs[n]? = none ∨ ys[n]? = none)
    (hE:∀ h' e,(∀ c o,c ≠ z→c ≠ TO→c ≠ i1→c ≠ i2→s.heap.get? c = some o→h'.get? c = some o)→(∃ o,h'.get? e = some o∧o.cls = .type "StopIteration")→E (.ref e) { s with heap:=h' }) :
    wpAny (model prog w) A (Builtin.«zip.__next__» ⟨[.ref z],[]⟩) Q E s:=by
  obtain ⟨zr,zi,⟨u,v,zo⟩,z1,z2⟩:=Z
  show wpAny (model prog w) A (field (.ref z) 2 >>= _) _ E s
  refine wpAny_bind (wpAny_field zr rfl (x:=.bool false) rfl ?_)
  show wpAny (model prog w) A (field (.ref z) 3 >>= _) _ E s
  refine wpAny_bind (wpAny_field zr rfl (x:=.ref TI) rfl (wpAny_bind (wpAny_seqItems zi rfl ?_)))
  show wpAny (model prog w) A (Builtin.SmallTypes.ownedTupleIsFree (.ref z) >>= _) _ E s
  refine wpAny_bind ?_
  unfold Builtin.SmallTypes.ownedTupleIsFree
  refine wpAny_bind (wpAny_field zr rfl (x:=.none) rfl (wpAny_pure ?_))
  simp only [if_true]
  refine wpAny_bind (wpAny_rule (wpAny_bind (wpAny_field zr rfl (x:=.ref TO) rfl (wpAny_bind (wpAny_setField_rec zr (by simp) fun g1 r1 e1 => ?_)))))
  have r1':IsZip g1 z TI TO .ellipsis:=r1
  clear r1
  simp only [List.zipIdx_cons,List.zipIdx_nil,List.forIn_cons,List.forIn_nil]
  have kp1:∀ c o,c ≠ z→s.heap.get? c = some o→g1.get? c = some o:=fun c o q e => e1.extBut c o q e
  refine wpAny_bind (wpAny_bind (wpAny_bind (wpAny_onRaise ?_)))
  show wpAny (model prog w) A (Builtin.SmallTypes.nextOf (.ref i1) >>= _) _ _ { s with heap:=g1 }
  cases hx:xs[n]? with
  | none =>
    refine wpAny_bind (nextK_end (s:={ s with heap:=g1 }) hh (z1.at fun o e => kp1 _ o D.d3 e) (ha.at fun o e => kp1 _ o fa.1 e) hx fun g2 e e2 he => ?_)
    obtain ⟨oe,eo,ec⟩:=he
    have z2':IsZip g2 z TI TO .ellipsis:=e2 _ _ D.d3.symm r1'
    have ez:e ≠ z:=fun q => by subst q; rw [z2'] at eo; cases eo; simp at ec
    exact wpAny_setField_rec z2' (by simp) fun g3 _ e3 => hE g3 e (fun c o q1 _ q3 _ q => e3.extBut _ _ q1 (e2 _ _ q3 (kp1 _ _ q1 q))) ⟨oe,e3.extBut _ _ ez eo,ec⟩
  | some x =>
    have hy:ys[n]? = none:=hend.resolve_left fun q => by rw [hx] at q; cases q
    refine wpAny_bind (nextK_item (s:={ s with heap:=g1 }) (z1.at fun o e => kp1 _ o D.d3 e) (ha.at fun o e => kp1 _ o fa.1 e) hx fun g2 j1 e2 => wpAny_pure ?_)
    have kp2:∀ c o,c ≠ i1→g1.get? c = some o→g2.get? c = some o:=fun c o q e => e2.extBut c o q e
    have o2:IsPair g2 TO u v:=kp2 _ _ D.d8 (kp1 _ _ D.d2 zo)
    refine wpAny_bind (wpAny_seqItems o2 rfl (wpAny_bind (wpAny_updateSeq_pair o2 fun g3 o3 e3 => wpAny_bind (wpAny_letGo (wpAny_pure ?_)))))
    have kp3:∀ c o,c ≠ TO→g2.get? c = some o→g3.get? c = some o:=fun c o q e => e3.extBut c o q e
    refine wpAny_bind (wpAny_bind (wpAny_onRaise ?_))
    show wpAny (model prog w) A (Builtin.SmallTypes.nextOf (.ref i2) >>= _) _ _ { s with heap:=g3 }
    refine wpAny_bind (nextK_end (s:={ s with heap:=g3 }) hh (z2.at fun o e => kp3 _ o D.d9.symm (kp2 _ o D.d10.symm (kp1 _ o D.d4 e))) (hb.at fun o e => kp3 _ o fb.2.1 (kp2 _ o fb.2.2.1 (kp1 _ o fb.1 e))) hy fun g4 e e4 he => ?_)
    obtain ⟨oe,eo,ec⟩:=he
    have z4:IsZip g4 z TI TO .ellipsis:=e4 _ _ D.d4.symm (kp3 _ _ D.d2.symm (kp2 _ _ D.d3.symm r1'))
    have ez:e ≠ z:=fun q => by subst q; rw [z4] at eo; cases eo; simp at ec
    exact wpAny_setField_rec z4 (by simp) fun g5 _ e5 => hE g5 e (fun c o q1 q2 q3 q4 q => e5.extBut _ _ q1 (e4 _ _ q4 (kp3 _ _ q2 (kp2 _ _ q3 (kp1 _ _ q1 q))))) ⟨oe,e5.extBut _ _ ez eo,ec⟩
end

section
variable {prog:Program} {w:World} {A:Around} {E:Value→Shared→Prop} {s:Shared} {k1 k2:Bool} {z TI TO i1 i2 a b:Addr} {n:Nat} {xs ys:Array Value}
theorem nextZip_item {x y:Value} {Q:Option Value→Shared→Prop} (D:ZipFar z TI TO i1 i2) (Z:ZipRec s.heap k1 k2 z TI TO i1 i2 a b n .none) (ha:HasK k1 s.heap a xs) (hb:HasK k2 s.heap b ys)
    (fa:a ≠ z∧a ≠ TO∧a ≠ i1∧a ≠ i2) (fb:b ≠ z∧b ≠ TO∧b ≠ i1∧b ≠ i2) (hx:xs[n]? = some x) (hy:ys[n]? = some y)
    (hQ:∀ h',ZipRec h' k1 k2 z TI TO i1 i2 a b (n + 1) (rawInt s.heap.objs.size)→IsPair h' s.heap.objs.size x y→h'.objs.size = s.heap.objs.size + 1 →
      (∀ c o,c ≠ z→c ≠ TO→c ≠ i1→c ≠ i2→s.heap.get? c = some o→h'.get? c = some o)→Q (some (.ref s.heap.objs.size)) { s with heap:=h' }) :
    wpAny (model prog w) A (pyNext (.ref z)) Q E s:=by
  have ty:s.TypeIs (.ref z) "zip":=⟨_,Z.zr,rfl⟩
  unfold pyNext
  refine wpAny_bind (wpAny_attempt (wpAny_callSpecial?_slot (name:=Str.ofString "__next__") ty F.slot_zip_next (wpAny_call_entry F.slot_zip_next ty F.entry_zip_next ?_ (F.args_zip_next_1 _))))
  exact zipK_item D Z ha hb fa fb hx hy fun h' q1 q2 q3 q4 => wpAny_pure (hQ h' q1 q2 q3 q4)
theorem nextZip_end {Q:Option Value→Shared→Prop} (hh:A.handled = none) (D:ZipFar z TI TO i1 i2) (Z:ZipRec s.heap k1 k2 z TI TO i1 i2 a b n .none) (ha:HasK k1 s.heap a xs) (hb:HasK k2 s.heap b ys)
    (fa:a ≠ z∧a ≠ TO∧a ≠ i1∧a ≠ i2) (fb:b ≠ z∧b ≠ TO∧b ≠ i1∧b ≠ i2) (hend:xs[n]? = none ∨ ys[n]? = none)
    (hQ:∀ h',(∀ c o,c ≠ z→c ≠ TO→c ≠ i1→c ≠ i2→s.heap.get? c = some o→h'.get? c = some o)→Q none { s with heap:=h' }):wpAny (model prog w) A (pyNext (.ref z)) Q E s:=by
  have ty:s.TypeIs (.ref z) "zip":=⟨_,Z.zr,rfl⟩
  unfold pyNext
  refine wpAny_bind (wpAny_attempt (wpAny_callSpecial?_slot (name:=Str.ofString "__next__") ty F.slot_zip_next (wpAny_call_entry F.slot_zip_next ty F.entry_zip_next ?_ (F.args_zip_next_1 _))))
  refine zipK_end hh D Z ha hb fa fb hend fun h' e kp he => ?_
  obtain ⟨o,ho,hc⟩:=he
  exact wpAny_bind (wpAny_isInstance (T:="StopIteration") (b:=true) ⟨o,ho,hc⟩ isSubtype_stop (wpAny_pure (hQ _ kp)))

noncomputable abbrev zG1 (h:Heap) (k1:Bool) (a:Addr):Heap:=h.push (iterObj k1 a)
noncomputable abbrev zG2 (h:Heap) (k1 k2:Bool) (a b:Addr):Heap:=(zG1 h k1 a).push (iterObj k2 b)
noncomputable abbrev zG3 (h:Heap) (k1 k2:Bool) (a b:Addr):Heap:=(zG2 h k1 k2 a b).push { cls:=.type "tuple",data:=.seq #[.ref h.objs.size,.ref (zG1 h k1 a).objs.size] }
noncomputable abbrev zG4 (h:Heap) (k1 k2:Bool) (a b:Addr):Heap:=(zG3 h k1 k2 a b).push { cls:=.type "tuple",data:=.seq #[.none,.none] }
noncomputable abbrev zG5 (h:Heap) (k1 k2:Bool) (a b:Addr):Heap:=(zG4 h k1 k2 a b).push { cls:=.type "zip",data:=.fields #[.none,.bool false,.bool false,.ref (zG2 h k1 k2 a b).objs.size,.ref (zG3 h k1 k2 a b).objs.size] }
theorem meets_zipK (k1 k2:Bool) (a b:Addr) (xs ys:Array Value):Meets (Builtin.«zip.__new__» ⟨[.type "zip",.ref a,.ref b],[]⟩) (fun _ R s => HasK k1 s.heap a xs∧HasK k2 s.heap b ys ∧
      R (.ok (.ret (.ref (zG4 s.heap k1 k2 a b).objs.size))) { s with heap:=zG5 s.heap k1 k2 a b }) :=
  .of_wp fun prog w A R s h => by
    obtain ⟨hp,g,d,tk,os⟩:=s
    obtain ⟨p1,p2,h⟩:=h
    have hsub:=sub_zip
    have q1:HasK k1 (Shared.heap ⟨hp,g,d,tk,os⟩) a xs:=p1
    have q2:HasK k2 (Shared.heap ⟨hp.push (iterObj k1 a),g,d,tk,os⟩) b ys:=p2.at fun o e => Heap.get?_push_of_some _ e
    wp_walk using iterK_new q1,iterK_new q2
    exact ⟨_,rfl,h⟩
theorem call_zipK {Q:Value→Shared→Prop} (ha:HasK k1 s.heap a xs) (hb:HasK k2 s.heap b ys)
    (h:∀ h',ZipRec h' k1 k2 (s.heap.objs.size + 4) (s.heap.objs.size + 2) (s.heap.objs.size + 3) s.heap.objs.size (s.heap.objs.size + 1) a b 0 .none→(∀ c o,s.heap.get? c = some o→h'.get? c = some o)→Q (.ref (s.heap.objs.size + 4)) { s with heap:=h' }) :
    wpAny (model prog w) A (call (.type "zip") [.ref a,.ref b]) Q E s:=by
  refine callType_new F.called_zip (by decide) (F.typeCall_zip_2 _ _) (F.newCall_zip_2 _ _) (fun obj => F.args_object_init_3 obj _ _) F.entry_zip_new (meets_zipK k1 k2 a b xs ys) ⟨ha,hb,?_⟩
  have n1:(zG1 s.heap k1 a).objs.size = s.heap.objs.size + 1:=Heap.size_push ..
  have n2:(zG2 s.heap k1 k2 a b).objs.size = s.heap.objs.size + 2:=by rw [Heap.size_push,n1]
  have n3:(zG3 s.heap k1 k2 a b).objs.size = s.heap.objs.size + 3:=by rw [Heap.size_push,n2]
  have n4:(zG4 s.heap k1 k2 a b).objs.size = s.heap.objs.size + 4:=by rw [Heap.size_push,n3]
  have up:∀ {g:Heap} {o:Obj} {c:Addr} {u:Obj},g.get? c = some u→(g.push o).get? c = some u:=fun e => Heap.get?_push_of_some _ e
  have g5:(zG5 s.heap k1 k2 a b).get? (zG4 s.heap k1 k2 a b).objs.size = some _:=Heap.get?_push_size _ rfl
  have g4:(zG5 s.heap k1 k2 a b).get? (zG3 s.heap k1 k2 a b).objs.size = some _:=up (Heap.get?_push_size _ rfl)
  have g3:(zG5 s.heap k1 k2 a b).get? (zG2 s.heap k1 k2 a b).objs.size = some _:=up (up (Heap.get?_push_size _ rfl))
  have g2:(zG5 s.heap k1 k2 a b).get? (zG1 s.heap k1 a).objs.size = some (iterObj k2 b):=up (up (up (Heap.get?_push_size _ (by cases k2 <;> rfl))))
  have g1:(zG5 s.heap k1 k2 a b).get? s.heap.objs.size = some (iterObj k1 a):=up (up (up (up (Heap.get?_push_size _ (by cases k1 <;> rfl)))))
  show _∧_
  rw [n2,n3,n4] at g5
  rw [n1,n2] at g3
  rw [n3] at g4
  rw [n1] at g2
  rw [n4]
  exact ⟨⟨_,g5,rfl⟩,h _ ⟨g5,g3,⟨_,_,g4⟩,iterObj_is g1,iterObj_is g2⟩ fun c o e => up (up (up (up (up e))))⟩
end

noncomputable def Itz (K:PySem.W.Frag) (k1 k2:Bool) (a b:Addr):It :=
  ⟨fun i H => ∃ xs ys x y,SqK k1 K H a xs∧SqK k2 K H b ys∧xs[i]? = some x∧ys[i]? = some y,
   fun i H v H' => ∃ p x y,v = .ref p∧H p = none∧H' = upd H p (.tup [x,y])∧(∀ xs,SqK k1 K H a xs→xs[i]? = some x)∧∀ ys,SqK k2 K H b ys→ys[i]? = some y,
   fun i H => ∃ xs ys,SqK k1 K H a xs∧SqK k2 K H b ys∧(xs.length ≤ i ∨ ys.length ≤ i)⟩
theorem turn_zip {P:Program} {w:World} {K:PySem.W.Frag} {elts:List Expr} {c:Nat} {pos:Pos} {k1 k2:Bool} {z TI TO i1 i2 a b:Addr} (D:ZipFar z TI TO i1 i2) (fa:a ≠ z∧a ≠ TO∧a ≠ i1∧a ≠ i2) (fb:b ≠ z∧b ≠ TO∧b ≠ i1∧b ≠ i2) :
    Turn P w K (.Tuple elts c pos) (Itz K k1 k2 a b) [z,TI,TO,i1,i2] z (fun i h => ZipRec h k1 k2 z TI TO i1 i2 a b i .none) where
  mem:=by simp
  obj:=fun i h st q hq => by
    obtain ⟨zr,zi,⟨u,v,zo⟩,z1,z2⟩:=st
    simp only [List.mem_cons,List.not_mem_nil,or_false] at hq
    rcases hq with rfl | rfl | rfl | rfl | rfl
    · exact ⟨_,zr,fun v e => nomatch e⟩
    · exact ⟨_,zi,fun v e => nomatch e⟩
    · exact ⟨_,zo,fun v e => nomatch e⟩
    · exact z1.get
    · exact z2.get
  keep:=fun i h h' st k => by
    obtain ⟨zr,zi,⟨u,v,zo⟩,z1,z2⟩:=st
    exact ⟨k _ (by simp) _ zr,k _ (by simp) _ zi,⟨u,v,k _ (by simp) _ zo⟩,z1.at fun o e => k _ (by simp) o e,z2.at fun o e => k _ (by simp) o e⟩
  item:=by
    intro X hP hw hK hc i pins s σ H E I hf st hg
    subst hP hw hK
    obtain ⟨xs,ys,x,y,sa,sb,hx,hy⟩:=hg
    obtain ⟨ia,ra,ha,za⟩:=I.hasK sa
    obtain ⟨ib,rb,hb,zb⟩:=I.hasK sb
    obtain ⟨u,hu,ru⟩:=ra.get hx
    obtain ⟨v,hv,rv⟩:=rb.get hy
    refine nextZip_item D st ha hb fa fb (x:=u) (y:=v) (by simpa using hu) (by simpa using hv) fun h' Z' t' sz' kp => ?_
    refine ⟨_,rfl,wpAny_letOwnedTupleGo_zip Z'.zr fun h'' z'' sb'' => ?_⟩
    have lt:∀ {c o},s.heap.get? c = some o→s.heap.objs.size ≠ c:=fun e => Nat.ne_of_gt (Heap.lt_size e)
    have hz:s.heap.objs.size ≠ z:=lt st.zr
    have kp2:∀ c o,c ∉ [z,TI,TO,i1,i2]→s.heap.get? c = some o→h''.get? c = some o:=fun c o hc e => by
      simp only [List.mem_cons,List.not_mem_nil,or_false,not_or] at hc
      exact sb''.extBut _ _ hc.1 (kp c o hc.1 hc.2.2.1 hc.2.2.2.1 hc.2.2.2.2 e)
    have nH:H s.heap.objs.size = none:=I.hok.fresh (Nat.le_refl _)
    have frL:∀ q ∈ [z,TI,TO,i1,i2],H q = none:=fun q hq => (hf q hq).1
    have neT:∀ q u,H q = some u→q ≠ s.heap.objs.size:=fun q u e => ne_of_none e nH
    refine ⟨.ref s.heap.objs.size,upd H s.heap.objs.size (.tup [x,y]),?_,rfl,⟨_,x,y,rfl,nH,rfl,fun xs' q => by rw [I.sqK_inj q sa]; exact hx,fun ys' q => by rw [I.sqK_inj q sb]; exact hy⟩,?_,fun q hq => ?_⟩
    · refine Inv.step (s:=s) (h':=h'') (g':=s.gens) (d':=s.drawn) (t':=s.toks) (ch:=[z,TI,TO,i1,i2]) I (fun q hq => ?_) (fun q o _ _ hc e _ => kp2 q o hc e) (fun q o _ _ hc e _ => ⟨o.slots,kp2 q o hc e⟩) (fun q o hc e n => ?_) (fun q o hc e => ⟨o,kp2 q o hc e⟩)
        (fun q xs e => by rw [upd_ne (neT q _ e)]; exact e) (fun q o u e => by rw [upd_ne (neT q _ e)]; exact e) (fun q ps e => ⟨#[],by rw [upd_ne (neT q _ e),e]; simp⟩) (fun m hm => ?_) (fun q o e => ?_) I.bare
      · exact ⟨(hf q hq).2.2.2.1,(hf q hq).2.1,(hf q hq).2.2.2.2.1,(hf q hq).2.2.2.2.2⟩
      · rw [upd_ne (fun zz => lt e zz.symm)]; exact n
      · obtain ⟨o,es,ep,ho,r⟩:=hm
        exact ⟨o,es,ep,kp2 _ o (fun hq => (hf _ hq).2.1 rfl) ho,r⟩
      · have notin:∀ q u,H q = some u→q ∉ [z,TI,TO,i1,i2]:=fun q u e hq => by rw [frL q hq] at e; cases e
        by_cases hq:q = s.heap.objs.size
        · subst hq
          rw [upd_same] at e
          cases e
          exact ⟨by show 2 ≤ sizeLine; decide,[u,v],.cons ru (.cons rv .nil),⟨_,sb''.extBut _ _ hz t',rfl,_,rfl⟩⟩
        · rw [upd_ne hq] at e
          refine (I.hok q o e).stay (fun c w' hc r => kp2 c w' ?_ r) (fun c r => by rw [upd_ne (neT c _ r)]; exact r) fun c xs r => by rw [upd_ne (neT c _ r)]; exact r
          rcases hc with rfl | hc
          · exact notin _ _ e
          · exact notin _ _ hc
    · obtain ⟨zr,zi,⟨u',v',zo⟩,z1,z2⟩:=Z'
      exact ⟨z'',sb''.extBut _ _ D.d1 zi,⟨u',v',sb''.extBut _ _ D.d2 zo⟩,z1.at fun o e => sb''.extBut _ o D.d3 e,z2.at fun o e => sb''.extBut _ o D.d4 e⟩
    · rw [upd_ne]
      · exact frL q hq
      · obtain ⟨zr,zi,⟨u',v',zo⟩,z1,z2⟩:=st
        simp only [List.mem_cons,List.not_mem_nil,or_false] at hq
        rcases hq with rfl | rfl | rfl | rfl | rfl
        · exact fun zz => lt zr zz.symm
        · exact fun zz => lt zi zz.symm
        · exact fun zz => lt zo zz.symm
        · obtain ⟨o,e,_⟩:=z1.get; exact fun zz => lt e zz.symm
        · obtain ⟨o,e,_⟩:=z2.get; exact fun zz => lt e zz.symm
  done:=by
    intro X hP hw hK hc i pins s σ H E I hf st hg
    subst hP hw hK
    obtain ⟨xs,ys,sa,sb,hx⟩:=hg
    obtain ⟨ia,ra,ha,za⟩:=I.hasK sa
    obtain ⟨ib,rb,hb,zb⟩:=I.hasK sb
    have la:=ra.length
    have lb:=rb.length
    refine nextZip_end (I.ok.hd hc) D st ha hb fa fb (hx.imp (fun q => by simp; omega) fun q => by simp; omega) fun h' kp => ⟨rfl,?_⟩
    have kp2:∀ c o,c ∉ [z,TI,TO,i1,i2]→s.heap.get? c = some o→h'.get? c = some o:=fun c o hc e => by
      simp only [List.mem_cons,List.not_mem_nil,or_false,not_or] at hc
      exact kp c o hc.1 hc.2.2.1 hc.2.2.2.1 hc.2.2.2.2 e
    have notin:∀ q u,H q = some u→q ∉ [z,TI,TO,i1,i2]:=fun q u e hq => by rw [(hf q hq).1] at e; cases e
    refine Inv.step (s:=s) (h':=h') (g':=s.gens) (d':=s.drawn) (t':=s.toks) (ch:=[z,TI,TO,i1,i2]) I (fun q hq => ?_) (fun q o _ _ hc e _ => kp2 q o hc e) (fun q o _ _ hc e _ => ⟨o.slots,kp2 q o hc e⟩) (fun _ _ _ _ n => n)
      (fun q o hq e => ?_) (fun _ _ e => e) (fun _ _ _ e => e) (fun q ps e => ⟨#[],by rw [e]; simp⟩) (fun m hm => ?_) (fun q o e => ?_) I.bare
    · exact ⟨(hf q hq).2.2.2.1,(hf q hq).2.1,(hf q hq).2.2.2.2.1,(hf q hq).2.2.2.2.2⟩
    · exact ⟨o,kp2 q o hq e⟩
    · obtain ⟨o,es,ep,ho,r⟩:=hm
      exact ⟨o,es,ep,kp2 _ o (fun hq => (hf _ hq).2.1 rfl) ho,r⟩
    · refine (I.hok q o e).stay (fun c w' hc r => kp2 c w' ?_ r) (fun _ r => r) fun _ _ r => r
      rcases hc with rfl | hc
      · exact notin _ _ e
      · exact notin _ _ hc
  self:=fun _ _ _ _ _ st h => wpAny_pyIter_zip st.zr h

noncomputable def iZip (K:PySem.W.Frag) (ta:TA):TI:=fun σ H R => ta σ H fun vs H1 => ∃ k1 k2 a b xs ys,vs = [.ref a,.ref b]∧SqK k1 K H1 a xs∧SqK k2 K H1 b ys∧R (Itz K k1 k2 a b) H1
theorem pi_zip {X:Cx} {elts:List Expr} {c:Nat} {tp:Pos} {a b:Expr} {ta:TA} {p pos:Pos} (hg:Gl X "zip") (hm:X.mg "zip" = none) (ha:PA X [a,b] ta) (hs:starEach [a,b] X.env = [(false,eval a X.env),(false,eval b X.env)]:=by rfl)
    (hs2:starEach [b] X.env = [(false,eval b X.env)]:=by rfl):PI X (.Tuple elts c tp) (.Call (.Name "zip" p) [a,b] [] pos) (iZip X.K ta):=by
  intro pins s σ H R I h
  refine Call_ (ld_blt I hg hm (u:=.type "zip") (by first | rfl | decide +kernel) (PyProof.Rows.callWith_type1 (thn (ha pos pins s σ H _ I h) fun us s1 x__76 => ?_) (by rw [hs,hs2]) (by rw [hs2]; rfl)))
  obtain ⟨vs,H1,I1,r1,q1⟩:=x__76
  obtain ⟨k1,k2,a,b,xs,ys,e,sa,sb,q⟩:=q1
  subst e
  obtain ⟨u,v,rfl,ru,rv⟩:=vals2 r1
  cases (show u = Value.ref a from ru)
  cases (show v = Value.ref b from rv)
  obtain ⟨ia,ra,ha',za⟩:=I1.hasK sa
  obtain ⟨ib,rb,hb',zb⟩:=I1.hasK sb
  refine call_zipK ha' hb' fun h' Z kp => ?_
  refine wpAny_pyIter_zip Z.zr ?_
  have la:LT.lt (α:=Nat) a s1.heap.objs.size:=ha'.lt
  have lb:LT.lt (α:=Nat) b s1.heap.objs.size:=hb'.lt
  generalize hn:s1.heap.objs.size = n at *
  refine ⟨n + 4,[n + 4,n + 2,n + 3,n,n + 1],fun i h => ZipRec h k1 k2 (n + 4) (n + 2) (n + 3) n (n + 1) a b i .none,Itz X.K k1 k2 a b,H1,rfl,I1.kept (t':=s1.toks) kp,turn_zip ?_ ?_ ?_,Z,fun q hq => ?_,q⟩
  · constructor <;> (intro e; have e':(_:Nat) = _:=e; omega)
  · refine ⟨?_,?_,?_,?_⟩ <;> (intro e; have e':(_:Nat) = _:=e; omega)
  · refine ⟨?_,?_,?_,?_⟩ <;> (intro e; have e':(_:Nat) = _:=e; omega)
  · have hq':s1.heap.objs.size ≤ q:=by
      rw [hn]
      simp only [List.mem_cons,List.not_mem_nil,or_false] at hq
      rcases hq with rfl | rfl | rfl | rfl | rfl <;> first | exact Nat.le_refl _ | exact Nat.le_add_right _ _
    exact I1.fpOk hq' (I1.hok.fresh hq')
end L2

namespace L2
open PySem PySem.Spec PyProof.Rows
section
variable {prog:Program} {w:World} {A:Around} {E:Value→Shared→Prop} {s:Shared}
theorem drawsK {k:Bool} (hh:A.handled = none) {it a:Addr} (hne:a ≠ it) (its:Array Value) :
    Draws prog w A it [it,a] its.size (fun i x => its[i]? = some x) (fun i h => IterK k h it a i∧HasK k h a its) where
  live:=fun i h st => by obtain ⟨o,e,_⟩:=st.1.get; exact ⟨o,e⟩
  frame:=fun i h h' st hk => ⟨st.1.at fun o e => hk it (by simp) o e,st.2.at fun o e => hk a (by simp) o e⟩
  item:=fun i s Q E hi st hQ => by
    have hx:its[i]? = some its[i]:=Array.getElem?_eq_getElem hi
    exact nextK_item st.1 st.2 hx fun h' q1 q2 => hQ _ h' s.toks hx ⟨q1,st.2.at fun o e => q2.extBut _ _ hne e⟩ q2
  done:=fun s Q E st hE => nextK_end hh st.1 st.2 (by simp) hE
theorem drawsEnd {k:Bool} (hh:A.handled = none) {it a:Addr} (its:Array Value) {i:Nat} (hi:its[i]? = none) :
    Draws prog w A it [it,a] i (fun _ _ => True) (fun j h => j = i∧IterK k h it a i∧HasK k h a its) where
  live:=fun _ h st => by obtain ⟨o,e,_⟩:=st.2.1.get; exact ⟨o,e⟩
  frame:=fun _ h h' st hk => ⟨st.1,st.2.1.at fun o e => hk it (by simp) o e,st.2.2.at fun o e => hk a (by simp) o e⟩
  item:=fun j s Q E hj st _ => absurd hj (by rw [st.1]; exact Nat.lt_irrefl i)
  done:=fun s Q E st hE => nextK_end hh st.2.1 st.2.2 hi hE
noncomputable abbrev eG1 (h:Heap) (k:Bool) (a:Addr):Heap:=h.push (iterObj k a)
noncomputable abbrev eG2 (h:Heap) (k:Bool) (a:Addr):Heap:=(eG1 h k a).push { cls:=.type "enumerate",data:=.fields #[.none,.bool false,.ref h.objs.size,rawInt 0,.none,.none] }
theorem meets_enumK (k:Bool) (a:Addr) (xs:Array Value):Meets (Builtin.«enumerate.__new__» ⟨[.type "enumerate",.ref a],[]⟩) (fun _ R s => HasK k s.heap a xs∧R (.ok (.ret (.ref (eG1 s.heap k a).objs.size))) { s with heap:=eG2 s.heap k a }) :=
  .of_wp fun prog w A R s h => by
    obtain ⟨hp,g,d,tk,os⟩:=s
    obtain ⟨p1,h⟩:=h
    have hsub:=sub_enumerate
    have q1:HasK k (Shared.heap ⟨hp,g,d,tk,os⟩) a xs:=p1
    wp_walk using iterK_new q1
    all_goals first | exact ⟨_,rfl,h⟩ | skip
    refine wpAny_stack_any fun st => wpAny_pure ?_
    split
    · rename_i c _ _ _ _ _
      cases (c == Value.type "enumerate")
      · wp_walk using iterK_new q1
        exact ⟨_,rfl,h⟩
      · wp_walk using iterK_new q1
        exact ⟨_,rfl,h⟩
    · wp_walk using iterK_new q1
      exact ⟨_,rfl,h⟩
theorem call_enumK {k:Bool} {a:Addr} {xs:Array Value} {Q:Value→Shared→Prop} (ha:HasK k s.heap a xs)
    (h:∀ h',IsEnum h' (s.heap.objs.size + 1) s.heap.objs.size 0 .none→IterK k h' s.heap.objs.size a 0→(∀ c o,s.heap.get? c = some o→h'.get? c = some o)→Q (.ref (s.heap.objs.size + 1)) { s with heap:=h' }) :
    wpAny (model prog w) A (call (.type "enumerate") [.ref a]) Q E s:=by
  refine callType_new F.called_enumerate (by decide) (F.typeCall_enumerate_1 _) (F.newCall_enumerate_1 _) (fun ob => F.args_object_init_2 ob _) F.entry_enumerate_new (meets_enumK k a xs) ⟨ha,?_⟩
  have n1:(eG1 s.heap k a).objs.size = s.heap.objs.size + 1:=Heap.size_push ..
  have up:∀ {g:Heap} {o:Obj} {c:Addr} {u:Obj},g.get? c = some u→(g.push o).get? c = some u:=fun e => Heap.get?_push_of_some _ e
  have g2:(eG2 s.heap k a).get? (eG1 s.heap k a).objs.size = some _:=Heap.get?_push_size _ rfl
  have g1:(eG2 s.heap k a).get? s.heap.objs.size = some (iterObj k a):=up (Heap.get?_push_size _ (by cases k <;> rfl))
  show _∧_
  rw [n1] at g2 ⊢
  exact ⟨⟨_,g2,rfl⟩,h _ g2 (iterObj_is g1) fun c o e => up (up e)⟩
end
noncomputable def Itn (K:PySem.W.Frag) (k:Bool) (a:Addr):It :=
  ⟨fun i H => ∃ xs x,SqK k K H a xs∧xs[i]? = some x,
   fun i H v H' => ∃ p x,v = .ref p∧H p = none∧H' = upd H p (.tup [.int (i:Int),x])∧∀ xs,SqK k K H a xs→xs[i]? = some x,
   fun i H => ∃ xs,SqK k K H a xs∧xs.length ≤ i⟩
structure EnRec (h:Heap) (k:Bool) (e it a:Addr) (i:Nat):Prop where
  er:∃ old,IsEnum h e it i old
  ir:IterK k h it a i
theorem turn_enum {P:Program} {w:World} {K:PySem.W.Frag} {elts:List Expr} {c:Nat} {pos:Pos} {k:Bool} {e it a:Addr} (hei:e ≠ it) (fa:a ≠ e∧a ≠ it) :
    Turn P w K (.Tuple elts c pos) (Itn K k a) [e,it] e (fun i h => EnRec h k e it a i) where
  mem:=by simp
  obj:=fun i h st q hq => by
    obtain ⟨⟨old,er⟩,ir⟩:=st
    simp only [List.mem_cons,List.not_mem_nil,or_false] at hq
    rcases hq with rfl | rfl
    · exact ⟨_,er,fun v z => nomatch z⟩
    · exact ir.get
  keep:=fun i h h' st kp => by
    obtain ⟨⟨old,er⟩,ir⟩:=st
    exact ⟨⟨old,kp _ (by simp) _ er⟩,ir.at fun o z => kp _ (by simp) o z⟩
  item:=by
    intro X hP hw hK hc i pins s σ H E I hf st hg
    subst hP hw hK
    obtain ⟨xs,x,sa,hx⟩:=hg
    obtain ⟨ia,ra,ha,za⟩:=I.hasK sa
    obtain ⟨u,hu,ru⟩:=ra.get hx
    obtain ⟨⟨old,er⟩,ir⟩:=st
    have hil:i < ia.toArray.size:=by rw [List.size_toArray]; exact (List.getElem?_eq_some_iff.mp hu).1
    refine wpAny_pyNext_enum_itemD (drawsK (A:=X.A.in1) (k:=k) (show X.A.in1.handled = none from I.ok.hd hc) fa.2 ia.toArray) er ⟨ir,ha⟩ hil hei (by simp only [List.mem_cons,List.not_mem_nil,or_false,not_or]; exact ⟨hei,Ne.symm fa.1⟩) fun y h' tk hy eo st' ht sz kp => ?_
    have hyu:y = u:=by
      have:ia[i]? = some y:=by simpa using hy
      rw [hu] at this; exact (Option.some.inj this).symm
    subst hyu
    refine ⟨_,rfl,wpAny_letOwnedTupleGo_enum eo fun h'' e'' sb'' => ?_⟩
    have lt:∀ {c o},s.heap.get? c = some o→s.heap.objs.size ≠ c:=fun z => Nat.ne_of_gt (Heap.lt_size z)
    have hz:s.heap.objs.size ≠ e:=lt er
    have kp2:∀ c o,c ∉ [e,it]→s.heap.get? c = some o→h''.get? c = some o:=fun c o hc z => by
      simp only [List.mem_cons,List.not_mem_nil,or_false,not_or] at hc
      exact sb''.extBut _ _ hc.1 (kp c o hc.1 hc.2 z)
    have nH:H s.heap.objs.size = none:=I.hok.fresh (Nat.le_refl _)
    have frL:∀ q ∈ [e,it],H q = none:=fun q hq => (hf q hq).1
    have neT:∀ q u,H q = some u→q ≠ s.heap.objs.size:=fun q u z => ne_of_none z nH
    refine ⟨.ref s.heap.objs.size,upd H s.heap.objs.size (.tup [.int (i:Int),x]),?_,rfl,⟨_,x,rfl,nH,rfl,fun xs' q => by rw [I.sqK_inj q sa]; exact hx⟩,?_,fun q hq => ?_⟩
    · refine Inv.step (s:=s) (h':=h'') (g':=s.gens) (d':=s.drawn) (t':=tk + 1) (ch:=[e,it]) I (fun q hq => ?_) (fun q o _ _ hc z _ => kp2 q o hc z) (fun q o _ _ hc z _ => ⟨o.slots,kp2 q o hc z⟩) (fun q o hc z n => ?_) (fun q o hc z => ⟨o,kp2 q o hc z⟩)
        (fun q xs z => by rw [upd_ne (neT q _ z)]; exact z) (fun q o u z => by rw [upd_ne (neT q _ z)]; exact z) (fun q ps z => ⟨#[],by rw [upd_ne (neT q _ z),z]; simp⟩) (fun m hm => ?_) (fun q o z => ?_) I.bare
      · exact ⟨(hf q hq).2.2.2.1,(hf q hq).2.1,(hf q hq).2.2.2.2.1,(hf q hq).2.2.2.2.2⟩
      · rw [upd_ne (fun zz => lt z zz.symm)]; exact n
      · obtain ⟨o,es,ep,ho,r⟩:=hm
        exact ⟨o,es,ep,kp2 _ o (fun hq => (hf _ hq).2.1 rfl) ho,r⟩
      · have notin:∀ q u,H q = some u→q ∉ [e,it]:=fun q u z hq => by rw [frL q hq] at z; cases z
        by_cases hq:q = s.heap.objs.size
        · subst hq
          rw [upd_same] at z
          cases z
          exact ⟨by show 2 ≤ sizeLine; decide,[.int (i:Int) tk,y],.cons ⟨_,rfl⟩ (.cons ru .nil),⟨_,sb''.extBut _ _ hz ht,rfl,_,rfl⟩⟩
        · rw [upd_ne hq] at z
          refine (I.hok q o z).stay (fun c w' hc r => kp2 c w' ?_ r) (fun c r => by rw [upd_ne (neT c _ r)]; exact r) fun c xs r => by rw [upd_ne (neT c _ r)]; exact r
          rcases hc with rfl | hc
          · exact notin _ _ z
          · exact notin _ _ hc
    · exact ⟨⟨_,by simpa using e''⟩,st'.1.at fun o z => sb''.extBut _ o (Ne.symm hei) z⟩
    · rw [upd_ne]
      · exact frL q hq
      · simp only [List.mem_cons,List.not_mem_nil,or_false] at hq
        rcases hq with rfl | rfl
        · exact fun zz => lt er zz.symm
        · obtain ⟨o,z,_⟩:=ir.get; exact fun zz => lt z zz.symm
  done:=by
    intro X hP hw hK hc i pins s σ H E I hf st hg
    subst hP hw hK
    obtain ⟨xs,sa,hx⟩:=hg
    obtain ⟨ia,ra,ha,za⟩:=I.hasK sa
    obtain ⟨⟨old,er⟩,ir⟩:=st
    have la:=ra.length
    refine wpAny_pyNext_enum_endD (drawsEnd (A:=X.A.in1) (k:=k) (it:=it) (a:=a) (show X.A.in1.handled = none from I.ok.hd hc) ia.toArray (i:=i) (by simp; omega)) er ⟨rfl,ir,ha⟩ fun h' kp => ⟨rfl,?_⟩
    have kp2:∀ c o,c ∉ [e,it]→s.heap.get? c = some o→h'.get? c = some o:=fun c o hc z => by
      simp only [List.mem_cons,List.not_mem_nil,or_false,not_or] at hc
      exact kp c o hc.2 z
    have notin:∀ q u,H q = some u→q ∉ [e,it]:=fun q u z hq => by rw [(hf q hq).1] at z; cases z
    refine Inv.step (s:=s) (h':=h') (g':=s.gens) (d':=s.drawn) (t':=s.toks) (ch:=[e,it]) I (fun q hq => ?_) (fun q o _ _ hc z _ => kp2 q o hc z) (fun q o _ _ hc z _ => ⟨o.slots,kp2 q o hc z⟩) (fun _ _ _ _ n => n)
      (fun q o hq z => ⟨o,kp2 q o hq z⟩) (fun _ _ z => z) (fun _ _ _ z => z) (fun q ps z => ⟨#[],by rw [z]; simp⟩) (fun m hm => ?_) (fun q o z => ?_) I.bare
    · exact ⟨(hf q hq).2.2.2.1,(hf q hq).2.1,(hf q hq).2.2.2.2.1,(hf q hq).2.2.2.2.2⟩
    · obtain ⟨o,es,ep,ho,r⟩:=hm
      exact ⟨o,es,ep,kp2 _ o (fun hq => (hf _ hq).2.1 rfl) ho,r⟩
    · refine (I.hok q o z).stay (fun c w' hc r => kp2 c w' ?_ r) (fun _ r => r) fun _ _ r => r
      rcases hc with rfl | hc
      · exact notin _ _ z
      · exact notin _ _ hc
  self:=fun _ _ _ _ _ st h => by obtain ⟨⟨old,er⟩,_⟩:=st; exact wpAny_pyIter_enum er h
noncomputable def iEnum (K:PySem.W.Frag) (ta:TA):TI:=fun σ H R => ta σ H fun vs H1 => ∃ k a xs,vs = [.ref a]∧SqK k K H1 a xs∧R (Itn K k a) H1
theorem pi_enum {X:Cx} {elts:List Expr} {c:Nat} {tp:Pos} {a:Expr} {ta:TA} {p pos:Pos} (hg:Gl X "enumerate") (hm:X.mg "enumerate" = none) (ha:PA X [a] ta) (hs:starEach [a] X.env = [(false,eval a X.env)]:=by rfl) :
    PI X (.Tuple elts c tp) (.Call (.Name "enumerate" p) [a] [] pos) (iEnum X.K ta):=by
  intro pins s σ H R I h
  refine Call_ (ld_blt I hg hm (u:=.type "enumerate") (by first | rfl | decide +kernel) (PyProof.Rows.callWith_type1 (thn (ha pos pins s σ H _ I h) fun us s1 x__77 => ?_) (by rw [hs]; rfl) rfl))
  obtain ⟨vs,H1,I1,r1,q1⟩:=x__77
  obtain ⟨k,a,xs,e,sa,q⟩:=q1
  subst e
  obtain ⟨u,rfl,ru⟩:=vals1 r1
  cases (show u = Value.ref a from ru)
  obtain ⟨ia,ra,ha',za⟩:=I1.hasK sa
  refine call_enumK ha' fun h' En It kp => ?_
  refine wpAny_pyIter_enum En ?_
  have la:LT.lt (α:=Nat) a s1.heap.objs.size:=ha'.lt
  generalize hn:s1.heap.objs.size = n at *
  refine ⟨n + 1,[n + 1,n],fun i h => EnRec h k (n + 1) n a i,Itn X.K k a,H1,rfl,I1.kept (t':=s1.toks) kp,turn_enum ?_ ?_,⟨⟨_,En⟩,It⟩,fun q hq => ?_,q⟩
  · intro e; have e':n + 1 = n:=e; omega
  · refine ⟨?_,?_⟩ <;> (intro e; have e':(_:Nat) = _:=e; omega)
  · have hq':s1.heap.objs.size ≤ q:=by
      simp only [List.mem_cons,List.not_mem_nil,or_false] at hq
      rw [hn]
      rcases hq with rfl | rfl <;> first | exact Nat.le_refl _ | exact Nat.le_succ _
    exact I1.fpOk hq' (I1.hok.fresh hq')
end L2

namespace L2
open PySem PySem.Spec PyProof.Rows
noncomputable def revSm (a b c:Int):Bool:=Builtin.Range.rangeFitsLong a && Builtin.Range.rangeFitsLong b && Builtin.Range.rangeFitsLong c && Builtin.Range.rangeFitsLong (-c) && Builtin.Range.rangeFitsLong (a - c) && Builtin.Range.rangeFitsLong (Builtin.Range.rangeSize a b c)
theorem meets_revrange (r:Addr) (a b c:Int) (t u v:Tok) (hs:¬(!(Builtin.Range.rangeFitsLong a && Builtin.Range.rangeFitsLong b && Builtin.Range.rangeFitsLong c && Builtin.Range.rangeFitsLong (-c) && Builtin.Range.rangeFitsLong (a - c) && Builtin.Range.rangeFitsLong (Builtin.Range.rangeSize a b c))) = true) :
    Meets (Builtin.«range.__reversed__» ⟨[.ref r],[]⟩) (fun _ R s => IsRange s.heap r a b c t u v ∧
      R (.ok (.ret (.ref s.heap.objs.size))) { s with heap:=s.heap.push { cls:=.type (if (Builtin.Range.rangeFitsLong a && Builtin.Range.rangeFitsLong b && Builtin.Range.rangeFitsLong c && Builtin.Range.rangeFitsLong (-c) && Builtin.Range.rangeFitsLong (a - c) && Builtin.Range.rangeFitsLong (Builtin.Range.rangeSize a b c)) = true then "range_iterator" else "longrange_iterator"),data:=.fields #[rawInt (a + (Builtin.Range.rangeSize a b c - 1) * c),rawInt (Builtin.Range.rangeSize a b c),rawInt (-c)] } }) :=
  .of_wp fun prog w A R s h => by
    obtain ⟨hp,g,d,tk,os⟩:=s
    obtain ⟨hl,h⟩:=h
    wp_walk
    exact ⟨_,rfl,h⟩
section
variable {prog:Program} {w:World} {A:Around} {E:Value→Shared→Prop} {s:Shared}
theorem sub_ri_reversed:isSubtype (.type "range_iterator") (.type "reversed") = pure false:=by rw [isSubtype_type]; kernel_rfl
theorem call_rrev {r:Addr} {a b:Int} {t u v:Tok} {Q:Value→Shared→Prop} (hr:IsRange s.heap r a b 1 t u v) (hs:revSm a b 1 = true)
    (h:Q (.ref s.heap.objs.size) { s with heap:=s.heap.push { cls:=.type "range_iterator",data:=.fields #[rawInt (a + (Builtin.Range.rangeSize a b 1 - 1) * 1),rawInt (Builtin.Range.rangeSize a b 1),rawInt (-1)] } }):wpAny (model prog w) A (call (.builtin "range.__reversed__") [.ref r]) Q E s:=by
  have hT:s.TypeIs (.ref r) "range":=⟨_,hr,rfl⟩
  unfold revSm at hs
  refine call_meets F.slot_range_reversed hT F.entry_range_reversed (F.args_range_reversed_1 _) (meets_revrange r a b 1 t u v (by rw [hs]; decide)) ⟨hr,?_⟩
  simp only [hs,if_true]
  exact h
theorem call_reversed_range {r:Addr} {a b:Int} {t u v:Tok} {Q:Value→Shared→Prop} (hr:IsRange s.heap r a b 1 t u v) (hs:revSm a b 1 = true)
    (h:Q (.ref s.heap.objs.size) { s with heap:=s.heap.push { cls:=.type "range_iterator",data:=.fields #[rawInt (a + (Builtin.Range.rangeSize a b 1 - 1) * 1),rawInt (Builtin.Range.rangeSize a b 1),rawInt (-1)] } }):wpAny (model prog w) A (call (.type "reversed") [.ref r]) Q E s:=by
  have hT:s.TypeIs (.ref r) "range":=⟨_,hr,rfl⟩
  refine callType_other (U:="range_iterator") (Q₁:=fun ob s1 => ob = .ref s.heap.objs.size∧s1 = { s with heap:=s.heap.push { cls:=.type "range_iterator",data:=.fields #[rawInt (a + (Builtin.Range.rangeSize a b 1 - 1) * 1),rawInt (Builtin.Range.rangeSize a b 1),rawInt (-1)] } }) (by decide +kernel) F.create_reversed ⟨_,_,F.mro_reversed⟩ F.made_reversed sub_ri_reversed (F.typeCall_reversed_1 _) ?_ ?_
  · refine codeAny_of_tree (show wpAny _ A.in1.in1 (do checkBuiltinCall "reversed.__new__" ⟨[.type "reversed",.ref r],[]⟩; again (.builtin "reversed.__new__" ⟨[.type "reversed",.ref r],[]⟩)) _ _ s from ?_)
    refine wpAny_bind (wpAny_of_eq (F.newCall_reversed_1 _) (wpAny_pure ⟨plainId_quiet F.plain_reversed_new _,codeAny_builtin F.entry_reversed_new ?_⟩)); rw [Around.under_plainId F.plain_reversed_new _]
    unfold Builtin.«reversed.__new__»; refine wpAny_bind (wpAny_of_eq (newClass_reversed _) ?_)
    refine wpAny_bind (wpAny_of_eq (a:=()) (by first | rfl | kernel_rfl) ?_); refine wpAny_bind (wpAny_of_eq (a:=()) (by first | rfl | kernel_rfl) ?_)
    refine wpAny_bind (wpAny_specialOf hT F.slot_range_reversed.lookup ?_); refine wpAny_bind (wpAny_of_eq (F.slot_range_reversed.bind _) ?_)
    show wpAny _ _ (if (Value.builtin "range.__reversed__" == Value.none) = true then _ else _) _ _ _; rw [if_neg (show ¬ ((Value.builtin "range.__reversed__" == Value.none) = true) from Bool.false_ne_true)]
    refine wpAny_bind (wpAny_rule (wpAny_bind (m:=runValue (.call (.builtin "range.__reversed__") ⟨[.ref r],[]⟩)) (show wpAny _ _ (call (.builtin "range.__reversed__") [.ref r]) _ _ _ from call_rrev hr hs ?_)))
    first | exact wpAny_pure ⟨rfl,rfl⟩ | exact wpAny_bind (wpAny_pure (wpAny_pure ⟨rfl,rfl⟩))
  · rintro ob s1 ⟨rfl,rfl⟩
    exact ⟨⟨_,Heap.get?_push_size _ rfl,rfl⟩,h⟩
end
noncomputable def Itd (lo:Int) (n:Nat):It:=⟨fun i _ => i < n,fun i H x H' => H' = H∧x = .int (lo + (n:Int) - 1 - i),fun i _ => n ≤ i⟩
theorem turn_down {P:Program} {w:World} {K:PySem.W.Frag} {tg:Expr} (it:Addr) (lo:Int) (n:Nat):Turn P w K tg (Itd lo n) [it] it (fun i h => IsRangeIter h it (lo + (n:Int) - 1 + (i:Nat) * (-1)) ((n:Int) - (i:Nat)) (-1)) where
  mem:=by simp
  obj:=fun i h st b hb => by
    have e:b = it:=by simpa using hb
    subst e
    exact ⟨_,st,fun v z => nomatch (show Data.fields _ = Data.cell v from z)⟩
  keep:=fun i h h' st k => k it (by simp) _ st
  item:=by
    intro X hP hw hK hc i pins s σ H E I hf st hg
    subst hP hw hK
    obtain ⟨f0,f1,f2,f3,f4,f5⟩:=hf it (by simp)
    have hlt:i < n:=hg
    refine wpAny_pyNext_range_item st (by omega) fun h' st' sb => ?_
    have I1:Inv X pins σ H { s with heap:=h',toks:=s.toks + 1 }:=I.turned (fun b o hb e => (sb.2 b hb).trans e) f0 f1 f3 f4 f5
    have e1:lo + (n:Int) - 1 + (i:Nat) * (-1) + (-1) = lo + (n:Int) - 1 + ((i + 1:Nat):Int) * (-1):=by omega
    have e2:(n:Int) - (i:Nat) - 1 = (n:Int) - ((i + 1:Nat):Int):=by omega
    rw [e1,e2] at st'
    refine ⟨_,rfl,go_of (s:={ s with heap:=h',toks:=s.toks + 1 }) (n:="range_iterator") st' rfl rfl (by decide) ⟨.int (lo + (n:Int) - 1 - i),H,I1,⟨s.toks,?_⟩,⟨rfl,rfl⟩,st',fun b hb => (hf b hb).1⟩⟩
    rw [show lo + (n:Int) - 1 + (i:Nat) * (-1) = lo + (n:Int) - 1 - (i:Int) by omega]
  done:=by
    intro X hP hw hK hc i pins s σ H E I hf st hg
    subst hP hw hK
    obtain ⟨f0,f1,f2,f3,f4,f5⟩:=hf it (by simp)
    exact wpAny_pyNext_range_end (I.ok.hd hc) st (by have:n ≤ i:=hg; omega) fun h' eb => ⟨rfl,I.turned (t':=s.toks) (fun b o hb e => eb b o hb e) f0 f1 f3 f4 f5⟩
  self:=fun _ _ _ _ _ st h => wpAny_pyIter_rangeiter st h
noncomputable def iRevR (ta:TA):TI:=fun σ H R => ta σ H fun vs H1 => ∃ j:Int,vs = [.int j]∧-(2 ^ 62) ≤ j∧j < 2 ^ 62∧R (Itd 0 j.toNat) H1
theorem pi_revr {X:Cx} {tg a:Expr} {ta:TA} {p pos p2 pos2:Pos} (hg:Gl X "reversed") (hm:X.mg "reversed" = none) (hg2:Gl X "range") (hm2:X.mg "range" = none) (ha:PA X [a] ta) (hs2:starEach [a] X.env = [(false,eval a X.env)]:=by rfl)
    (hs:starEach [.Call (.Name "range" p2) [a] [] pos2] X.env = (false,eval (.Call (.Name "range" p2) [a] [] pos2) X.env) :: starEach [] X.env:=by rfl):PI X tg (.Call (.Name "reversed" p) [.Call (.Name "range" p2) [a] [] pos2] [] pos) (iRevR ta):=by
  intro pins s σ H R I h
  refine Call_ (ld_blt I hg hm (u:=.type "reversed") (by first | rfl | decide +kernel) (PyProof.Rows.callWith_type1 ?_ hs rfl))
  rw [hs]
  refine Calls.spliced_cons (s:=s) ?_
  refine Call_ (ld_blt I hg2 hm2 boot_range (PyProof.Rows.callWith_type1 (thn (ha pos2 pins s σ H _ I h) fun us s1 x__78 => ?_) hs2 rfl))
  obtain ⟨vs,H1,I1,r1,q1⟩:=x__78
  obtain ⟨j,e,q1,q2,q⟩:=q1
  subst e
  obtain ⟨u,rfl,ru⟩:=vals1 r1
  obtain ⟨t,rfl⟩:=ru
  refine call_range_1 (Calls.spliced_nil ?_)
  generalize hR:({ cls:=.type "range",data:=.fields #[.int 0 s1.toks,.int j t,.int 1 (s1.toks + 1)] }:Obj) = ro
  have I2:Inv X pins σ H1 { s1 with heap:=s1.heap.push ro,toks:=s1.toks + 1 + 1 }:=I1.kept fun b o e => Heap.get?_push_of_some _ e
  have hr:IsRange (s1.heap.push ro) s1.heap.objs.size 0 j 1 s1.toks t (s1.toks + 1):=by rw [← hR]; exact Heap.get?_push_size _ rfl
  have hn:Builtin.Range.rangeSize 0 j 1 = (j.toNat:Int):=by rw [rangeSize_one]; split <;> omega
  have hsm:revSm 0 j 1 = true:=by
    unfold revSm
    rw [hn]
    simp only [Builtin.Range.rangeFitsLong,Bool.and_eq_true,decide_eq_true_eq]
    omega
  refine call_reversed_range (s:={ s1 with heap:=s1.heap.push ro,toks:=s1.toks + 1 + 1 }) hr hsm ?_
  have hst:IsRangeIter ((s1.heap.push ro).push { cls:=.type "range_iterator",data:=.fields #[rawInt (0 + (Builtin.Range.rangeSize 0 j 1 - 1) * 1),rawInt (Builtin.Range.rangeSize 0 j 1),rawInt (-1)] }) (s1.heap.push ro).objs.size (0 + (j.toNat:Int) - 1 + ((0:Nat):Int) * (-1)) ((j.toNat:Int) - ((0:Nat):Int)) (-1):=by
    have e1:(0:Int) + (j.toNat:Int) - 1 + ((0:Nat):Int) * (-1) = 0 + (Builtin.Range.rangeSize 0 j 1 - 1) * 1:=by rw [hn]; omega
    have e2:(j.toNat:Int) - ((0:Nat):Int) = Builtin.Range.rangeSize 0 j 1:=by rw [hn]; omega
    rw [e1,e2]
    exact Heap.get?_push_size _ rfl
  refine wpAny_pyIter_rangeiter (s:={ s1 with heap:=(s1.heap.push ro).push { cls:=.type "range_iterator",data:=.fields #[rawInt (0 + (Builtin.Range.rangeSize 0 j 1 - 1) * 1),rawInt (Builtin.Range.rangeSize 0 j 1),rawInt (-1)] },toks:=s1.toks + 1 + 1 }) hst ?_
  exact ⟨(s1.heap.push ro).objs.size,[(s1.heap.push ro).objs.size],_,Itd 0 j.toNat,H1,rfl,I2.kept (t':=s1.toks + 1 + 1) fun b o e => Heap.get?_push_of_some _ e,turn_down _ 0 j.toNat,hst,fun b hb => by
    have e:b = (s1.heap.push ro).objs.size:=by simpa using hb
    rw [e]
    exact I2.fpOk (Nat.le_refl _) (I2.hok.fresh (Nat.le_refl _)),q⟩
end L2

namespace L2
open PySem PySem.Spec PyProof.Rows
section
variable {prog:Program} {w:World} {A:Around} {E:Value→Shared→Prop} {s:Shared}
theorem draw_list {it t:Addr} {items:Array Value} (hne:t ≠ it):∀ (n i:Nat) (s:Shared) (Q:List Value→Shared→Prop),s.heap.IsListIter it t i→s.heap.IsList t items→i + n ≤ items.size →
    (∀ h',h'.IsListIter it t (i + n)→Heap.SameBut it s.heap h'→Q ((items.toList.drop i).take n) { s with heap:=h' })→wpAny (model prog w) A (draw (.ref it) n) Q E s
  | 0,i,s,Q,hit,_,_,hQ => by
    show wpAny _ _ (pure []) Q E s
    exact wpAny_pure (by simpa using hQ s.heap hit (Heap.SameBut.refl ..))
  | n + 1,i,s,Q,hit,ht,hle,hQ => by
    have hlt:i < items.size:=by omega
    show wpAny _ _ (pyNext (.ref it) >>= _) Q E s
    refine wpAny_bind (wpAny_pyNext_list_item hit ht (x:=items[i]) (by simp [hlt]) fun h₁ hit₁ hs₁ => ?_)
    refine wpAny_bind (wpAny_holding (draw_list hne n (i + 1) _ _ hit₁ (ht.extBut hs₁.extBut hne) (by omega) fun h₂ hit₂ hs₂ => wpAny_pure ?_))
    have hd:items.toList.drop i = items[i] :: items.toList.drop (i + 1):=by simp [List.drop_eq_getElem_cons,hlt]
    have:=hQ h₂ (by rw [show i + (n + 1) = i + 1 + n by omega]; exact hit₂) (hs₁.trans hs₂)
    rw [hd,List.take_succ_cons] at this
    exact this
theorem unpackItems_list {t:Addr} {items:Array Value} {Q:List Value→Shared→Prop} (hh:A.handled = none) (ht:s.heap.IsList t items)
    (hQ:∀ h',Heap.ExtBut s.heap.objs.size s.heap h'→Q items.toList { s with heap:=h' }):wpAny (model prog w) A (unpackItems (.ref t) items.size none) Q E s:=by
  have hlt:t ≠ s.heap.objs.size:=by obtain ⟨o,ho,_⟩:=ht; exact Nat.ne_of_lt (Heap.lt_size ho)
  unfold unpackItems
  refine wpAny_bind ?_
  · unfold notIterableAtAll
    refine wpAny_bind (wpAny_specialOf ht.typeIs F.slot_list_iter.lookup ?_)
    refine wpAny_pure ?_
    simp only [Bool.false_eq_true,if_false]
    refine wpAny_bind (wpAny_holding (wpAny_pyIter_list ht ?_))
    refine wpAny_bind (wpAny_holding (draw_list hlt items.size 0 _ _ ⟨_,Heap.get?_push_size _ rfl,rfl,rfl⟩ (ht.push _) (by omega) fun h₁ hit₁ hs₁ => ?_))
    have hall:List.take items.size (List.drop 0 items.toList) = items.toList:=by
      rw [List.drop_zero]; exact List.take_of_length_le (by simp)
    rw [hall]
    rw [if_neg (by simp)]
    have ht₁:h₁.IsList t items:=(ht.push _).extBut hs₁.extBut hlt
    refine wpAny_bind (wpAny_holding (wpAny_pyNext_list_end hh hit₁ ht₁ (by simp) fun h₂ he₂ => ?_))
    simp only [Option.isSome_none,Bool.false_eq_true,if_false]
    refine wpAny_pure (hQ h₂ fun b o hb e => he₂ b o hb (hs₁.extBut b o hb (Heap.get?_push_of_some _ e)))
theorem assign_Tuple_list {env:Env} {elts:List Expr} {x1:Nat} {pos:Pos} {t:Addr} {items:Array Value} {Q:Unit→Shared→Prop} (hh:A.handled = none) (ht:s.heap.IsList t items)
    (hn:(assignEach elts env).length = items.size) (hstar:(assignEach elts env).findIdx? (·.1) = none)
    (h:∀ h',Heap.ExtBut s.heap.objs.size s.heap h'→wpAny (model prog w) A (assignInOrder ((assignEach elts env).map (·.2)) items.toList) Q E { s with heap:=h' }) :
    wpAny (model prog w) A (assign (.Tuple elts x1 pos) env (.ref t)) Q E s:=by
  rw [assign_Tuple]
  refine wpAny_bind (wpAny_standAt ?_)
  unfold unpack
  rw [hn,hstar]
  exact wpAny_bind (wpAny_holding (unpackItems_list hh ht h))
end
section
variable {X:Cx} {pos:Pos}
noncomputable def gSeqT (K:PySem.W.Frag) (n:Nat) (t:TGs):TG:=fun v σ H Q => ∃ a xs,v = .ref a∧(SqT K H a xs ∨ SqL K H a xs)∧xs.length = n∧t xs σ H Q
theorem pg_seqT {es:List Expr} {k:Nat} {t:TGs} {n:Nat} (hc:X.calm = true) (h:PGs X es t)
    (hn:(assignEach es X.env).length = n:=by rfl) (hst:(assignEach es X.env).findIdx? (·.1) = none:=by rfl):PG X (.Tuple es k pos) (gSeqT X.K n t):=by
  intro pins s σ H v u Q I r hw
  obtain ⟨a,xs,e1,hq,hl,hw⟩:=hw
  rcases hq with hq | hq
  · exact pg_tup hc h hn hst pins s σ H v u Q I r ⟨a,xs,e1,hq,hl,hw⟩
  · subst e1
    cases r
    obtain ⟨its,rv,pl,hz⟩:=I.list hq
    refine assign_Tuple_list (I.ok.hd hc) pl.isList (by simp [hn,← hl,rv.length]) hst fun h' hx => ?_
    have I1:Inv X pins σ H { s with heap:=h' }:=I.kept (t':=s.toks) fun b o e => hx b o (Nat.ne_of_lt (Heap.lt_size e)) e
    exact h pins _ σ H xs _ Q I1 (by simpa using rv) hw
noncomputable def tPar3 (i j k:Nat) (ta:TA):TS:=fun D σ H => ta σ H fun vs H1 => ∃ v w z,vs = [v,w,z]∧D.nx (((σ.set i (some v)).set j (some w)).set k (some z)) H1
theorem ps_par3 {i j k:Nat} {x y z:Str} {a b c:Expr} {ta:TA} {px py pz pt:Pos} {kt k2 pt2} (hc:X.calm = true) (hN:X.N.Nodup) (hi:X.N[i]? = some x) (hj:X.N[j]? = some y) (hk:X.N[k]? = some z) (hij:i ≠ j) (hik:i ≠ k) (hjk:j ≠ k)
    (hx:X.env.scope.names.lookup x = some .local) (hy:X.env.scope.names.lookup y = some .local) (hz:X.env.scope.names.lookup z = some .local) (ha:PA X [a,b,c] ta)
    (hw:swappedStores [.Tuple [.Name x px,.Name y py,.Name z pz] kt pt] (.Tuple [a,b,c] k2 pt2) X.env = pure (some [x,y,z]))
    (hs:swapsWithSole [.Tuple [.Name x px,.Name y py,.Name z pz] kt pt] (.Tuple [a,b,c] k2 pt2) pos.line X.env = pure false:=by rfl) :
    PS X (.Assign [.Tuple [.Name x px,.Name y py,.Name z pz] kt pt] (.Tuple [a,b,c] k2 pt2) pos) (tPar3 i j k ta):=by
  intro pins s σ H D I h
  rw [exec_Assign_arm]
  refine wpAny_bind (wpAny_standAt ?_)
  rw [hs]
  refine wpAny_bind (wpAny_pure ?_)
  rw [if_neg (by decide)]
  refine wpAny_bind (Tuple_ (thn (ha _ pins s σ H _ I h) fun us s1 h1 => ?_))
  obtain ⟨vs,H1,I1,r1,q1⟩:=h1
  obtain ⟨v,w,t,e1,q1⟩:=q1
  subst e1
  obtain ⟨u1,u2,u3,rfl,rv,rw',rt⟩:∃ u1 u2 u3,us = [u1,u2,u3]∧RelV v u1∧RelV w u2∧RelV t u3:=by
    cases r1 with
    | cons p q =>
      cases q with
      | cons p' q' =>
        cases q' with
        | cons p'' q'' =>
          cases q''
          exact ⟨_,_,_,rfl,p,p',p''⟩
  refine wpAny_newObj_type ?_ (by show 3 ≤ sizeLine; decide)
  have I2:Inv X pins σ H1 { s1 with heap:=s1.heap.push { cls:=.type "tuple",data:=.seq [u1,u2,u3].toArray } }:=I1.kept (t':=s1.toks) fun b o e => Heap.get?_push_of_some _ e
  rw [hw]
  refine wpAny_bind (wpAny_pure ?_)
  show wpAny (model X.prog X.w) X.A (do rule "assign.swapped-stores"; let items ← unpackItems (.ref s1.heap.objs.size) 3 none; assignInOrder [fun v => bindName X.env z v,fun v => bindName X.env y v,fun v => bindName X.env x v] items.reverse; pure Flow.next) _ _ _
  refine wpAny_bind (wpAny_rule (wpAny_bind (unpackItems_tuple (items:=#[u1,u2,u3]) (I.ok.hd hc) (IsTup.new s1.heap _) fun h' hx' => ?_)))
  have I3:=I2.kept (h':=h') (t':=s1.toks) fun b o e => hx' b o (Nat.ne_of_lt (Heap.lt_size e)) e
  show wpAny _ _ (assignInOrder [fun v => bindName X.env z v,fun v => bindName X.env y v,fun v => bindName X.env x v] [u3,u2,u1] >>= fun _ => pure Flow.next) _ _ _
  refine wpAny_bind (assignInOrder_cons (wpAny_bindName (store_ok I3 hN hk (.inl hz) rt (fun s2 I4 => ?_) (.inr hz))))
  refine assignInOrder_cons (wpAny_bindName (store_ok I4 hN hj (.inl hy) rw' (fun s2 I5 => ?_) (.inr hy)))
  refine assignInOrder_cons (wpAny_bindName (store_ok I5 hN hi (.inl hx) rv (fun s3 I6 => assignInOrder_nil (wpAny_pure ?_)) (.inr hx)))
  rw [List.set_comm _ _ (Ne.symm hij),List.set_comm _ _ (Ne.symm hik),List.set_comm _ _ (Ne.symm hjk)] at I6
  exact ⟨_,H1,I6,q1⟩
end
end L2

namespace L2
open PySem PySem.Spec PyProof.Rows
noncomputable def revT (t:Addr) (i:Int):Obj:={ cls:=.type "reversed",data:=.fields #[.ref t,rawInt i] }
noncomputable def IsRevT (h:Heap) (it t:Addr) (i:Int):Prop:=h.get? it = some (revT t i)
section
variable {prog:Program} {w:World} {A:Around} {E:Value→Shared→Prop} {s:Shared}
end
noncomputable def RevAt (k:Bool) (h:Heap) (it a:Addr) (i:Int):Prop:=if k = true then h.IsRevIter it a i else IsRevT h it a i
theorem RevAt.at {k:Bool} {h h':Heap} {it a:Addr} {i:Int} (x:RevAt k h it a i) (e:∀ o,h.get? it = some o→h'.get? it = some o):RevAt k h' it a i:=by
  cases k with
  | true => exact Heap.IsRevIter.at (show h.IsRevIter it a i from x) e
  | false => exact e _ (show IsRevT h it a i from x)
theorem RevAt.get {k:Bool} {h:Heap} {it a:Addr} {i:Int} (x:RevAt k h it a i):∃ o n vs,h.get? it = some o∧o.cls = .type n∧o.data = .fields vs∧(["enumerate","zip","dict_itemiterator","dict_reverseitemiterator","odict_iterator","itertools.zip_longest","itertools.pairwise"].contains n = false):=by
  cases k with
  | true => obtain ⟨o,e,c,d⟩:=(show h.IsRevIter it a i from x); exact ⟨o,_,_,e,c,d,by decide⟩
  | false => exact ⟨_,"reversed",_,(show IsRevT h it a i from x),rfl,rfl,by decide⟩
end L2

namespace L2
open PySem PySem.Spec PyProof.Rows
structure ZipRec2 (h:Heap) (k1 k2:Bool) (z TI TO i1 i2 a b:Addr) (n:Nat) (B:Addr):Prop where
  zr:∃ f1:Bool,h.get? z = some { cls:=.type "zip",data:=.fields #[rawInt B,.bool f1,.bool false,.ref TI,.ref TO] }
  pi:IsPair h TI (.ref i1) (.ref i2)
  it1:IterK k1 h i1 a n
  it2:IterK k2 h i2 b n
  bl:∃ o,h.get? B = some o
section
variable {prog:Program} {w:World} {A:Around} {E:Value→Shared→Prop} {s:Shared} {k1 k2:Bool} {z TI TO i1 i2 a b B:Addr} {n:Nat} {xs ys:Array Value}
end
structure ZipAcc (h0 h:Heap) (k1 k2:Bool) (z TI TO i1 i2 a b S N:Addr) (xs ys:Array Value) (i:Nat):Prop where
  sz:h.objs.size = N + i
  zr:(i = 0∧ZipRec h k1 k2 z TI TO i1 i2 a b 0 .none) ∨ (0 < i∧ZipRec2 h k1 k2 z TI TO i1 i2 a b i N)
  ha:HasK k1 h a xs
  hb:HasK k2 h b ys
  ps:∀ j,j < i→∃ x y,xs[j]? = some x∧ys[j]? = some y∧IsPair h (N + j) x y
  ls:∃ c,h.get? S = some { cls:=.type "list",data:=.seq ((List.range i).map fun j => Value.ref (N + j)).toArray c }
  kp:∀ c o,c ≠ z→c ≠ TO→c ≠ i1→c ≠ i2→c ≠ S→h0.get? c = some o→h.get? c = some o
section
variable {prog:Program} {w:World} {A:Around} {R:Result→Shared→Prop} {k1 k2:Bool} {z TI TO i1 i2 a b S N:Addr} {xs ys:Array Value} {h0:Heap}
end
noncomputable def laid (H:Hp) (N:Addr):List (V × V)→Hp
  | [] => H
  | p :: r => laid (upd H N (.tup [p.1,p.2])) (N + 1) r
section
variable {X:Cx} {pins:List (Addr × Obj)} {σ:St} {s:Shared}
theorem Inv.pairs {m:Addr} (hm:X.s₀.heap.objs.size ≤ m):∀ {l:List (V × V)} {H:Hp} {N:Addr},Inv X pins σ H s→LE.le (α:=Nat) m N→(∀ j,j < l.length→FpOk X pins H (N + j))→(∀ j p,l[j]? = some p→∃ u v,RelV p.1 u∧RelV p.2 v∧IsPair s.heap (N + j) u v)→Inv X pins σ (L2.laid H N l) s
  | [],_,_,I,_,_,_ => I
  | p :: r,H,N,I,hN,hf,ho => by
    have f:=hf 0 (by simp)
    obtain ⟨u,v,r1,r2,pr⟩:=ho 0 p rfl
    have I1:Inv X pins σ (upd H N (.tup [p.1,p.2])) s:=I.track (t':=s.toks) f.1 f.2.1 (Nat.le_trans hm hN) f.2.2.2.2.1 f.2.2.2.2.2 ⟨by show 2 ≤ sizeLine; decide,[u,v],.cons r1 (.cons r2 .nil),⟨_,pr,rfl,_,rfl⟩⟩
    rw [L2.laid]
    refine Inv.pairs hm (l:=r) I1 (Nat.le_succ_of_le hN) (fun j hj => ?_) fun j q hq => ?_
    · have g:=hf (j + 1) (by simpa using hj)
      rw [show N + (j + 1) = N + 1 + j from by rw [Nat.add_assoc,Nat.add_comm 1 j]] at g
      refine ⟨?_,g.2⟩
      rw [upd_ne (show N + 1 + j ≠ N from (Nat.ne_of_gt (Nat.lt_of_lt_of_le (Nat.lt_succ_self N) (Nat.le_add_right _ _)):(N + 1 + j:Nat) ≠ N))]
      exact g.1
    · have g:=ho (j + 1) q (by simpa using hq)
      rwa [show N + (j + 1) = N + 1 + j from by rw [Nat.add_assoc,Nat.add_comm 1 j]] at g
end
end L2

namespace L2
open PySem PySem.Spec PyProof.Rows
theorem ObjOk.there {P:Program} {w:World} {H:Hp} {h:Heap} {a:Addr} {o:HO} (x:ObjOk P w H h a o):∃ u,h.get? a = some u:=by
  cases o with
  | lst xs => obtain ⟨_,_,_,_,e⟩:=x; exact ⟨_,e⟩
  | tup xs => obtain ⟨_,_,_,ob,e,_⟩:=x; exact ⟨_,e⟩
  | dK kvs => obtain ⟨_,_,_,_,o,_,_,e,_⟩:=x; exact ⟨_,e⟩
  | dT kvs => obtain ⟨_,_,_,_,o,_,_,e,_⟩:=x; exact ⟨_,e⟩
  | set S n => obtain ⟨o,_,_,_,e,_⟩:=x; exact ⟨_,e⟩
  | ins C dx fs => obtain ⟨_,_,_,e,_⟩:=x; exact ⟨_,e⟩
  | own y => obtain ⟨_,e⟩:=x; exact ⟨_,e⟩
  | xd fs => obtain ⟨_,⟨_,_,_,e,_⟩,_⟩:=x; exact ⟨_,e⟩
  | rng lo hi => obtain ⟨_,_,_,e⟩:=x; exact ⟨_,e⟩
  | frz ob u => obtain ⟨e,_⟩:=x; exact ⟨_,e⟩
  | tbl ps => exact ⟨_,show h.get? a = some _ from x⟩
  | met f y => exact ⟨_,show h.get? a = some _ from x⟩
  | ext φ => obtain ⟨_,⟨_,e⟩,_⟩:=x; exact ⟨_,e⟩
section
variable {M:Model} {A:Around} {E:Value→Shared→Prop} {s:Shared} {base:Heap} {env:Env} {outer:List Env} {L e:Addr} {oe:Obj} {vs:Array Value} {Q:Unit→Shared→Prop}
structure Entry (h h':Heap) (l:List Env) (e T:Addr) (oe:Obj) (fl:Value):Prop where
  keep:∀ b o,b ≠ e→b ∉ frs l→h.get? b = some o→h'.get? b = some o
  slot:∀ b o,b ∈ frs l→h.get? b = some o→∃ sl,h'.get? b = some { o with slots:=sl }
  new:h.get? T = none
  ne:T ≠ e
  exc:h'.get? e = some (Obj.mapFields (·.setIfInBounds 1 (.ref T)) oe)
  tb:∃ oT ts,h'.get? T = some oT∧oT.data = .fields ts∧ts[3]? = some fl
theorem entry_exact {head:Value} {hadNext:Bool} (hfr:A.frames = some (env :: outer)) (hl:s.heap.FunFrames base (env :: outer)) (hf:env.frame = some L) (he:s.heap.get? e = some oe) (hd:oe.data = .fields vs) (hsz:1 < vs.size)
    (h:∀ h' T,Entry s.heap h' (env :: outer) e T oe (rawInt L)→Q () { s with heap:=h' }) :
    wpAny M A (do let a ← frameOf env; let pl ← entryPlaceOf L hadNext; let b ← EntryCells.newEntry head a .none (rawInt L) .none pl; setField (.ref e) 1 b) Q E s:=by
  have hene:e ∉ (env :: outer).filterMap (·.frame):=fun hm => by
    obtain ⟨_,o,ho,hnf⟩:=hl.mem hm
    rw [he] at ho; cases ho; exact hnf vs hd
  refine wpAny_bind (wpAny_frameOf_fun hfr hl hf fun h₁ hs₁ => wpAny_bind (wpAny_entryPlaceOf fun pl hpl => ?_))
  unfold EntryCells.newEntry newFields
  refine wpAny_bind (wpAny_newObj_type ?_ (hpl.sizeOk5 _ _ _ _ _))
  have he₁:h₁.get? e = some oe:=(hs₁.2.1 e hene).trans he
  have he₂:=Heap.get?_push_of_some (h:=h₁) { cls:=.type "traceback",dict:=none,data:=.fields ([head,.ref L,.none,rawInt L,.none] ++ (if pl.isEmpty then List.replicate 6 Value.none else pl)).toArray } he₁
  refine wpAny_setField he₂ hd hsz (h _ h₁.objs.size ?_)
  have hTe:h₁.objs.size ≠ e:=Nat.ne_of_gt (Heap.lt_size he₁)
  have hd₃:=Obj.data_mapFields hd (·.setIfInBounds 1 (Value.ref h₁.objs.size))
  have he₃:=Heap.get?_update_self (Obj.mapFields (·.setIfInBounds 1 (Value.ref h₁.objs.size))) he₂ (Obj.isFreed_of_fields hd₃)
  have hT₃:=(Heap.get?_update_other (h₁.push { cls:=.type "traceback",dict:=none,data:=.fields ([head,.ref L,.none,rawInt L,.none] ++ (if pl.isEmpty then List.replicate 6 Value.none else pl)).toArray })
    (Obj.mapFields (·.setIfInBounds 1 (Value.ref h₁.objs.size))) (Ne.symm hTe)).trans (Heap.get?_push_size h₁ rfl)
  have kp:∀ b o,b ≠ e→h₁.get? b = some o→((h₁.push { cls:=.type "traceback",dict:=none,data:=.fields ([head,.ref L,.none,rawInt L,.none] ++ (if pl.isEmpty then List.replicate 6 Value.none else pl)).toArray }).update e (Obj.mapFields (·.setIfInBounds 1 (Value.ref h₁.objs.size)))).get? b = some o:=fun b o hbe hb => by
    rw [Heap.get?_update_other _ _ (Ne.symm hbe)]
    exact Heap.get?_push_of_some _ hb
  refine ⟨fun b o hbe hbf q => kp b o hbe ((hs₁.2.1 b hbf).trans q),fun b o hbf q => ?_,?_,hTe,he₃,⟨_,_,hT₃,rfl,by simp⟩⟩
  · obtain ⟨sl,q1⟩:=hs₁.2.2 b o q
    exact ⟨sl,kp b _ (fun z => hene (z ▸ hbf)) q1⟩
  · cases q:s.heap.get? h₁.objs.size with
    | none => rfl
    | some o =>
      obtain ⟨sl,q1⟩:=hs₁.2.2 _ o q
      exact absurd (Heap.lt_size q1) (Nat.lt_irrefl _)
theorem note_first (hfr:A.frames = some (env :: outer)) (hl:s.heap.FunFrames base (env :: outer)) (hf:env.frame = some L) (he:s.heap.get? e = some oe) (hd:oe.data = .fields vs) (h1:vs[1]? = some .none)
    (h:∀ h' T,Entry s.heap h' (env :: outer) e T oe (rawInt L)→Q () { s with heap:=h' }):wpAny M A (noteFrame (.ref e) env) Q E s:=by
  unfold noteFrame
  simp only [hf]
  refine wpAny_bind (wpAny_field he hd h1 ?_)
  rw [if_neg (by decide)]
  exact entry_exact hfr hl hf he hd (Array.getElem?_eq_some_iff.mp h1).1 h
end
inductive TrT (h:Heap) (a T:Addr) (cls:Value):Prop
  | mk (oe:Obj) (vs:Array Value) (oT:Obj) (ts:Array Value) (h0:h.get? a = some oe) (h1:oe.cls = cls) (h2:oe.dict = none) (h3:oe.data = .fields vs) (h4:vs[1]? = some (.ref T)) (h5:T ≠ a) (h6:h.get? T = some oT) (h7:oT.data = .fields ts) (h8:ts[3]? = some .none)
theorem map_dict {f:Array Value→Array Value} {o:Obj}:(Obj.mapFields f o).dict = o.dict:=by
  obtain ⟨c,d,da,sl⟩:=o
  cases da <;> rfl
structure Mark (h h':Heap) (l:List Env) (e T0 T:Addr) (cls:Value):Prop where
  keep:∀ b o,b ≠ e→b ≠ T0→b ∉ frs l→h.get? b = some o→h'.get? b = some o
  slot:∀ b o,b ∈ frs l→h.get? b = some o→∃ sl,h'.get? b = some { o with slots:=sl }
  new:h.get? T = none
  tr:TrT h' e T cls
section
variable {M:Model} {A:Around} {E:Value→Shared→Prop} {s:Shared} {base:Heap} {env:Env} {outer:List Env} {L e T0:Addr} {oe:Obj} {vs:Array Value} {cls:Value} {Q:Unit→Shared→Prop}
theorem entry_lands {h2:Heap} {T:Addr} {g:Heap} (hen:e ∉ frs (env :: outer)) (en:Entry g h2 (env :: outer) e T oe (rawInt L)) (hT0:∀ b o,b ≠ T0→s.heap.get? b = some o→g.get? b = some o) (hfT:T0 ∉ frs (env :: outer)) (hnT:s.heap.get? T = none) (hc:oe.cls = cls) (hdi:oe.dict = none) (hd:oe.data = .fields vs) (hsz:1 < vs.size)
    (h:∀ h3,Mark s.heap h3 (env :: outer) e T0 T cls→Q () { s with heap:=h3 }):wpAny M A (setFlight (.ref e) none) Q E { s with heap:=h2 }:=by
  obtain ⟨oT,ts,q1,q2,q3⟩:=en.tb
  have hd3:=Obj.data_mapFields hd (·.setIfInBounds 1 (Value.ref T))
  have h1':(vs.setIfInBounds 1 (Value.ref T))[1]? = some (Value.ref T):=by simp [hsz]
  have sz:3 < ts.size:=(Array.getElem?_eq_some_iff.mp q3).1
  refine wpAny_setFlight_none en.exc hd3 h1' q1 q2 sz (h _ ⟨fun b o n1 n2 n3 q => ?_,fun b o n1 q => ?_,hnT,?_⟩)
  · have q':=en.keep b o n1 n3 (hT0 b o n2 q)
    exact (Heap.get?_update_other _ _ fun z => by rw [z,q] at hnT; cases hnT).trans q'
  · obtain ⟨sl,q'⟩:=en.slot b o n1 (hT0 b o (fun z => hfT (z ▸ n1)) q)
    exact ⟨sl,(Heap.get?_update_other _ _ fun z => by rw [z,q] at hnT; cases hnT).trans q'⟩
  · refine ⟨_,_,_,_,(Heap.get?_update_other _ _ en.ne).trans en.exc,(Obj.cls_mapFields _ _).trans hc,map_dict.trans hdi,hd3,h1',en.ne,Heap.get?_update_self _ q1 (Obj.isFreed_of_fields (Obj.data_mapFields q2 _)),Obj.data_mapFields q2 _,by simp [sz]⟩
theorem leave_exact {h':Heap} {args:List Value} (hfr:A.frames = some (env :: outer)) (hl:s.heap.FunFrames base (env :: outer)) (hf:env.frame = some L) (hx:Heap.MadeExcOf s.heap h' e cls args)
    (h:∀ h3 T,Mark s.heap h3 (env :: outer) e e T cls→Q () { s with heap:=h3 }):wpAny M A (leaving env (.ref e)) Q E { s with heap:=h' }:=by
  obtain ⟨t,he,_,_⟩:=hx.there
  have hl':h'.FunFrames base (env :: outer):=hl.of_keeps fun b o q _ => ⟨o,hx.keeps b o q,rfl⟩
  have hen:e ∉ frs (env :: outer):=fun z => by
    obtain ⟨_,o,q,_⟩:=hl.mem z
    rw [hx.new] at q; cases q
  unfold leaving
  refine wpAny_bind (note_first (s:={ s with heap:=h' }) hfr hl' hf he rfl rfl fun h2 T en => ?_)
  refine entry_lands (s:=s) (T0:=e) (vs:=#[.ref t,.none,.none,.none,.bool false,.none]) hen en (fun b o _ q => hx.keeps b o q) hen ?_ rfl rfl rfl (show 1 < 6 by decide) fun h3 m => h h3 T m
  cases q:s.heap.get? T with
  | none => rfl
  | some o => have:=hx.keeps T o q; rw [en.new] at this; cases this
theorem look_exact (hfr:A.frames = some (env :: outer)) (hl:s.heap.FunFrames base (env :: outer)) (hf:env.frame = some L) (tr:TrT s.heap e T0 cls)
    (h:∀ h3 T,Mark s.heap h3 (env :: outer) e T0 T cls→Q () { s with heap:=h3 }):wpAny M A (noteFrame (.ref e) env) (fun _ s2 => wpAny M A (setFlight (.ref e) none) Q E s2) E s:=by
  obtain ⟨oe,vs,oT,ts,h0,h1,h2,h3,h4,h5,h6,h7,h8⟩:=tr
  have hen:e ∉ frs (env :: outer):=fun z => by
    obtain ⟨_,o,q,nf⟩:=hl.mem z
    rw [h0] at q; cases q; exact nf vs h3
  have hfT:T0 ∉ frs (env :: outer):=fun z => by
    obtain ⟨_,o,q,nf⟩:=hl.mem z
    rw [h6] at q; cases q; exact nf ts h7
  unfold noteFrame
  simp only [hf]
  refine wpAny_bind (wpAny_field h0 h3 h4 ?_)
  rw [if_pos (show (Value.ref T0 != Value.none) = true from by simp)]
  refine wpAny_bind (wpAny_field h6 h7 h8 ?_)
  rw [if_neg (show ¬ ((Value.none == rawInt L) = true) from by simp [rawInt])]
  refine wpAny_bind (wpAny_setField h6 h7 (Array.getElem?_eq_some_iff.mp h8).1 ?_)
  have oth:∀ b o,b ≠ T0→s.heap.get? b = some o→(s.heap.update T0 (Obj.mapFields (·.setIfInBounds 3 Value.none))).get? b = some o:=fun b o n q => (Heap.get?_update_other _ _ (Ne.symm n)).trans q
  have hl':(s.heap.update T0 (Obj.mapFields (·.setIfInBounds 3 Value.none))).FunFrames base (env :: outer):=hl.of_keeps fun b o q nf => ⟨o,oth b o (fun z => by rw [z,h6] at q; cases q; exact nf ts h7) q,rfl⟩
  refine entry_exact (s:={ s with heap:=s.heap.update T0 (Obj.mapFields (·.setIfInBounds 3 Value.none)) }) hfr hl' hf (oth e oe (Ne.symm h5) h0) h3 (Array.getElem?_eq_some_iff.mp h4).1 fun hh T en => ?_
  refine entry_lands (s:=s) (T0:=T0) hen en oth hfT ?_ h1 h2 h3 (Array.getElem?_eq_some_iff.mp h4).1 fun h3 m => h h3 T m
  cases q:s.heap.get? T with
  | none => rfl
  | some o =>
    by_cases z:T = T0
    · have:=Heap.get?_update_self (Obj.mapFields (·.setIfInBounds 3 Value.none)) h6 (Obj.isFreed_of_fields (Obj.data_mapFields h7 _))
      have nw:(s.heap.update T0 (Obj.mapFields (·.setIfInBounds 3 Value.none))).get? T = none:=en.new
      rw [z] at nw
      rw [nw] at this; cases this
    · have:=oth T o z q
      have nw:(s.heap.update T0 (Obj.mapFields (·.setIfInBounds 3 Value.none))).get? T = none:=en.new
      rw [nw] at this; cases this
end
inductive Flew (P:Program) (w:World) (base:Heap) (outer:List Env) (H0:Hp) (s0:Shared) (E:XK) (e:Value) (s':Shared):Prop
  | mk (a:Addr) (cls:Value) (H':Hp) (h0:e = .ref a) (h1:E cls none H') (h2:s'.os = s0.os) (h3:AllBare s'.gens) (h4:Un (frs outer) [] H0 H' s0.heap s'.heap) (h5:HOk P w H' s'.heap)
    (T:Addr) (h6:TrT s'.heap a T cls) (h7:H' a = none) (h8:s0.heap.get? a = none) (h9:s0.heap.get? T = none) (h10:s'.heap.FunFrames base outer) (h11:H' T = none)
noncomputable abbrev CX1 (P:Program) (w:World) (base:Heap):CXT:=fun outer H0 s0 E e s' => Flew P w base outer H0 s0 E e s'
section
variable {X:Cx} {pins:List (Addr × Obj)} {σ:St} {H:Hp} {s:Shared} {h':Heap} {e:Addr} {cls:Value} {args:List Value} {E:XK} {E':Value→Shared→Prop}
theorem Inv.flies (I:Inv X pins σ H s) (hst:X.stack = X.env :: X.outer) (hex:X.ex = []) (hL:∀ b o,X.s₀.heap.get? b = some o→X.env.frame ≠ some b) (hx:Heap.MadeExcOf s.heap h' e cls args) (hE:E cls none H) :
    wpAny (model X.prog X.w) X.A (leaving X.env (.ref e)) (fun _ s'' => Flew X.prog X.w X.base X.outer X.H₀ X.s₀ E (.ref e) s'') E' { s with heap:=h' }:=by
  have hfr:=I.ok.frames
  have hfs:=I.stack
  rw [hst] at hfr hfs
  obtain ⟨_,⟨L,_,hf,_,_,_⟩,_⟩:=id hfs
  refine leave_exact (s:=s) hfr hfs hf hx fun h2 T m => ?_
  have keep:∀ b o,s.heap.get? b = some o→b ∉ frs (X.env :: X.outer)→h2.get? b = some o:=fun b o q n => by
    have ne:b ≠ e:=fun z => by rw [z,hx.new] at q; cases q
    exact m.keep b o ne ne n q
  have slot:∀ b o,s.heap.get? b = some o→b ∈ frs (X.env :: X.outer)→∃ sl,h2.get? b = some { o with slots:=sl }:=fun b o q n => m.slot b o n q
  have fr0:∀ b o,X.s₀.heap.get? b = some o→b ∉ frs X.outer→b ∉ frs (X.env :: X.outer):=fun b o q n z => by
    obtain ⟨env,he,ea⟩:=List.mem_filterMap.mp z
    rcases List.mem_cons.mp he with rfl | he
    · exact hL b o q ea
    · exact n (List.mem_filterMap.mpr ⟨env,he,ea⟩)
  have frO:∀ b,b ∈ frs X.outer→b ∈ frs (X.env :: X.outer):=fun b z => by
    obtain ⟨env,he,ea⟩:=List.mem_filterMap.mp z
    exact List.mem_filterMap.mpr ⟨env,List.mem_cons_of_mem _ he,ea⟩
  have free:∀ b ∈ frs (X.env :: X.outer),H b = none:=fun b hb => I.stkFree b (by rw [hst]; exact hb)
  have J:=I.base
  rw [hex] at J
  have hHe:H e = none:=by
    cases q:H e with
    | none => rfl
    | some u =>
      obtain ⟨o,eo⟩:=(I.hok e u q).there
      rw [hx.new] at eo; cases eo
  refine ⟨e,cls,H,rfl,hE,I.os,I.bare,⟨fun b o q n hb _ => keep b o (J.keep b o q n hb (fun z => nomatch z)) (fr0 b o q hb),fun b o q n hb _ => ?_,fun b o q n hb => J.free b o q n hb,fun b o q hb => ?_,J.tups,J.frzs,J.tbls⟩,fun a o q => ?_,T,m.tr,hHe,?_,?_,hfs.2.2.of_keeps fun b o q nf => ?_,?_⟩
  · obtain ⟨sl,q1⟩:=J.slot b o q n hb (fun z => nomatch z)
    obtain ⟨sl2,q2⟩:=slot b _ q1 (frO b hb)
    exact ⟨sl2,q2⟩
  · obtain ⟨o',q1⟩:=J.there b o q hb
    by_cases hm:b ∈ frs (X.env :: X.outer)
    · obtain ⟨sl,q2⟩:=slot b o' q1 hm; exact ⟨_,q2⟩
    · exact ⟨_,keep b o' q1 hm⟩
  · refine (I.hok a o q).stay (fun b u hb qb => keep b u qb fun z => ?_) (fun _ q => q) fun _ _ q => q
    have:=free b z
    rcases hb with rfl | hb
    · rw [q] at this; cases this
    · rw [hb] at this; cases this
  · cases q:X.s₀.heap.get? e with
    | none => rfl
    | some o =>
      obtain ⟨o',q1⟩:=J.there e o q (fun z => nomatch z)
      rw [hx.new] at q1; cases q1
  · cases q:X.s₀.heap.get? T with
    | none => rfl
    | some o =>
      obtain ⟨o',q1⟩:=J.there T o q (fun z => nomatch z)
      rw [m.new] at q1; cases q1
  · by_cases hm:b ∈ frs (X.env :: X.outer)
    · obtain ⟨sl,q2⟩:=slot b o q hm
      exact ⟨_,q2,rfl⟩
    · exact ⟨_,keep b o q hm,rfl⟩
  · cases q:H T with
    | none => rfl
    | some u =>
      obtain ⟨o',q1⟩:=(I.hok T u q).there
      rw [m.new] at q1; cases q1
theorem Inv.lands {s':Shared} {v:Value} {Q:Unit→Shared→Prop} (I:Inv X pins σ H s) (hst:X.stack = X.env :: X.outer) (F:Flew X.prog X.w X.base X.stack H s E v s')
    (k:∀ a cls H' h3 T,v = .ref a→E cls none H'→(∀ h4 tk,(∀ b o,b ≠ T→h3.get? b = some o→h4.get? b = some o)→Inv X pins σ H' { s' with heap:=h4,toks:=tk })→TrT h3 a T cls→H' a = none→H' T = none→s.heap.get? a = none→s.heap.get? T = none→Q () { s' with heap:=h3 }) :
    wpAny (model X.prog X.w) X.A (noteFrame v X.env) (fun _ s2 => wpAny (model X.prog X.w) X.A (setFlight v none) Q E' s2) E' s':=by
  obtain ⟨a,cls,H',rfl,hE,os,bare,un,hok,T,tr,hHa,ha0,hT0,ff,hHT⟩:=F
  have hfr:=I.ok.frames
  rw [hst] at hfr ff un
  obtain ⟨_,⟨L,_,hf,_,_,_⟩,_⟩:=id ff
  refine look_exact (s:=s') hfr ff hf tr fun h3 T3 m => ?_
  have keep:∀ b o,s'.heap.get? b = some o→b ∉ frs (X.env :: X.outer)→b ≠ a→b ≠ T→h3.get? b = some o:=fun b o q n1 n2 n3 => m.keep b o n2 n3 n1 q
  have slot:∀ b o,s'.heap.get? b = some o→b ∈ frs (X.env :: X.outer)→∃ sl,h3.get? b = some { o with slots:=sl }:=fun b o q n => m.slot b o n q
  have nA:∀ b o,s.heap.get? b = some o→b ≠ a:=fun b o q z => by rw [z,ha0] at q; cases q
  have nT:∀ b o,s.heap.get? b = some o→b ≠ T:=fun b o q z => by rw [z,hT0] at q; cases q
  have frH:∀ b ∈ frs (X.env :: X.outer),H' b = none:=fun b hb => by
    obtain ⟨_,o,q,_⟩:=(show s.heap.FunFrames X.base (X.env :: X.outer) from hst ▸ I.stack).mem hb
    exact un.free b o q (I.stkFree b (by rw [hst]; exact hb)) (fun z => nomatch z)
  have bn:∀ o,s'.heap.get? T3 = some o→False:=fun o q => by rw [m.new] at q; cases q
  have hT3:H' T3 = none:=by
    cases q:H' T3 with
    | none => rfl
    | some u =>
      obtain ⟨o,q1⟩:=(hok T3 u q).there
      exact (bn o q1).elim
  have hs3:s.heap.get? T3 = none:=by
    cases q:s.heap.get? T3 with
    | none => rfl
    | some o =>
      obtain ⟨o',q1⟩:=un.there T3 o q (fun z => nomatch z)
      exact (bn o' q1).elim
  have nf3:T3 ∉ frs (X.env :: X.outer):=fun z => by
    obtain ⟨_,o2,q3,_⟩:=ff.mem z
    exact bn o2 q3
  obtain ⟨hp,g,d,tk0,os'⟩:=s'
  obtain rfl:os' = s.os:=os
  refine k a cls H' h3 T3 rfl hE (fun h4 tk up => ?_) m.tr hHa hT3 ha0 hs3
  have keep4:∀ b o,hp.get? b = some o→b ∉ frs (X.env :: X.outer)→b ≠ a→b ≠ T→h4.get? b = some o:=fun b o q n1 n2 n3 => up b o (fun z => by
    subst z
    exact bn o q) (keep b o q n1 n2 n3)
  have slot4:∀ b o,hp.get? b = some o→b ∈ frs (X.env :: X.outer)→∃ sl,h4.get? b = some { o with slots:=sl }:=fun b o q n => by
    obtain ⟨sl,q2⟩:=slot b o q n
    exact ⟨sl,up b _ (fun z => nf3 (z ▸ n)) q2⟩
  have un4:Un (frs X.stack) [] H H' s.heap h4:=by
    rw [hst]
    refine ⟨fun b o q n hb hx => keep4 b o (un.keep b o q n hb hx) hb (nA b o q) (nT b o q),fun b o q n hb hx => ?_,un.free,fun b o q hx => ?_,un.tups,un.frzs,un.tbls⟩
    · obtain ⟨sl,q1⟩:=un.slot b o q n hb hx
      obtain ⟨sl2,q2⟩:=slot4 b _ q1 hb
      exact ⟨sl2,q2⟩
    · obtain ⟨o',q1⟩:=un.there b o q hx
      by_cases hm:b ∈ frs (X.env :: X.outer)
      · obtain ⟨sl,q2⟩:=slot4 b o' q1 hm; exact ⟨_,q2⟩
      · exact ⟨_,keep4 b o' q1 hm (nA b o q) (nT b o q)⟩
  have hok4:HOk X.prog X.w H' h4:=fun b o q => (hok b o q).stay (fun c u hc qc => by
    have hn:H' c ≠ none:=by
      rcases hc with rfl | hc
      · rw [q]; exact fun z => nomatch z
      · rw [hc]; exact fun z => nomatch z
    exact keep4 c u qc (fun z => hn (frH c z)) (fun z => hn (by rw [z]; exact hHa)) (fun z => hn (by rw [z]; exact hHT))) (fun _ q => q) fun _ _ q => q
  have J:Inv X pins σ H' { s with heap:=h4,gens:=g,drawn:=d,toks:=tk }:=I.call (h':=h4) (g':=g) (d':=d) (t':=tk) (ch:=[]) un4 hok4 bare (fun b z => absurd z (by simp))
  exact J
end
noncomputable def Cx.marked (X:Cx) (v:Value):Cx:={ X with A:=X.A.mark (some v),calm:=false }
theorem Inv.marked {X:Cx} {pins:List (Addr × Obj)} {σ:St} {H:Hp} {s:Shared} (I:Inv X pins σ H s) (v:Value):Inv (X.marked v) pins σ H s :=
  ⟨⟨I.ok.mod,I.ok.kind,I.ok.glob,I.ok.blt,I.ok.above,I.ok.inj,I.ok.has,I.ok.cab,(fun z => nomatch z),I.ok.frames,I.ok.stk,I.ok.exf,I.ok.bs,I.ok.bsz,I.ok.noex,I.ok.exfs,I.ok.funs,I.ok.frf⟩,I.os,I.bare,I.base,I.loc,I.cell,I.free,I.freeC,I.pin,I.hok,I.len⟩
theorem Inv.unmarked {X:Cx} {pins:List (Addr × Obj)} {σ:St} {H:Hp} {s:Shared} {v:Value} (o:X.Ok) (I:Inv (X.marked v) pins σ H s):Inv X pins σ H s :=
  ⟨o,I.os,I.bare,I.base,I.loc,I.cell,I.free,I.freeC,I.pin,I.hok,I.len⟩
theorem own_obj {K:PySem.W.Frag} {h:Heap} {C:Addr} {bmB:List Value} {newId:String} (X:K.In h) (q:PySem.W.excIn K C bmB newId = true) :
    ∃ bm N nm qn bs hdct sn sub ab col dd k0 k1 k2 k3 k5 mN,h.get? C = some (excClassObj nm qn C N bs bm hdct sn sub ab col dd k0 k1 k2 k3 k5 newId)∧h.Ns N mN∧mN "__init__" = none∧OwnTail h bmB bm:=by
  unfold PySem.W.excIn at q
  split at q
  · rename_i dd cd sl ho
    split at q
    · rename_i C' bm k0 k1 k2 k3 n k5 hm hs
      simp only [Bool.and_eq_true,beq_iff_eq,Bool.not_eq_true'] at q
      obtain ⟨⟨⟨⟨⟨e1,e2⟩,hdel⟩,ht⟩,hok⟩,hni⟩:=q
      subst e1 e2
      obtain ⟨nm,bs,mro,ns,qn,hd,sn,sub,ab,col,del⟩:=cd
      dsimp only at hm hdel hok hni
      subst hm hdel
      have hsl:sl = #[k0,k1,k2,k3,some (.builtin n),k5]:=by
        obtain ⟨l⟩:=sl
        simp only at hs
        rw [hs]
      subst hsl
      exact ⟨bm,ns,nm,qn,bs,hd,sn,sub,ab,col,dd,k0,k1,k2,k3,k5,_,X _ _ ho,.of_isNs (PySem.W.isNs_of_in X hok),PySem.W.nsMap_none_of_in X hok hni,PySem.W.tail_of_in X ht⟩
    · cases q
  · cases q
section
variable {X:Cx} {x z:Str} {C:Addr} {B newId initId:String} {bmB:List Value} {np cpos pos p2:Pos} {j:Nat}
noncomputable def tRaise (X:Cx) (C:Addr):TS:=fun _ σ H => ∀ pins s h' e args,Inv X pins σ H s→Heap.MadeExcOf s.heap h' e (.ref C) args→X.xe (.ref e) { s with heap:=h' }
theorem ps_raise (hc:X.calm = true) (FB:ExcBaseFacts B newId initId bmB) (q:PySem.W.excIn X.K C bmB newId = true) (hg:Gl X x) (hm:X.mg x = some (.ref C)) (hdb:(x == ("__debug__":Str)) = false:=by decide) :
    PS X (.Raise (some (.Call (.Name x np) [.Constant (.str z) j p2] [] cpos)) none pos) (tRaise X C):=by
  intro pins s σ H D I h
  obtain ⟨bm,N,nm,qn,bs,hdct,sn,sub,ab,col,dd,k0,k1,k2,k3,k5,mN,hC,hN,hni,T⟩:=own_obj (h:=X.base) I.ok.mod.kin q
  refine wpAny_Raise_call_subT (C:=C) (nm:=nm) (q:=qn) (N:=N) (bs:=bs) (bm:=bm) (hdct:=hdct) (sn:=sn) (sub:=sub) (ab:=ab) (col:=col) (dd:=dd) (k0:=k0) (k1:=k1) (k2:=k2) (k3:=k3) (k5:=k5) FB (mN:=mN) (T.hasType FB.hasBase) (I.ok.hd hc) rfl hni (ld_glob I hg hm ⟨rfl,?_⟩ hdb)
  refine Calls.evalArgs_plain (thn ((pa_cons pe_str pa_nil:PA X [.Constant (.str z) j p2] _) cpos pins s σ H (fun vs H1 => H1 = H∧vs = [.str z]) I ⟨rfl,rfl⟩) fun us s1 x__79 => ?_)
  obtain ⟨vs,H1,I1,r,e1,e2⟩:=x__79
  subst e1 e2
  refine ⟨rfl,?_,I1.bk _ _ hC,hN.keeps I1.bk,T.keeps I1.bk,fun h' e hx => h pins s1 h' e us I1 hx⟩
  show us.length ≤ sizeLine
  rw [← r.length]
  show 1 ≤ sizeLine
  decide
end
theorem raise_reads {P:Program} {w:World} {K:PySem.W.Frag} {mg:Str→Option Value} {base:Heap} {N:List Str} {qual:Str} {scope:Scope} {f:Addr} {cd:Value} {A:Around} {outer:List Env} {s:Shared} {H0 H:Hp} {E:XK} {C:Addr} {D:Ends} {σ:St}
    (hE:E (.ref C) none H):tRaise (cxOf (CX1 P w base) P w K mg base N qual scope f cd A outer s H0 E) C D σ H:=fun pins s1 h' e args I hx =>
  I.flies (X:=cxOf (CX1 P w base) P w K mg base N qual scope f cd A outer s H0 E) rfl rfl (fun b o q z => by
    have hb:s.heap.objs.size = b:=Option.some.inj z
    have:=Heap.lt_size (show s.heap.get? b = some o from q)
    rw [hb] at this
    exact Nat.lt_irrefl _ this) hx hE
section
variable {X:Cx} {pins:List (Addr × Obj)} {σ:St} {H:Hp} {h3:Heap} {s':Shared} {a T C':Addr} {cls:Value} {c n y:Str} {ie iy:Nat} {np p1 p2 p3 pos:Pos} {Q:Flow→Shared→Prop} {E':Value→Shared→Prop}
theorem caught_as (up:∀ h4 tk,(∀ b o,b ≠ T→h3.get? b = some o→h4.get? b = some o)→Inv X pins σ H { s' with heap:=h4,toks:=tk }) (tr:TrT h3 a T cls) (hHa:H a = none)
    (exm:PySem.W.exmOne X.K cls (.ref C') = some true) (hg:Gl X c) (hm:X.mg c = some (.ref C')) (hdb:(c == ("__debug__":Str)) = false)
    (hN:X.N.Nodup) (hie:X.N[ie]? = some n) (hln:Loc X.env.scope n) (hfn:X.fn n = true ∨ X.env.scope.names.lookup n = some .local) (hs:PS (X.marked (.ref a)).nox (.Assign [.Name y p1] (.Name n p2) p3) (tAsg (tVar ie) (gName iy)))
    (hl:ie < σ.length)
    (k:∀ s5 oe,oe.cls = cls→oe.dict = none→PySem.W.notCls oe = true→Inv X ((a,oe) :: pins) ((σ.set ie (some (.ref a))).set iy (some (.ref a))) H s5→wpAny (model X.prog X.w) X.A (do bindName X.env n .none; unbindBehindTheSuite X.env n pos) (fun _ s6 => Q .next s6) E' s5) :
    wpAny (model X.prog X.w) X.A (handleBy (.ref a) X.env [.ExceptHandler (some (.Name c np)) (some n) [.Assign [.Name y p1] (.Name n p2) p3] pos]) Q E' { s' with heap:=h3 }:=by
  obtain ⟨oe,vs,oT,ts,h0,h1,h2,h3',h4,h5,h6,h7,h8⟩:=tr
  have I3:Inv X pins σ H { s' with heap:=h3 }:=up h3 s'.toks fun b o _ q => q
  have lt:PySem.W.Looks (model X.prog X.w) h3 (typeOf (.ref a)) cls:=by
    have:PySem.W.Looks (model X.prog X.w) h3 (typeOf (.ref a)) oe.cls:=(PySem.W.Looks.ld h0).andThen .now
    rw [h1] at this
    exact this
  refine wpAny_handleBy_cons (codeAny_handlers_test (Calls.Name_function_global I3.ok.kind hg (Calls.loadGlobal_global (by rw [I3.ok.glob]; exact I3.mod.glob.keeps I3.bk) hm (PySem.W.exm_one I3.kIn lt exm _ _ _ _ (fun b o q => q) ?_)) hdb)) (by intro q; cases q)
  show codeAny _ _ _ _ _
  refine codeAny_handlers_suite_as (wpAny_setFlight_none h0 h3' h4 h6 h7 (Array.getElem?_eq_some_iff.mp h8).1 ?_)
  have I4:Inv X pins σ H { s' with heap:=h3.update T (Obj.mapFields (·.setIfInBounds 3 .none)) }:=up _ s'.toks fun b o nb q => (Heap.get?_update_other _ _ (Ne.symm nb)).trans q
  have g4:(h3.update T (Obj.mapFields (·.setIfInBounds 3 .none))).get? a = some oe:=(Heap.get?_update_other _ _ h5).trans h0
  have nL:a ≠ X.env.locals:=fun z => by
    obtain ⟨m,⟨o,es,ep,ho,hd,_⟩,_⟩:=I4.loc
    rw [← z] at ho
    rw [show (h3.update T (Obj.mapFields (·.setIfInBounds 3 .none))).get? a = some o from ho] at g4
    cases g4
    rw [hd] at h3'; cases h3'
  have nF:a ∉ X.fs:=fun z => by
    obtain ⟨_,o,ho,nf⟩:=I4.funs.mem z
    rw [show (h3.update T (Obj.mapFields (·.setIfInBounds 3 .none))).get? a = some o from ho] at g4
    cases g4
    exact nf vs h3'
  have I5:Inv X ((a,oe) :: pins) σ H { s' with heap:=h3.update T (Obj.mapFields (·.setIfInBounds 3 .none)) }:=I4.pins_of fun p hp => by
    rcases List.mem_cons.mp hp with rfl | hp
    · exact ⟨g4,hHa,nL,nF,fun v z => by rw [h3'] at z; cases z⟩
    · exact I4.pin p (List.mem_append_right _ hp)
  refine store_ok (v:=.ref a) I5 hN hie hln rfl (fun s2 I6 => ?_) hfn
  refine wpAny_mono ((pss_one hs:PSs (X.marked (.ref a)).nox _ _) ((a,oe) :: pins) s2 (σ.set ie (some (.ref a))) H { nx:=fun σ' H' => σ' = (σ.set ie (some (.ref a))).set iy (some (.ref a))∧H' = H,rt:=fun _ _ => False } ((I6.marked (.ref a)).wish _) ⟨.ref a,List.getElem?_set_self hl,rfl,rfl⟩) (fun f s3 sp => ?_) fun _ _ z => z.elim
  cases f with
  | next =>
    obtain ⟨σ7,H7,I7,e1,e2⟩:=sp
    subst e1 e2
    have I8:=(I7.unwish).unmarked I6.ok
    exact k s3 oe h1 h2 (by unfold PySem.W.notCls; rw [h3']) I8
  | brk => obtain ⟨_,_,_,z⟩:=sp; exact z.elim
  | cont => obtain ⟨_,_,_,z⟩:=sp; exact z.elim
  | ret u => obtain ⟨_,_,_,_,_,z⟩:=sp; exact z.elim
end
theorem name_gone {X:Cx} {pins:List (Addr × Obj)} {σ:St} {H:Hp} {s:Shared} {M:Model} {A:Around} {E:Value→Shared→Prop} {Q:Unit→Shared→Prop} {n:Str} {i:Nat} {pos:Pos} (I:Inv X pins σ H s) (hN:X.N.Nodup) (hi:X.N[i]? = some n) (hk:X.env.kindOf n = some .local)
    (k:∀ s6,Inv X pins (σ.set i none) H s6→Q () s6):wpAny M A (do bindName X.env n .none; unbindBehindTheSuite X.env n pos) Q E s:=by
  have hcls:(X.env.scope.kind == .class || (X.env.scope.kind == .module && X.env.locals != X.env.globals)) = false:=by rw [I.ok.kind]; rfl
  have hiσ:i < σ.length:=by rw [I.len]; exact (List.getElem?_eq_some_iff.mp hi).1
  obtain ⟨m,hn,hl⟩:=id I.loc
  refine wpAny_bind (wpAny_bindName (wpAny_storeName_local hk hn (fun h1 hn1 hs1 => ?_) hcls))
  unfold unbindBehindTheSuite
  refine wpAny_onRaise ?_
  unfold unbindName
  refine wpAny_bind (wpAny_point (wpAny_bind ?_))
  unfold deleteName
  simp only [hk,hcls]
  rw [if_neg (by decide)]
  refine wpAny_bind (wpAny_nsDel_keeps hn1 fun h2 w hn2 hs2 => ?_)
  simp only [if_true,Option.isSome_some,Bool.not_true,Bool.false_eq_true,if_false]
  refine wpAny_pure (wpAny_point (k _ ?_))
  have hs:Heap.SameBut X.env.locals s.heap h2:=hs1.trans hs2
  have cne:=I.cne
  refine ⟨I.ok,I.os,I.bare,⟨fun b o e n hb hx => ?_,fun b o e n hb hx => ?_,I.base.free,fun b o e hx => ?_,I.base.tups,I.base.frzs,I.base.tbls⟩,⟨_,hn2,fun j y v' e1 e2 e3 => ?_⟩,fun y c e => ?_,I.free,I.freeC,fun p hp => ?_,fun b ob e => ?_,by rw [List.length_set]; exact I.len⟩
  · exact (hs.2 b (Nat.ne_of_lt (Nat.lt_of_lt_of_le (Heap.lt_size e) I.ok.above))).trans (I.base.keep b o e n hb hx)
  · obtain ⟨sl,e1⟩:=I.base.slot b o e n hb hx
    exact ⟨sl,(hs.2 b (Nat.ne_of_lt (Nat.lt_of_lt_of_le (Heap.lt_size e) I.ok.above))).trans e1⟩
  · obtain ⟨o',e1⟩:=I.base.there b o e hx
    exact ⟨o',(hs.2 b (Nat.ne_of_lt (Nat.lt_of_lt_of_le (Heap.lt_size e) I.ok.above))).trans e1⟩
  · by_cases hj:j = i
    · subst hj
      rw [List.getElem?_set_self hiσ] at e2
      cases e2
    · rw [List.getElem?_set_ne (Ne.symm hj)] at e2
      obtain ⟨u',r',q⟩:=hl j y v' e1 e2 e3
      refine ⟨u',r',?_⟩
      rcases q with ⟨k,e⟩ | ⟨k,c,e,z⟩
      · refine .inl ⟨k,?_⟩
        have:y ≠ n:=fun e => hj (nodup_ix hN e1 (e ▸ hi))
        simp [this,e]
      · exact .inr ⟨k,c,e,z.sameBut hs (cne y c e)⟩
  · obtain ⟨w',z⟩:=I.cell y c e
    exact ⟨w',z.sameBut hs (cne y c e)⟩
  · obtain ⟨e,n,ne,nf,d⟩:=I.pin p hp
    exact ⟨(hs.2 p.1 ne).trans e,n,ne,nf,d⟩
  · refine (I.hok b ob e).stay (fun c w' hc q => (hs.2 c ?_).trans q) (fun _ q => q) fun _ _ q => q
    rintro rfl
    rcases hc with rfl | hc
    · rw [I.free] at e; cases e
    · rw [I.free] at hc; cases hc
theorem Inv.trackN {X:Cx} {pins:List (Addr × Obj)} {σ:St} {H:Hp} {s:Shared} {D:Addr} {o:HO} (I:Inv X pins σ H s) (hn:H D = none) (hL:D ≠ X.env.locals) (h1:X.s₀.heap.get? D = none) (h2:∀ x c,X.env.cells.lookup x = some c→c ≠ D) (h3:∀ p ∈ X.pn ++ pins,p.1 ≠ D)
    (new:ObjOk X.prog X.w (upd H D o) s.heap D o):Inv X pins σ (upd H D o) s:=by
  have ne:∀ b u,H b = some u→b ≠ D:=fun b u e => ne_of_none e hn
  have n0:∀ b u,X.s₀.heap.get? b = some u→b ≠ D:=fun b u e z => by rw [z,h1] at e; cases e
  refine ⟨I.ok,I.os,I.bare,⟨I.base.keep,I.base.slot,fun b ob e n hx => ?_,I.base.there,fun b xs e => ?_,fun b ob u e => ?_,fun b ps e => ?_⟩,I.loc,I.cell,?_,fun x c e => ?_,fun p hp => ?_,fun b u e => ?_,I.len⟩
  · rw [upd_ne (n0 b ob e)]; exact I.base.free b ob e n hx
  · have:=I.base.tups b xs e
    rw [upd_ne (ne b _ this)]; exact this
  · have:=I.base.frzs b ob u e
    rw [upd_ne (ne b _ this)]; exact this
  · obtain ⟨more,this⟩:=I.base.tbls b ps e
    exact ⟨more,by rw [upd_ne (ne b _ this)]; exact this⟩
  · rw [upd_ne (Ne.symm hL)]; exact I.free
  · rw [upd_ne (h2 x c e)]; exact I.freeC x c e
  · obtain ⟨a1,a2,a3⟩:=I.pin p hp
    exact ⟨a1,by rw [upd_ne (h3 p hp)]; exact a2,a3⟩
  · by_cases hb:b = D
    · subst hb; rw [upd_same] at e; cases e; exact new
    · rw [upd_ne hb] at e
      exact (I.hok b u e).stay (fun c v _ q => q) (fun c q => by rw [upd_ne (ne c _ q)]; exact q) fun c xs q => by rw [upd_ne (ne c _ q)]; exact q
section
variable {X:Cx} {k ie iy:Nat} {f C C':Addr} {fd:FuncData} {ps:List Str} {sp:Sp} {x c n y:Str} {p cpos xpos np p1 p2 p3 pos1 pos:Pos} {e:Expr} {es:List Expr} {t:TA}
noncomputable def IsExc (C a:Addr) (h:Heap):Prop:=∃ oe,h.get? a = some oe∧oe.cls = .ref C∧oe.dict = none∧PySem.W.notCls oe = true
noncomputable def tTry (C:Addr) (ie iy:Nat) (sp:Sp) (t:TA):TS:=fun D σ H => t σ H fun vs H1 => sp vs H1 (fun _ H' => D.nx σ H')
  fun cls _ H' => cls = .ref C∧∀ a,H' a = none→D.nx (((σ.set ie (some (.ref a))).set iy (some (.ref a))).set ie none) (upd H' a (.ext (IsExc C a)))
theorem ps_try (hst:X.stack = X.env :: X.outer) (hex:X.ex = []) (F:FnOk X.prog X.w X.K X.mg X.base (CX1 X.prog X.w X.base) k f fd ps sp) (hr:Room k X.A) (hg:Gl X x) (hm:X.mg x = some (.ref f)) (hk:PySem.W.keepIn X.K (.ref f) = true) (hb:Binds X.K fd ps [])
    (ha:PA X.nox (e :: es) t) (exm:PySem.W.exmOne X.K (.ref C) (.ref C') = some true) (hgc:Gl X c) (hmc:X.mg c = some (.ref C')) (hN:X.N.Nodup) (hie:X.N[ie]? = some n) (hkn:X.env.kindOf n = some .local) (hln:Loc X.env.scope n) (hfn:X.fn n = true ∨ X.env.scope.names.lookup n = some .local)
    (hs:∀ a,PS (X.marked (.ref a)).nox (.Assign [.Name y p1] (.Name n p2) p3) (tAsg (tVar ie) (gName iy)))
    (hsw:swapsWith (.Call (.Name x p) (e :: es) [] cpos) none xpos.line X.env = pure false:=by rfl) (hdb:(x == ("__debug__":Str)) = false:=by decide) (hdc:(c == ("__debug__":Str)) = false:=by decide)
    (he:starEach (e :: es) X.env = (false,eval e X.env) :: starEach es X.env:=by rfl) (hpl:(backTo cpos (starEach es X.env)).any (·.1) = false:=by rfl) :
    PS X (.Try [.Expr (.Call (.Name x p) (e :: es) [] cpos) xpos] [.ExceptHandler (some (.Name c np)) (some n) [.Assign [.Name y p1] (.Name n p2) p3] pos1] [] [] pos) (tTry C ie iy sp t):=by
  intro pins s σ H D I h
  refine wpAny_Try_except (wpAny_execs_cons (thn (wpAny_Expr_any (Q:=fun f s1 => f = .next∧NP X pins D.nx s1) (wpAny_Call_Name_kw (ld_glob I hg hm ?_ hdb)) I.quiet hsw) fun f s1 x__80 => ?_))
  · refine PySem.W.callWith_K (h₀:=X.base) I.ok.mod.kin hk (wpAny_mono (ha cpos pins s σ H _ (I.wish _) h) (fun us s1 ap => ?_) fun _ _ z => z.elim) he hpl
    obtain ⟨vs,H1,I1,r,q⟩:=ap
    have I2:=I1.unwish
    have hl:us.length = ps.length:=by rw [← r.length]; exact F.len _ _ _ _ q
    refine ⟨I2.kIn,wpAny_call (codeAny_mono (F.run X.A X.stack s1 H1 ⟨us,[]⟩ us vs _ _ hr I2.env0 (by have:=hb s1 us I2.kIn (by rw [List.append_nil]; exact hl); rwa [List.append_nil] at this) r q) fun r s' hq => ?_)⟩
    cases r with
    | error v =>
      refine Inv.lands I2 hst hq fun a cls H' h3 T ev hE up tr hHa hHT ha0 hT0 => ?_
      subst ev
      obtain ⟨rfl,nx⟩:=hE
      refine caught_as up tr hHa exm hgc hmc hdc hN hie hln hfn (hs a) (by rw [I.len]; exact (List.getElem?_eq_some_iff.mp hie).1) fun s5 oe e5 e6 e7 I5 => name_gone I5 hN hie hkn fun s6 I6 => ?_
      obtain ⟨g6,_,nL,_⟩:=I6.pin (a,oe) (List.mem_append_right _ List.mem_cons_self)
      have I7:Inv X pins _ H' s6:=I6.pins_of fun p hp => I6.pin p (List.mem_append_right _ (List.mem_cons_of_mem _ hp))
      have nA:∀ b o,s1.heap.get? b = some o→b ≠ a:=fun b o q z => by rw [z,ha0] at q; cases q
      refine ⟨_,_,I7.trackN (o:=.ext (IsExc C a)) hHa nL ?_ (fun x c e => ?_) (fun p hp => nA _ _ (I2.pin p hp).1) ⟨⟨oe,g6,e5,e6,e7⟩,⟨oe,g6⟩,fun h1 h2 x__81 kk => (by obtain ⟨o,q,cc⟩:=x__81; exact ⟨o,kk o q,cc⟩)⟩,nx a hHa⟩
      · cases q:X.s₀.heap.get? a with
        | none => rfl
        | some o =>
          obtain ⟨o',q1⟩:=I2.base.there a o q (by rw [hex]; exact fun z => nomatch z)
          exact absurd rfl (nA a o' q1)
      · obtain ⟨v,o,ho,_⟩:=I2.cell x c e
        exact nA c o ho
    | ok fl =>
      cases fl with
      | ret u =>
        obtain ⟨v,H',I',r',q'⟩:=I2.after hq
        exact ⟨rfl,σ,H',I',q'⟩
      | next => exact False.elim hq
      | brk => exact False.elim hq
      | cont => exact False.elim hq
  · obtain ⟨e1,q⟩:=x__80
    subst e1
    exact wpAny_execs_nil (wpAny_execs_nil q)
end
section
variable {prog:Program} {w:World} {A:Around} {E:Value→Shared→Prop} {s:Shared} {K:PySem.W.Frag} {x D:Addr}
open PySem.W in
theorem exc_class {ox:Obj} (hga:findIn K (.ref D) "__getattribute__" = some (some (.builtin "BaseException.__getattribute__"))) (hno:findIn K (.ref D) "__getattr__" = some none) (hdct:hasDictIn K D = true) (ha:findIn K (.ref D) "__class__" = some (some (.builtin "object.__class__")))
    (hn:specialIn K (.builtin "object.__class__") "__get__" = some (some (.builtin "getset_descriptor.__get__"))) (htk:takesIn K (.builtin "object.__class__") = some true) (hm:mroIn K D (.type "object") = some true) (hb:mroIn K D (.type "BaseException") = some true)
    {Q:Option Value→Shared→Prop} (X:K.In s.heap) (I:InstAt s.heap x ox D none) (h:Q (some (.ref D)) { s with toks:=s.toks + 1 }):wpAny (model prog w) A (getAttr? (.ref x) "__class__") Q E s:=by
  have hf:findObj K D none "__class__" = some (.bind (.builtin "getset_descriptor.__get__") (.builtin "object.__class__")):=by
    obtain ⟨cd,hc,_⟩:=any_some hdct
    unfold findObj
    rw [hc,Option.bind_some,ha,Option.bind_some]
    simp [hn,htk]
  obtain ⟨hh,g,d,t,os⟩:=s
  have L0:=I.type (M:=model prog w)
  have L1:=looks_findIn (M:=model prog w) X hga
  have L2:=looks_findIn (M:=model prog w) X hno
  have L3:=looks_mroIn (M:=model prog w) X hb
  have L4:=looks_find (M:=model prog w) X I hf
  have hx2:(Value.builtin "BaseException.__getattribute__" == Value.builtin "object.__getattribute__") = false:=by decide +kernel
  unfold getAttr? getAttrBy? getAttrBy
  refine wpAny_bind (wpAny_mkText (wpAny_bind (wpAny_attempt (wpAny_holding (wpAny_bind (L0.at (wpAny_bind (L1.at ?_))))))))
  dsimp only
  rw [hx2,Bool.and_false]
  show wpAny _ _ (getAttrByItsOwn _ _ _ _ _ _) _ _ _
  unfold getAttrByItsOwn hookBefore
  refine wpAny_bind ?_
  show wpAny _ _ (typeLookup _ _) _ _ _
  refine L2.at ?_
  refine wpAny_bind (wpAny_attempt (wpAny_holding ?_))
  show wpAny _ _ (boundAndCalled _ _ _) _ _ _
  unfold boundAndCalled
  rw [F.excAttr_ValueError.ga.bind]
  refine wpAny_bind (wpAny_pure ?_)
  show wpAny _ _ (call (.builtin "BaseException.__getattribute__") [.ref x,.str "__class__" t]) _ _ _
  refine wpAny_call (codeAny_call_builtin F.excAttr_ValueError.ga.plain F.entry_bexc_ga ?_)
  have hk:builtinKind "BaseException.__getattribute__" = some .slot:=by decide +kernel
  have hsplit:splitId "BaseException.__getattribute__" = some ("BaseException","__getattribute__"):=by decide +kernel
  simp only [checkBuiltinCall,hk,hsplit]
  refine wpAny_bind ?_
  unfold isInstance
  have harg:=F.args_bexc_ga (.ref x) (.str "__class__" t)
  refine wpAny_bind (L0.at (L3.at ?_))
  generalize hQ:(fun (_:Unit) (s₁:Shared) => wpAny (model prog w) A.in1 (Builtin.«object.__getattribute__» { pos:=[Value.ref x,Value.str (Str.ofString "__class__") t] }) _ _ s₁) = Q1
  repeat wp_step
  subst hQ
  unfold Builtin.«object.__getattribute__»
  refine wpAny_bind (wpAny_pure ?_)
  refine wpAny_bind (wpAny_pure ?_)
  refine wpAny_bind (L0.at (wpAny_bind (L4.at ?_)))
  show wpAny _ _ (holding [Value.builtin "object.__class__"] (call (Value.builtin "getset_descriptor.__get__") [Value.builtin "object.__class__",.ref x,.ref D]) >>= ret) _ _ _
  refine wpAny_bind (wpAny_holding (wpAny_call (class_get (s:=⟨hh,g,d,t + 1,os⟩) (ox:=ox) (od:=none) X I hm ?_)))
  exact wpAny_pure (handed_on (v:=.ref D) rfl (wpAny_pure h))
open PySem.W in
theorem kitx_exc (hg:findIn K (.ref D) "__getattribute__" = some (some (.builtin "BaseException.__getattribute__"))) (hno:findIn K (.ref D) "__getattr__" = some none) (hb:mroIn K D (.type "BaseException") = some true) (hdct:hasDictIn K D = true) (ha:findIn K (.ref D) "__class__" = some (some (.builtin "object.__class__")))
    (hn:specialIn K (.builtin "object.__class__") "__get__" = some (some (.builtin "getset_descriptor.__get__"))) (htk:takesIn K (.builtin "object.__class__") = some true) (hm:mroIn K D (.type "object") = some true) :
    KitX K (.ref x) (.ref D) (IsExc D x) where
  ty:=fun _ _ _ x__82 => (by obtain ⟨oe,h0,h1,_⟩:=x__82; exact h1 ▸ (Looks.ld h0).andThen .now)
  it:=fun _ _ X _ => by
    obtain ⟨cdD,hcD,_⟩:=any_some hdct
    unfold clsIn at hcD
    split at hcD
    · rename_i c' d' cd' sl' ho
      intro A' Q' E' s' k q
      unfold isType loadHead
      exact wpAny_bind (wpAny_loadPart (k _ _ (X _ _ ho)) (wpAny_pure q))
    · cases hcD
  ne:=fun h tp dd its n sl X htp => by
    obtain ⟨cdD,hcD,_⟩:=any_some hdct
    refine Bool.eq_false_iff.mpr fun q => ?_
    have e:D = tp:=Value.ref.inj (beq_iff_eq.mp q)
    subst e
    unfold clsIn at hcD
    split at hcD
    · rename_i c' d' cd' sl' ho
      have z:=(X _ _ ho).symm.trans htp
      cases z
    · cases hcD
  ca:=fun X x__83 k => (by obtain ⟨oe,h0,h1,h2,h3⟩:=x__83; exact exc_class hg hno hdct ha hn htk hm hb X (ox:=oe) ⟨h0,h1,h3,by rw [h2]; trivial⟩ k)
end
structure ExcK (K:PySem.W.Frag) (D:Addr):Prop where
  hg:PySem.W.findIn K (.ref D) "__getattribute__" = some (some (.builtin "BaseException.__getattribute__"))
  hno:PySem.W.findIn K (.ref D) "__getattr__" = some none
  hb:PySem.W.mroIn K D (.type "BaseException") = some true
  hdct:PySem.W.hasDictIn K D = true
  ha:PySem.W.findIn K (.ref D) "__class__" = some (some (.builtin "object.__class__"))
  hn:PySem.W.specialIn K (.builtin "object.__class__") "__get__" = some (some (.builtin "getset_descriptor.__get__"))
  htk:PySem.W.takesIn K (.builtin "object.__class__") = some true
  hm:PySem.W.mroIn K D (.type "object") = some true
theorem call_isexc {X:Cx} {C:Addr} {v:V} {c:Value} {b:Bool} (hv:RelV v c) (hr:∀ u,RelV v u→u = c) (k:ExcK X.K C) (e:PySem.W.kitOne X.K (.ref C) c = some b) :
    CallR X (.builtin "isinstance") (fun xs H Q => ∃ a,xs = [.ref a,v]∧H a = some (.ext (IsExc C a))∧Q (.bl b) H):=by
  intro pins s σ H xs us Q I r h
  obtain ⟨a,rfl,ea,q⟩:=h
  obtain ⟨u1,u2,rfl,r1,r2⟩:=r.two
  cases (show u1 = Value.ref a from r1)
  cases hr u2 r2
  refine PySem.W.kia_one (kitx_exc (x:=a) k.hg k.hno k.hb k.hdct k.ha k.hn k.htk k.hm) I.kIn (I.hok a _ ea).1 e (fun z => nomatch z) fun tk => ?_
  exact ⟨.bl b,H,I.kept (h':=s.heap) (t':=tk) fun _ _ q => q,rfl,q⟩
end L2

namespace L3
open PySem L2 PySem.Spec PyProof.Rows
theorem bnd1 {α γ:Type} {x:Option α} {f:α→Option γ} {r:γ} {Q:Prop} (e:x.bind f = some r) (h:∀ p,x = some p→f p = some r→Q):Q:=by
  cases x with
  | none => cases e
  | some p => exact h p rfl e
theorem bnd2 {α β γ:Type} {x:Option (α × β)} {f:α × β→Option γ} {r:γ} {Q:Prop} (e:x.bind f = some r) (h:∀ d s,x = some (d,s)→f (d,s) = some r→Q):Q:=bnd1 e fun p => h p.1 p.2
theorem mpp1 {α γ:Type} {x:Option α} {f:α→γ} {r:γ} {Q:Prop} (e:x.map f = some r) (h:∀ p,x = some p→f p = r→Q):Q:=by
  cases x with
  | none => cases e
  | some p => exact h p rfl (Option.some.inj e)
theorem mpp2 {α β γ:Type} {x:Option (α × β)} {f:α × β→γ} {r:γ} {Q:Prop} (e:x.map f = some r) (h:∀ d s,x = some (d,s)→f (d,s) = r→Q):Q:=mpp1 e fun p => h p.1 p.2

noncomputable abbrev D:=PyData
noncomputable abbrev Zt:=Option (Addr × Addr)
noncomputable abbrev Sx:=List Int × Int
noncomputable def NotZ (Z:Zt) (p:Addr):Prop:=∀ a c,Z = some (a,c)→p ≠ a∧p ≠ c
noncomputable def stDict (c:Addr) (t:Int):List (Key × V):=[(Sum.inr "cells",.ref c),(Sum.inr "turn",.int t)]
noncomputable def StateAt (Z:Zt) (H:Hp) (s:Sx):Prop:=∀ a c,Z = some (a,c)→H a = some (.dK (stDict c s.2))∧H c = some (.lst (s.1.map V.int))
noncomputable def Ext (Z:Zt) (H H':Hp):Prop:=∀ b o,H b = some o→NotZ Z b→H' b = some o
theorem Ext.refl {Z:Zt} (H:Hp):Ext Z H H:=fun _ _ e _ => e
theorem Ext.trans {Z:Zt} {H H1 H2:Hp} (a:Ext Z H H1) (b:Ext Z H1 H2):Ext Z H H2:=fun c o e n => b c o (a c o e n) n
theorem Ext.upd {Z:Zt} {H:Hp} {p:Addr} {o:HO} (h:H p = none):Ext Z H (upd H p o):=fun b u e _ => by rw [upd_ne (ne_of_none e h)]; exact e
theorem StateAt.upd {Z:Zt} {H:Hp} {s:Sx} {p:Addr} {o:HO} (S:StateAt Z H s) (h:H p = none):StateAt Z (upd H p o) s:=fun a c e =>
  ⟨by rw [upd_ne (ne_of_none (S a c e).1 h)]; exact (S a c e).1,by rw [upd_ne (ne_of_none (S a c e).2 h)]; exact (S a c e).2⟩
theorem StateAt.notZ {Z:Zt} {H:Hp} {s:Sx} {p:Addr} (S:StateAt Z H s) (h:H p = none):NotZ Z p:=fun a c e => ⟨Ne.symm (ne_of_none (S a c e).1 h),Ne.symm (ne_of_none (S a c e).2 h)⟩

noncomputable def ModT (K:PySem.W.Frag) (p:Addr) (vs:List V):Prop:=∃ (o:Obj) (its:Array Value) (n:Nat),K.lookup p = some o∧o.cls = .type "tuple"∧o.data = .seq its n∧its.size ≤ sizeLine∧Vals vs its.toList
mutual
inductive Rep (K:PySem.W.Frag) (Z:Zt) (H:Hp) (A:List Addr):V→D→Prop
  | non:Rep K Z H A .non .none
  | bl (b:Bool):Rep K Z H A (.bl b) (.bool b)
  | int (i:Int):Rep K Z H A (.int i) (.int i)
  | str (x:Str):Rep K Z H A (.str x) (.str x)
  | tup {p:Addr} {vs:List V} {ds:List D}:H p = some (.tup vs)→¬ p ∈ A→NotZ Z p→Reps K Z H A vs ds→Rep K Z H A (.ref p) (.tuple ds)
  | lst {p:Addr} {vs:List V} {ds:List D}:H p = some (.lst vs)→¬ p ∈ A→NotZ Z p→Reps K Z H A vs ds→Rep K Z H A (.ref p) (.list ds)
  | mod {p:Addr} {vs:List V} {ds:List D}:ModT K p vs→Reps K Z H A vs ds→Rep K Z H A (.ref p) (.tuple ds)
  | st {a c:Addr}:Z = some (a,c)→Rep K Z H A (.ref a) (.dict [])
  | obj {p C dx:Addr} {c:Str} {ns:List Str} {vs:List V} {ds:List D}:PySem.W.nsIn K mainGlobals c = some (some (.ref C))→H p = some (.ins C dx (ns.zip vs))→¬ p ∈ A→NotZ Z p→Reps K Z H A vs ds →
      Rep K Z H A (.ref p) (.dict ((.str "",.str c) :: (ns.map PyData.str).zip ds))
inductive Reps (K:PySem.W.Frag) (Z:Zt) (H:Hp) (A:List Addr):List V→List D→Prop
  | nil:Reps K Z H A [] []
  | cons {v:V} {d:D} {vs:List V} {ds:List D}:Rep K Z H A v d→Reps K Z H A vs ds→Reps K Z H A (v :: vs) (d :: ds)
end

section
variable {K:PySem.W.Frag} {Z:Zt} {H H':Hp} {A A':List Addr}
theorem Reps.move (hm:∀ p o,H p = some o→¬ p ∈ A→NotZ Z p→H' p = some o∧¬ p ∈ A') {vs:List V} {ds:List D} (r:Reps K Z H A vs ds):Reps K Z H' A' vs ds :=
  Reps.rec (motive_1:=fun v d _ => Rep K Z H' A' v d) (motive_2:=fun vs ds _ => Reps K Z H' A' vs ds) .non .bl .int .str
    (fun h n z _ r => .tup (hm _ _ h n z).1 (hm _ _ h n z).2 z r) (fun h n z _ r => .lst (hm _ _ h n z).1 (hm _ _ h n z).2 z r) (fun h _ r => .mod h r) (fun h => .st h)
    (fun k h n z _ r => .obj k (hm _ _ h n z).1 (hm _ _ h n z).2 z r) .nil (fun _ _ r t => .cons r t) r
theorem Reps.head {v:V} {d:D} {vs:List V} {ds:List D} (r:Reps K Z H A (v :: vs) (d :: ds)):Rep K Z H A v d:=by
  cases r with
  | cons r _ => exact r
theorem Rep.move (hm:∀ p o,H p = some o→¬ p ∈ A→NotZ Z p→H' p = some o∧¬ p ∈ A') {v:V} {d:D} (r:Rep K Z H A v d):Rep K Z H' A' v d:=Reps.head (Reps.move hm (.cons r .nil))
theorem Rep.ext {v:V} {d:D} (r:Rep K Z H A v d) (e:Ext Z H H'):Rep K Z H' A v d:=r.move fun p o h n z => ⟨e p o h z,n⟩
theorem Reps.ext {vs:List V} {ds:List D} (r:Reps K Z H A vs ds) (e:Ext Z H H'):Reps K Z H' A vs ds:=r.move fun p o h n z => ⟨e p o h z,n⟩
theorem Rep.sub {v:V} {d:D} (r:Rep K Z H A v d) (e:∀ q ∈ A',q ∈ A):Rep K Z H A' v d:=r.move fun p o h n z => ⟨h,fun q => n (e _ q)⟩
theorem Reps.sub {vs:List V} {ds:List D} (r:Reps K Z H A vs ds) (e:∀ q ∈ A',q ∈ A):Reps K Z H A' vs ds:=r.move fun p o h n z => ⟨h,fun q => n (e _ q)⟩
theorem Reps.length {vs:List V} {ds:List D} (h:Reps K Z H A vs ds):vs.length = ds.length:=by
  induction vs generalizing ds with
  | nil => cases h; rfl
  | cons v vs ih =>
    cases h with
    | cons _ t => exact congrArg (· + 1) (ih t)
theorem Reps.get:∀ {vs:List V} {ds:List D} {i:Nat} {d:D},Reps K Z H A vs ds→ds[i]? = some d→∃ v,vs[i]? = some v∧Rep K Z H A v d
  | _,_,_,_,.nil,e => by simp at e
  | _,_,0,_,.cons r _,e => by simp at e; subst e; exact ⟨_,rfl,r⟩
  | _,_,i + 1,d,.cons _ t,e => by
    obtain ⟨u,h1,h2⟩:=Reps.get (i:=i) (d:=d) t (by simpa using e)
    exact ⟨u,by simpa using h1,h2⟩
theorem Reps.at:∀ {vs:List V} {ds:List D} {i:Nat} {v:V},Reps K Z H A vs ds→vs[i]? = some v→∃ d,ds[i]? = some d∧Rep K Z H A v d
  | _,_,_,_,.nil,e => by simp at e
  | _,_,0,_,.cons r _,e => by simp at e; subst e; exact ⟨_,rfl,r⟩
  | _,_,i + 1,v,.cons _ t,e => by
    obtain ⟨u,h1,h2⟩:=Reps.at (i:=i) (v:=v) t (by simpa using e)
    exact ⟨u,by simpa using h1,h2⟩
theorem Reps.append {vs ws:List V} {ds es:List D} (h:Reps K Z H A vs ds) (s:Reps K Z H A ws es):Reps K Z H A (vs ++ ws) (ds ++ es):=by
  induction vs generalizing ds with
  | nil => cases h; exact s
  | cons v vs ih =>
    cases h with
    | cons r t => exact .cons r (ih t)
theorem Reps.take:∀ {vs:List V} {ds:List D} (n:Nat),Reps K Z H A vs ds→Reps K Z H A (vs.take n) (ds.take n)
  | _,_,0,_ => .nil
  | _,_,_ + 1,.nil => .nil
  | _,_,n + 1,.cons r t => .cons r (Reps.take n t)
theorem Reps.drop:∀ {vs:List V} {ds:List D} (n:Nat),Reps K Z H A vs ds→Reps K Z H A (vs.drop n) (ds.drop n)
  | _,_,0,r => r
  | _,_,_ + 1,.nil => .nil
  | _,_,n + 1,.cons _ t => Reps.drop n t
theorem Reps.set {v:V} {d:D} (r:Rep K Z H A v d):∀ {vs:List V} {ds:List D} (i:Nat),Reps K Z H A vs ds→Reps K Z H A (vs.set i v) (ds.set i d)
  | _,_,_,.nil => .nil
  | _,_,0,.cons _ t => .cons r t
  | _,_,i + 1,.cons q t => .cons q (Reps.set r i t)
theorem Reps.rep (k:Nat) {vs:List V} {ds:List D} (h:Reps K Z H A vs ds):Reps K Z H A (List.replicate k vs).flatten (List.replicate k ds).flatten:=by
  induction k with
  | zero => exact .nil
  | succ k ih => rw [List.replicate_succ,List.replicate_succ,List.flatten_cons,List.flatten_cons]; exact h.append ih
theorem Reps.dropLast:∀ {vs:List V} {ds:List D},Reps K Z H A vs ds→Reps K Z H A vs.dropLast ds.dropLast:=fun {vs ds} h => by
  rw [List.dropLast_eq_take,List.dropLast_eq_take,h.length]; exact h.take _
theorem fresh_not {p:Addr} (hA:∀ q ∈ A,∃ o,H q = some o) (h:H p = none):¬ p ∈ A:=fun m => by
  obtain ⟨o,e⟩:=hA p m
  rw [h] at e; cases e
end

noncomputable def RepW (K:PySem.W.Frag) (Z:Zt) (H:Hp) (A:List Addr) (v:V) (d:D):Prop :=
  Rep K Z H A v d ∨ ∃ p vs ds,v = .ref p∧d = .list ds∧H p = some (.lst vs)∧NotZ Z p∧Reps K Z H A vs ds
section
variable {K:PySem.W.Frag} {Z:Zt} {H H':Hp} {A A':List Addr} {v:V} {d:D}
theorem Rep.w (r:Rep K Z H A v d):RepW K Z H A v d:=.inl r
theorem RepW.ext (r:RepW K Z H A v d) (e:Ext Z H H'):RepW K Z H' A v d:=by
  rcases r with r | ⟨p,vs,ds,e1,e2,e3,e4,e5⟩
  · exact .inl (r.ext e)
  · exact .inr ⟨p,vs,ds,e1,e2,e _ _ e3 e4,e4,e5.ext e⟩
theorem RepW.list {ds:List D} (r:RepW K Z H A v (.list ds)):∃ p vs,v = .ref p∧SqL K H p vs∧NotZ Z p∧Reps K Z H A vs ds:=by
  rcases r with r | ⟨p,vs,ds,e1,e2,e3,e4,e5⟩
  · cases r with
    | lst h n z q => exact ⟨_,_,rfl,.of h,z,q⟩
  · cases e2; exact ⟨p,vs,e1,.of e3,e4,e5⟩
theorem RepW.tuple {ds:List D} (r:RepW K Z H A v (.tuple ds)):∃ p vs,v = .ref p∧SqT K H p vs∧Reps K Z H A vs ds:=by
  rcases r with r | ⟨p,vs,ds,e1,e2,e3,e4,e5⟩
  · cases r with
    | tup h n z q => exact ⟨_,_,rfl,.of h,q⟩
    | mod h q => exact ⟨_,_,rfl,.inr h,q⟩
  · cases e2
theorem RepW.int {i:Int} (r:RepW K Z H A v (.int i)):v = .int i:=by
  rcases r with r | ⟨p,vs,ds,e1,e2,e3,e4,e5⟩
  · cases r; rfl
  · cases e2
theorem RepW.bool {i:Bool} (r:RepW K Z H A v (.bool i)):v = .bl i:=by
  rcases r with r | ⟨p,vs,ds,e1,e2,e3,e4,e5⟩
  · cases r; rfl
  · cases e2
theorem RepW.str {i:Str} (r:RepW K Z H A v (.str i)):v = .str i:=by
  rcases r with r | ⟨p,vs,ds,e1,e2,e3,e4,e5⟩
  · cases r; rfl
  · cases e2
theorem RepW.none (r:RepW K Z H A v .none):v = .non:=by
  rcases r with r | ⟨p,vs,ds,e1,e2,e3,e4,e5⟩
  · cases r; rfl
  · cases e2
end

inductive Ce where
  | non | val (d:D) | own (xs:List D)
noncomputable abbrev Sl:=List Ce
noncomputable abbrev Ow:=List (Nat × Addr)
inductive ValAt (K:PySem.W.Frag) (Z:Zt) (A:List Addr) (ow:Ow) (σ:L2.St) (H:Hp) (i:Nat) (d:D):Prop
  | mk (v:V) (h0:σ[i]? = some (some v)) (h1:Rep K Z H (A ++ ow.map (·.2)) v d)
inductive OwnAt (K:PySem.W.Frag) (Z:Zt) (A:List Addr) (ow:Ow) (σ:L2.St) (H:Hp) (i:Nat) (xs:List D):Prop
  | mk (p:Addr) (vs:List V) (h0:(i,p) ∈ ow) (h1:σ[i]? = some (some (.ref p))) (h2:H p = some (.lst vs)) (h3:Reps K Z H (A ++ ow.map (·.2)) vs xs)
structure RepS (K:PySem.W.Frag) (B:Hp) (Z:Zt) (A:List Addr) (ow:Ow) (σ:L2.St) (δ:Sl) (H:Hp):Prop where
  ok:∀ q ∈ A,(∃ o,H q = some o)∧NotZ Z q
  ext:Ext Z B H
  len:δ.length = σ.length
  val:∀ (i:Nat) (d:D),δ[i]? = some (.val d)→ValAt K Z A ow σ H i d
  own:∀ (i:Nat) (xs:List D),δ[i]? = some (.own xs)→OwnAt K Z A ow σ H i xs
  ows:∀ i p,(i,p) ∈ ow→B p = none∧(∃ vs,H p = some (.lst vs))∧NotZ Z p∧¬ p ∈ A
  inj:∀ i j p,(i,p) ∈ ow→(j,p) ∈ ow→i = j
section
variable {K:PySem.W.Frag} {B:Hp} {Z:Zt} {A:List Addr} {ow:Ow} {σ:L2.St} {δ:Sl} {H H':Hp}
theorem RepS.mono (R:RepS K B Z A ow σ δ H) (e:Ext Z H H'):RepS K B Z A ow σ δ H' where
  ok:=fun q hq => ⟨let ⟨o,h⟩:=(R.ok q hq).1; ⟨o,e q o h (R.ok q hq).2⟩,(R.ok q hq).2⟩
  ext:=R.ext.trans e
  len:=R.len
  val:=fun i d h => let ⟨v,a,b⟩:=R.val i d h; ⟨v,a,b.ext e⟩
  own:=fun i xs h => let ⟨p,vs,a,b,c,d⟩:=R.own i xs h; ⟨p,vs,a,b,e p _ c (R.ows i p a).2.2.1,d.ext e⟩
  ows:=fun i p h => let ⟨a,⟨o,b⟩,c,d⟩:=R.ows i p h; ⟨a,⟨o,e p _ b c⟩,c,d⟩
  inj:=R.inj
theorem RepS.all (R:RepS K B Z A ow σ δ H):∀ q ∈ A ++ ow.map (·.2),∃ o,H q = some o:=fun q hq => by
  rcases List.mem_append.mp hq with h | h
  · exact (R.ok q h).1
  · obtain ⟨⟨i,p⟩,hp,rfl⟩:=List.mem_map.mp h
    obtain ⟨vs,h⟩:=(R.ows i p hp).2.1
    exact ⟨_,h⟩
end

noncomputable def Frm (Z:Zt) (ow:Ow) (H:Hp) (ow':Ow) (H':Hp):Prop:=∀ b o,H b = some o→NotZ Z b→¬ b ∈ ow.map (·.2)→H' b = some o∧¬ b ∈ ow'.map (·.2)
theorem Frm.ext {Z:Zt} {ow:Ow} {H H':Hp} (e:Ext Z H H'):Frm Z ow H ow H':=fun b o h n m => ⟨e b o h n,m⟩
theorem Frm.refl {Z:Zt} {ow:Ow} {H:Hp}:Frm Z ow H ow H:=fun _ _ h _ m => ⟨h,m⟩
theorem Frm.trans {Z:Zt} {o1 o2 o3:Ow} {H1 H2 H3:Hp} (a:Frm Z o1 H1 o2 H2) (b:Frm Z o2 H2 o3 H3):Frm Z o1 H1 o3 H3:=fun c o h n m => let ⟨h',m'⟩:=a c o h n m; b c o h' n m'
section
variable {K:PySem.W.Frag} {Z:Zt} {H H':Hp} {A:List Addr} {ow ow':Ow}
theorem rd_frm {p:Addr} {u:HO} (h:H p = some u) (f:Frm Z ow H ow' H') (n:NotZ Z p) (m:¬ p ∈ A ++ ow.map (·.2)):H' p = some u∧¬ p ∈ A ++ ow'.map (·.2):=by
  have m1:¬ p ∈ A:=fun q => m (List.mem_append_left _ q)
  have m2:¬ p ∈ ow.map (·.2):=fun q => m (List.mem_append_right _ q)
  exact ⟨(f _ _ h n m2).1,fun q => (List.mem_append.mp q).elim m1 (f _ _ h n m2).2⟩
theorem Rep.frm {v:V} {d:D} (r:Rep K Z H (A ++ ow.map (·.2)) v d) (f:Frm Z ow H ow' H'):Rep K Z H' (A ++ ow'.map (·.2)) v d:=r.move fun p o h n z => rd_frm h f z n
theorem Reps.frm {vs:List V} {ds:List D} (r:Reps K Z H (A ++ ow.map (·.2)) vs ds) (f:Frm Z ow H ow' H'):Reps K Z H' (A ++ ow'.map (·.2)) vs ds:=r.move fun p o h n z => rd_frm h f z n
end

noncomputable abbrev FE:=Sl→Sx→Option (D × Sx)
noncomputable abbrev FT:=Sl→Sx→Option (Bool × Sx)
noncomputable abbrev FA:=Sl→Sx→Option (List D × Sx)
inductive tDK (K:PySem.W.Frag) (Z:Zt) (A:List Addr) (F:FE) (σ:L2.St) (H:Hp) (Q:VK):Prop
  | mk (B:Hp) (ow:Ow) (δ:Sl) (s:Sx) (d:D) (s':Sx) (h0:RepS K B Z A ow σ δ H) (h1:StateAt Z H s) (h2:F δ s = some (d,s')) (h3:∀ v H',Ext Z H H'→StateAt Z H' s'→Rep K Z H' (A ++ ow.map (·.2)) v d→Q v H')
noncomputable abbrev tD (X:Cx) (Z:Zt) (A:List Addr) (F:FE):TE:=tDK X.K Z A F
inductive tDTK (K:PySem.W.Frag) (Z:Zt) (A:List Addr) (F:FT) (σ:L2.St) (H:Hp) (Q:Bool→Hp→Prop):Prop
  | mk (B:Hp) (ow:Ow) (δ:Sl) (s:Sx) (b:Bool) (s':Sx) (h0:RepS K B Z A ow σ δ H) (h1:StateAt Z H s) (h2:F δ s = some (b,s')) (h3:∀ H',Ext Z H H'→StateAt Z H' s'→Q b H')
noncomputable abbrev tDT (X:Cx) (Z:Zt) (A:List Addr) (F:FT):TT:=tDTK X.K Z A F
inductive tDAK (K:PySem.W.Frag) (Z:Zt) (A:List Addr) (F:FA) (σ:L2.St) (H:Hp) (Q:List V→Hp→Prop):Prop
  | mk (B:Hp) (ow:Ow) (δ:Sl) (s:Sx) (ds:List D) (s':Sx) (h0:RepS K B Z A ow σ δ H) (h1:StateAt Z H s) (h2:F δ s = some (ds,s')) (h3:∀ vs H',Ext Z H H'→StateAt Z H' s'→Reps K Z H' (A ++ ow.map (·.2)) vs ds→Q vs H')
noncomputable abbrev tDA (X:Cx) (Z:Zt) (A:List Addr) (F:FA):TA:=tDAK X.K Z A F
structure DE (X:Cx) (e:Expr) (F:FE):Prop where
  go:∀ Z A,PE X e (tD X Z A F)
instance {X:Cx} {e:Expr} {F:FE}:CoeFun (DE X e F) (fun _ => ∀ Z A,PE X e (tD X Z A F)):=⟨fun h => h.go⟩
structure DT (X:Cx) (e:Expr) (F:FT):Prop where
  go:∀ Z A,PT X e (tDT X Z A F)
instance {X:Cx} {e:Expr} {F:FT}:CoeFun (DT X e F) (fun _ => ∀ Z A,PT X e (tDT X Z A F)):=⟨fun h => h.go⟩
structure DA (X:Cx) (es:List Expr) (F:FA):Prop where
  go:∀ Z A,PA X es (tDA X Z A F)
instance {X:Cx} {es:List Expr} {F:FA}:CoeFun (DA X es F) (fun _ => ∀ Z A,PA X es (tDA X Z A F)):=⟨fun h => h.go⟩
noncomputable abbrev FO:=Sl→Sx→Option (List D × Sx)
inductive tDOK (K:PySem.W.Frag) (Z:Zt) (A:List Addr) (F:FO) (σ:L2.St) (H:Hp) (Q:VK):Prop
  | mk (B:Hp) (ow:Ow) (δ:Sl) (s:Sx) (ds:List D) (s':Sx) (h0:RepS K B Z A ow σ δ H) (h1:StateAt Z H s) (h2:F δ s = some (ds,s')) (h3:∀ p vs H',Ext Z H H'→StateAt Z H' s'→H' p = some (.lst vs)→NotZ Z p→Reps K Z H' (A ++ ow.map (·.2)) vs ds→Q (.ref p) H')
noncomputable abbrev tDO (X:Cx) (Z:Zt) (A:List Addr) (F:FO):TE:=tDOK X.K Z A F
structure DO (X:Cx) (e:Expr) (F:FO):Prop where
  go:∀ Z A,PE X e (tDO X Z A F)
instance {X:Cx} {e:Expr} {F:FO}:CoeFun (DO X e F) (fun _ => ∀ Z A,PE X e (tDO X Z A F)):=⟨fun h => h.go⟩
inductive tDWK (K:PySem.W.Frag) (Z:Zt) (A:List Addr) (F:FE) (σ:L2.St) (H:Hp) (Q:VK):Prop
  | mk (B:Hp) (ow:Ow) (δ:Sl) (s:Sx) (d:D) (s':Sx) (h0:RepS K B Z A ow σ δ H) (h1:StateAt Z H s) (h2:F δ s = some (d,s')) (h3:∀ v H',Ext Z H H'→StateAt Z H' s'→RepW K Z H' (A ++ ow.map (·.2)) v d→Q v H')
noncomputable abbrev tDW (X:Cx) (Z:Zt) (A:List Addr) (F:FE):TE:=tDWK X.K Z A F
structure DW (X:Cx) (e:Expr) (F:FE):Prop where
  go:∀ Z A,PE X e (tDW X Z A F)
instance {X:Cx} {e:Expr} {F:FE}:CoeFun (DW X e F) (fun _ => ∀ Z A,PE X e (tDW X Z A F)):=⟨fun h => h.go⟩
theorem PE.imp {X:Cx} {e:Expr} {t t':TE} (h:PE X e t) (hi:∀ σ H Q,t' σ H Q→t σ H Q):PE X e t':=fun pins s σ H Q I q => h pins s σ H Q I (hi σ H Q q)
theorem PT.imp {X:Cx} {e:Expr} {t t':TT} (h:PT X e t) (hi:∀ σ H Q,t' σ H Q→t σ H Q):PT X e t':=fun pins s σ H Q I q => h pins s σ H Q I (hi σ H Q q)
theorem PA.imp {X:Cx} {e:List Expr} {t t':TA} (h:PA X e t) (hi:∀ σ H Q,t' σ H Q→t σ H Q):PA X e t':=fun pos pins s σ H Q I q => h pos pins s σ H Q I (hi σ H Q q)
theorem PS.imp {X:Cx} {st:Stmt} {t t':TS} (h:PS X st t) (hi:∀ D σ H,t' D σ H→t D σ H):PS X st t':=fun pins s σ H D I q => h pins s σ H D I (hi D σ H q)
theorem PSs.imp {X:Cx} {st:List Stmt} {t t':TS} (h:PSs X st t) (hi:∀ D σ H,t' D σ H→t D σ H):PSs X st t':=fun pins s σ H D I q => h pins s σ H D I (hi D σ H q)

section
variable {X:Cx} {a b c:Expr} {Fa Fb Fc:FE} {pos:Pos}
noncomputable def fVar (i:Nat):FE:=fun δ s => match δ[i]? with | some (.val d) => some (d,s) | _ => none
noncomputable def fC (d:D):FE:=fun _ s => some (d,s)
theorem de_of {e:Expr} {i:Nat} (h:PE X e (tVar i)):DE X e (fVar i):=⟨fun Z A => PE.imp h fun σ H Q x__84 => by
  obtain ⟨B,ow,δ,s,d,s',R,S,e,q⟩:=x__84
  unfold fVar at e
  split at e
  · rename_i d' hd
    cases e
    obtain ⟨v,h1,h2⟩:=R.val i _ hd
    exact ⟨v,h1,q v H (Ext.refl H) S h2⟩
  · cases e⟩
theorem dv (i:Nat) {x:Str} (hN:X.N[i]? = some x:=by rfl) (hv:Vis X.env.scope x:=by first | exact Or.inl rfl | exact Or.inr (Or.inl rfl) | exact Or.inr (Or.inr rfl)) (hd:(x == ("__debug__":Str)) = false:=by decide)
    (hcd:(x == ("__classdict__":Str)) = false:=by decide):DE X (.Name x pos) (fVar i):=de_of (pv i hN hv hd hcd)
theorem de_const {e:Expr} {v:V} {d:D} (h:PE X e (tC v)) (r:∀ K Z H A,Rep K Z H A v d):DE X e (fC d):=⟨fun Z A => PE.imp h fun σ H Q x__85 => by
  obtain ⟨B,ow,δ,s,d',s',R,S,e,q⟩:=x__85
  cases e
  exact q v H (Ext.refl H) S (r _ _ _ _)⟩
theorem de_int {i:Int} {j}:DE X (.Constant (.int i) j pos) (fC (.int i)):=de_const pe_int fun _ _ _ _ => .int i
theorem de_bl {i:Bool} {j}:DE X (.Constant (.bool i) j pos) (fC (.bool i)):=de_const pe_bl fun _ _ _ _ => .bl i
theorem de_non {j}:DE X (.Constant .none j pos) (fC .none):=de_const pe_non fun _ _ _ _ => .non
theorem de_str {x:Str} {j}:DE X (.Constant (.str x) j pos) (fC (.str x)):=de_const pe_str fun _ _ _ _ => .str x

theorem DE.w {e:Expr} {F:FE} (h:DE X e F):DW X e F:=⟨fun Z A => PE.imp (h Z A) fun σ H Q x__86 => (by obtain ⟨B,ow,δ,s,d,s',R,S,e,q⟩:=x__86; exact ⟨B,ow,δ,s,d,s',R,S,e,fun v H' a b c => q v H' a b c.w⟩)⟩
noncomputable def asL (F:FO):FE:=fun δ s => (F δ s).map fun p => (.list p.1,p.2)
theorem DO.w {e:Expr} {F:FO} (h:DO X e F):DW X e (asL F):=⟨fun Z A => PE.imp (h Z A) fun σ H Q x__87 => by
  obtain ⟨B,ow,δ,s,d,s',R,S,e,q⟩:=x__87
  unfold asL at e
  first | refine bnd1 e fun p e1 e => ?_ | refine mpp1 e fun p e1 e => ?_
  cases e
  exact ⟨B,ow,δ,s,p.1,p.2,R,S,e1,fun p vs H' a b c n r => q _ H' a b (.inr ⟨p,vs,_,rfl,rfl,c,n,r⟩)⟩⟩
noncomputable abbrev G2:=D→D→Option D
noncomputable def DOp (X:Cx) (f:Value→Value→Sem Value) (g:G2):Prop:=∀ (Z:Zt) (A:List Addr) (pins:List (Addr × Obj)) (s:Shared) (σ:L2.St) (H:Hp) (st:Sx) (x y:V) (v u:Value) (dx dy d:D) (Q:VK),
  Inv X pins σ H s→StateAt Z H st→(∀ q ∈ A,∃ o,H q = some o)→RepW X.K Z H A x dx→RepW X.K Z H A y dy→RelV x v→RelV y u→g dx dy = some d →
  (∀ v' H',Ext Z H H'→StateAt Z H' st→Rep X.K Z H' A v' d→Q v' H')→wpAny (model X.prog X.w) X.A (f v u) (EP X pins σ Q) X.xe s
theorem DOp.of {f:Value→Value→Sem Value} {g:G2} {r:R2} (h:OpR X f r)
    (hr:∀ (Z:Zt) (A:List Addr) (H:Hp) (st:Sx) (x y:V) (dx dy d:D) (Q:VK),StateAt Z H st→(∀ q ∈ A,∃ o,H q = some o)→RepW X.K Z H A x dx→RepW X.K Z H A y dy→g dx dy = some d →
      (∀ v' H',Ext Z H H'→StateAt Z H' st→Rep X.K Z H' A v' d→Q v' H')→r x y H Q):DOp X f g :=
  fun Z A pins s σ H st x y v u dx dy d Q I S hA rx ry vx vy e q => h pins s σ H x y v u Q I vx vy (hr Z A H st x y dx dy d Q S hA rx ry e q)
theorem DOp.or {f:Value→Value→Sem Value} {g g':G2} (h:DOp X f g) (h':DOp X f g'):DOp X f (fun a b => (g a b).or (g' a b)) :=
  fun Z A pins s σ H st x y v u dx dy d Q I S hA rx ry vx vy e q => by
    cases e1:g dx dy with
    | some d' => dsimp only at e; rw [e1] at e; exact h Z A pins s σ H st x y v u dx dy d Q I S hA rx ry vx vy (by rw [e1]; exact e) q
    | none => dsimp only at e; rw [e1] at e; exact h' Z A pins s σ H st x y v u dx dy d Q I S hA rx ry vx vy e q
noncomputable def f2 (g:G2) (Fa Fb:FE):FE:=fun δ s => (Fa δ s).bind fun p => (Fb δ p.2).bind fun q => (g p.1 q.1).map fun d => (d,q.2)
theorem two {g:G2} {f:Value→Value→Sem Value} (ho:DOp X f g) (ha:DW X a Fa) (hb:DW X b Fb) {Z:Zt} {A:List Addr} {pins:List (Addr × Obj)} {s:Shared} {σ:L2.St} {H:Hp} {Q:VK} (I:Inv X pins σ H s) (h:tD X Z A (f2 g Fa Fb) σ H Q) :
    wpAny (model X.prog X.w) X.A (eval a X.env) (fun v s₁ => wpAny (model X.prog X.w) X.A (eval b X.env) (fun u s₂ => wpAny (model X.prog X.w) X.A (f v u) (EP X pins σ Q) X.xe s₂) X.xe s₁) X.xe s:=by
  obtain ⟨B,ow,δ,st,d,st',R,S,e,q⟩:=h
  unfold f2 at e
  first | refine bnd2 e fun dx s1 e1 e => ?_ | refine mpp2 e fun dx s1 e1 e => ?_
  replace e:((Fb δ s1).bind fun q => (g dx q.1).map fun d => (d,q.2)) = some (d,st'):=e
  first | refine bnd2 e fun dy s2 e2 e => ?_ | refine mpp2 e fun dy s2 e2 e => ?_
  replace e:((g dx dy).map fun d => (d,s2)) = some (d,st'):=e
  cases e3:g dx dy with
  | none => rw [e3] at e; cases e
  | some d' =>
    rw [e3] at e
    cases e
    refine thn (ha Z A pins s σ H (fun x H1 => Ext Z H H1∧StateAt Z H1 s1∧RepW X.K Z H1 (A ++ ow.map (·.2)) x dx) I ⟨B,ow,δ,st,dx,s1,R,S,e1,fun v H' a b c => ⟨a,b,c⟩⟩) fun v s1' x__88 => ?_
    obtain ⟨x,H1,I1,r1,x1,S1,q1⟩:=x__88
    refine thn (hb Z A pins s1' σ H1 (fun y H2 => Ext Z H1 H2∧StateAt Z H2 st'∧RepW X.K Z H2 (A ++ ow.map (·.2)) y dy) I1 ⟨B,ow,δ,s1,dy,st',R.mono x1,S1,e2,fun v H' a b c => ⟨a,b,c⟩⟩) fun u s2' x__89 => ?_
    obtain ⟨y,H2,I2,r2,x2,S2,q2⟩:=x__89
    exact ho Z _ pins s2' σ H2 st' x y v u dx dy d Q I2 S2 ((R.mono x1).mono x2).all (q1.ext x2) q2 r1 r2 e3 fun v' H' a b c => q v' H' ((x1.trans x2).trans a) b c
theorem de_op {op:Operator} {g:G2} (ho:DOp X (binaryOp op) g) (ha:DW X a Fa) (hb:DW X b Fb):DE X (.BinOp a op b pos) (f2 g Fa Fb):=⟨fun _ _ _ _ _ _ _ I h => wpAny_BinOp (two ho ha hb I h)⟩
theorem de_cmp {op:CmpOp} {g:G2} (ho:DOp X (compareOp op) g) (ha:DW X a Fa) (hb:DW X b Fb) (hm:behindInMarks op b = false):DE X (.Compare a [op] [b] pos) (f2 g Fa Fb):=⟨fun _ _ _ _ _ _ _ I h => wpAny_Compare1 (two ho ha hb I h) hm⟩
noncomputable def asB (F:FE):FT:=fun δ s => (F δ s).bind fun p => match p.1 with | .bool b => some (b,p.2) | _ => none
theorem asB_of {Z:Zt} {A:List Addr} {F:FE} {σ:L2.St} {H:Hp} {Q:Bool→Hp→Prop} (h:tDT X Z A (asB F) σ H Q):tD X Z A F σ H fun x H' => ∃ k,x = .bl k∧Q k H':=by
  obtain ⟨B,ow,δ,st,b,st',R,S,e,q⟩:=h
  unfold asB at e
  first | refine bnd2 e fun d s1 e1 e => ?_ | refine mpp2 e fun d s1 e1 e => ?_
  cases d <;> first | (cases e; done) | skip
  cases e
  exact ⟨B,ow,δ,st,_,_,R,S,e1,fun v H' a b c => by cases c; exact ⟨_,rfl,q H' a b⟩⟩
theorem dt_cmp {op:CmpOp} {g:G2} (ho:DOp X (compareOp op) g) (ha:DW X a Fa) (hb:DW X b Fb) (hm:behindInMarks op b = false):DT X (.Compare a [op] [b] pos) (asB (f2 g Fa Fb)):=⟨fun Z A pins s σ H Q I h => by
  refine wpAny_isTrue_Compare1 (thn (two ho ha hb I (asB_of h)) fun v s1 h1 => thn h1 fun u s2 h2 => thn h2 fun cv s3 x__90 => ?_) hm
  obtain ⟨x,H1,I1,r1,k,e,q1⟩:=x__90
  subst e
  cases r1
  exact wpAny_truthy_bool ⟨H1,I1,q1⟩⟩
noncomputable def gI (C:Int→Int→Bool) (f:Int→Int→D):G2:=fun a b => match a,b with | .int i,.int j => if C i j then some (f i j) else none | _,_ => none
theorem dop_int {f:Value→Value→Sem Value} {C:Int→Int→Prop} {Cb:Int→Int→Bool} {gv:Int→Int→V} {gd:Int→Int→D} (h:OpR X f (rI C gv)) (hC:∀ i j,Cb i j = true→C i j) (hg:∀ i j K Z H A,Rep K Z H A (gv i j) (gd i j)):DOp X f (gI Cb gd) :=
  DOp.of h fun Z A H st x y dx dy d Q S hA rx ry e q => by
    unfold gI at e
    split at e
    · have ex:=rx.int
      have ey:=ry.int
      subst ex ey
      split at e
      · rename_i i j hc
        cases e
        exact ⟨i,j,rfl,rfl,hC i j hc,q _ H (Ext.refl H) S (hg i j _ _ _ _)⟩
      · cases e
    · cases e
theorem rI0_of {g:Int→Int→V} {f:Value→Value→Sem Value} (h:OpR X f (rI0 g)):OpR X f (rI (fun _ _ => True) g):=fun pins s σ H x y v u Q I rx ry x__91 => (by obtain ⟨i,j,e1,e2,_,q⟩:=x__91; exact h pins s σ H x y v u Q I rx ry ⟨i,j,e1,e2,q⟩)
noncomputable def gAddI:G2:=gI (fun _ _ => true) fun i j => .int (i + j)
noncomputable def gSubI:G2:=gI (fun _ _ => true) fun i j => .int (i - j)
noncomputable def mulOk (i j:Int):Bool:=decide (Builtin.Int.intBits i + Builtin.Int.intBits j ≤ 134217728)
noncomputable def divOk (_ j:Int):Bool:=decide (j ≠ 0) && decide (j.natAbs.log2 < 9000)
theorem dadd_int:DOp X (binaryOp .Add) gAddI:=dop_int (rI0_of op_add) (fun _ _ _ => trivial) fun i j _ _ _ _ => .int _
theorem dsub_int:DOp X (binaryOp .Sub) gSubI:=dop_int (rI0_of op_sub) (fun _ _ _ => trivial) fun i j _ _ _ _ => .int _
noncomputable def gLt:G2:=gI (fun _ _ => true) fun i j => .bool (decide (i < j))
noncomputable def gLe:G2:=gI (fun _ _ => true) fun i j => .bool (decide (i ≤ j))
noncomputable def gGt:G2:=gI (fun _ _ => true) fun i j => .bool (decide (j < i))
noncomputable def gGe:G2:=gI (fun _ _ => true) fun i j => .bool (decide (j ≤ i))
theorem dlt:DOp X (compareOp .Lt) gLt:=dop_int (rI0_of op_lt) (fun _ _ _ => trivial) fun i j _ _ _ _ => .bl _
theorem dle:DOp X (compareOp .LtE) gLe:=dop_int (rI0_of op_le) (fun _ _ _ => trivial) fun i j _ _ _ _ => .bl _
theorem dgt:DOp X (compareOp .Gt) gGt:=dop_int (rI0_of op_gt) (fun _ _ _ => trivial) fun i j _ _ _ _ => .bl _
theorem dge:DOp X (compareOp .GtE) gGe:=dop_int (rI0_of op_ge) (fun _ _ _ => trivial) fun i j _ _ _ _ => .bl _
end
end L3

namespace L3
open PySem L2 PySem.Spec PyProof.Rows

section
variable {X:Cx} {a b c e:Expr} {es:List Expr} {Fa Fb Fc F:FE} {Ga Gb:FT} {FL:FA} {pos:Pos}
theorem mulOk_ok {i j:Int} (h:mulOk i j = true):IntMulOk i j:=mulOk_of_bits (Nat.le_refl _) (Nat.le_refl _) (of_decide_eq_true h)
theorem op_mulB:OpR X (binaryOp .Mult) (rI (fun i j => mulOk i j = true) fun i j => .int (i * j)):=opI fun _ _ _ _ _ _ _ hc q => mul_int q (mulOk_ok hc)
theorem op_fdivB:OpR X (binaryOp .FloorDiv) (rI (fun i j => divOk i j = true) fun i j => .int (i.fdiv j)):=opI fun _ _ _ _ _ _ _ hc q => by
  have hc':(decide _ && decide _) = true:=hc
  rw [Bool.and_eq_true] at hc'
  exact floordiv_int (of_decide_eq_true hc'.1) q (.inl (PyProof.noPylong_of_log2 (of_decide_eq_true hc'.2)))
noncomputable def gMulI:G2:=gI mulOk fun i j => .int (i * j)
noncomputable def gDivI:G2:=gI divOk fun i j => .int (i.fdiv j)
noncomputable def gModI:G2:=gI (fun _ j => decide (j ≠ 0)) fun i j => .int (i.fmod j)
theorem dmul_int:DOp X (binaryOp .Mult) gMulI:=dop_int op_mulB (fun _ _ h => h) fun i j _ _ _ _ => .int _
theorem ddiv_int:DOp X (binaryOp .FloorDiv) gDivI:=dop_int op_fdivB (fun _ _ h => h) fun i j _ _ _ _ => .int _
theorem dmod_int:DOp X (binaryOp .Mod) gModI:=dop_int op_modN (fun _ _ h => of_decide_eq_true h) fun i j _ _ _ _ => .int _
noncomputable abbrev G1:=D→Option D
noncomputable def f1 (g:G1) (Fa:FE):FE:=fun δ s => (Fa δ s).bind fun p => (g p.1).map fun d => (d,p.2)
noncomputable def gNeg:G1:=fun d => match d with | .int i => some (.int (-i)) | _ => none
theorem de_neg (ha:DW X a Fa):DE X (.UnaryOp .USub a pos) (f1 gNeg Fa):=⟨fun Z A => PE.imp (pe_un un_neg (ha Z A)) fun σ H Q x__92 => by
  obtain ⟨B,ow,δ,s,d,s',R,S,e,q⟩:=x__92
  unfold f1 at e
  first | refine bnd2 e fun dx s1 e1 e => ?_ | refine mpp2 e fun dx s1 e1 e => ?_
  cases dx <;> first | (cases e; done) | skip
  cases e
  exact ⟨B,ow,δ,s,_,_,R,S,e1,fun v H' x1 S1 r => ⟨_,r.int,q _ H' x1 S1 (.int _)⟩⟩⟩
noncomputable def tAndF (Ga Gb:FT):FT:=fun δ s => (Ga δ s).bind fun p => if p.1 = true then Gb δ p.2 else some (false,p.2)
noncomputable def tOrF (Ga Gb:FT):FT:=fun δ s => (Ga δ s).bind fun p => if p.1 = true then some (true,p.2) else Gb δ p.2
noncomputable def tNotF (Ga:FT):FT:=fun δ s => (Ga δ s).map fun p => (!p.1,p.2)
structure DTW (X:Cx) (e:Expr) (F:FT):Prop where
  go:∀ Z A,PW X e (tDT X Z A F)
instance {X:Cx} {e:Expr} {F:FT}:CoeFun (DTW X e F) (fun _ => ∀ Z A,PW X e (tDT X Z A F)):=⟨fun h => h.go⟩
theorem DTW.t (h:DTW X e Ga):DT X e Ga:=⟨fun Z A => (h Z A).pt⟩
theorem dw_and1 (ha:DT X a Ga):DTW X (.BoolOp .And [a] pos) Ga:=⟨fun Z A => pw_and1 (ha Z A)⟩
theorem dw_or1 (ha:DT X a Ga):DTW X (.BoolOp .Or [a] pos) Ga:=⟨fun Z A => pw_or1 (ha Z A)⟩
theorem PW.imp {t t':TT} (h:PW X e t) (hi:∀ σ H Q,t' σ H Q→t σ H Q):PW X e t':=fun wh pins s σ H Q I q => h wh pins s σ H Q I (hi σ H Q q)
theorem dw_and (ha:DT X a Ga) (hb:DTW X (.BoolOp .And (b :: es) pos) Gb):DTW X (.BoolOp .And (a :: b :: es) pos) (tAndF Ga Gb):=⟨fun Z A => PW.imp (pw_and (ha Z A) (hb Z A)) fun σ H Q x__93 => by
  obtain ⟨B,ow,δ,s,d,s',R,S,e,q⟩:=x__93
  unfold tAndF at e
  first | refine bnd2 e fun k s1 e1 e => ?_ | refine mpp2 e fun k s1 e1 e => ?_
  refine ⟨B,ow,δ,s,k,s1,R,S,e1,fun H1 x1 S1 => ?_⟩
  cases k with
  | true => exact iteT ⟨B,ow,δ,s1,d,s',R.mono x1,S1,e,fun H2 x2 S2 => q H2 (x1.trans x2) S2⟩
  | false => cases e; exact iteF (q H1 x1 S1)⟩
theorem dw_or (ha:DT X a Ga) (hb:DTW X (.BoolOp .Or (b :: es) pos) Gb):DTW X (.BoolOp .Or (a :: b :: es) pos) (tOrF Ga Gb):=⟨fun Z A => PW.imp (pw_or (ha Z A) (hb Z A)) fun σ H Q x__94 => by
  obtain ⟨B,ow,δ,s,d,s',R,S,e,q⟩:=x__94
  unfold tOrF at e
  first | refine bnd2 e fun k s1 e1 e => ?_ | refine mpp2 e fun k s1 e1 e => ?_
  refine ⟨B,ow,δ,s,k,s1,R,S,e1,fun H1 x1 S1 => ?_⟩
  cases k with
  | true => cases e; exact iteT (q H1 x1 S1)
  | false => exact iteF ⟨B,ow,δ,s1,d,s',R.mono x1,S1,e,fun H2 x2 S2 => q H2 (x1.trans x2) S2⟩⟩
theorem dt_not (ha:DT X a Ga):DT X (.UnaryOp .Not a pos) (tNotF Ga):=⟨fun Z A => PT.imp (pt_not (ha Z A)) fun σ H Q x__95 => by
  obtain ⟨B,ow,δ,s,d,s',R,S,e,q⟩:=x__95
  unfold tNotF at e
  first | refine bnd1 e fun p e1 e => ?_ | refine mpp1 e fun p e1 e => ?_
  cases e
  exact ⟨B,ow,δ,s,_,_,R,S,e1,fun H1 x1 S1 => q H1 x1 S1⟩⟩
noncomputable def eAnd (Fa Fb:FE):FE:=fun δ s => (Fa δ s).bind fun p => match p.1 with | .bool true => Fb δ p.2 | .bool false => some (.bool false,p.2) | _ => none
noncomputable def eOr (Fa Fb:FE):FE:=fun δ s => (Fa δ s).bind fun p => match p.1 with | .bool false => Fb δ p.2 | .bool true => some (.bool true,p.2) | _ => none
theorem de_one {op} (ha:DE X a Fa):DE X (.BoolOp op [a] pos) Fa:=⟨fun Z A => pe_one (ha Z A)⟩
theorem de_and (ha:DE X a Fa) (hb:DE X (.BoolOp .And (b :: es) pos) Fb):DE X (.BoolOp .And (a :: b :: es) pos) (eAnd Fa Fb):=⟨fun Z A => PE.imp (pe_and (ha Z A) (hb Z A)) fun σ H Q x__96 => by
  obtain ⟨B,ow,δ,s,d,s',R,S,e,q⟩:=x__96
  unfold eAnd at e
  first | refine bnd2 e fun dx s1 e1 e => ?_ | refine mpp2 e fun dx s1 e1 e => ?_
  cases dx with
  | bool k =>
    refine ⟨B,ow,δ,s,_,s1,R,S,e1,fun v H1 x1 S1 r => ?_⟩
    cases r
    refine ⟨k,rfl,?_⟩
    cases k with
    | true => exact iteT ⟨B,ow,δ,s1,d,s',R.mono x1,S1,e,fun v H2 x2 S2 r => q v H2 (x1.trans x2) S2 r⟩
    | false => cases e; exact iteF (q _ H1 x1 S1 (.bl _))
  | _ => cases e⟩
theorem de_or (ha:DE X a Fa) (hb:DE X (.BoolOp .Or (b :: es) pos) Fb):DE X (.BoolOp .Or (a :: b :: es) pos) (eOr Fa Fb):=⟨fun Z A => PE.imp (pe_or (ha Z A) (hb Z A)) fun σ H Q x__97 => by
  obtain ⟨B,ow,δ,s,d,s',R,S,e,q⟩:=x__97
  unfold eOr at e
  first | refine bnd2 e fun dx s1 e1 e => ?_ | refine mpp2 e fun dx s1 e1 e => ?_
  cases dx with
  | bool k =>
    refine ⟨B,ow,δ,s,_,s1,R,S,e1,fun v H1 x1 S1 r => ?_⟩
    cases r
    refine ⟨k,rfl,?_⟩
    cases k with
    | true => cases e; exact iteT (q _ H1 x1 S1 (.bl _))
    | false => exact iteF ⟨B,ow,δ,s1,d,s',R.mono x1,S1,e,fun v H2 x2 S2 r => q v H2 (x1.trans x2) S2 r⟩
  | _ => cases e⟩
noncomputable def gNot:G1:=fun d => match d with | .bool k => some (.bool (!k)) | _ => none
theorem de_not (ha:DE X a Fa):DE X (.UnaryOp .Not a pos) (f1 gNot Fa):=⟨fun Z A => PE.imp (pe_not (ha Z A)) fun σ H Q x__98 => by
  obtain ⟨B,ow,δ,s,d,s',R,S,e,q⟩:=x__98
  unfold f1 at e
  first | refine bnd2 e fun dx s1 e1 e => ?_ | refine mpp2 e fun dx s1 e1 e => ?_
  cases dx with
  | bool k => cases e; exact ⟨B,ow,δ,s,_,_,R,S,e1,fun v H' x1 S1 r => by cases r; exact ⟨_,rfl,q _ H' x1 S1 (.bl _)⟩⟩
  | _ => cases e⟩
noncomputable def aNil:FA:=fun _ s => some ([],s)
noncomputable def aCons (Fa:FE) (FL:FA):FA:=fun δ s => (Fa δ s).bind fun p => (FL δ p.2).map fun q => (p.1 :: q.1,q.2)
theorem da_nil:DA X [] aNil:=⟨fun Z A => PA.imp pa_nil fun σ H Q x__99 => by
  obtain ⟨B,ow,δ,s,d,s',R,S,e,q⟩:=x__99
  cases e
  exact q [] H (Ext.refl H) S .nil⟩
theorem da_cons (ha:DE X e Fa) (hr:DA X es FL) (hs:starEach (e :: es) X.env = (false,eval e X.env) :: starEach es X.env:=by rfl):DA X (e :: es) (aCons Fa FL):=⟨fun Z A => PA.imp (pa_cons (ha Z A) (hr Z A) hs) fun σ H Q x__100 => by
  obtain ⟨B,ow,δ,s,d,s',R,S,e,q⟩:=x__100
  unfold aCons at e
  first | refine bnd2 e fun dx s1 e1 e => ?_ | refine mpp2 e fun dx s1 e1 e => ?_
  replace e:((FL δ s1).map fun q => (dx :: q.1,q.2)) = some (d,s'):=e
  first | refine bnd1 e fun p2 e2 e => ?_ | refine mpp1 e fun p2 e2 e => ?_
  cases e
  exact ⟨B,ow,δ,s,dx,s1,R,S,e1,fun v H1 x1 S1 r => ⟨B,ow,δ,s1,p2.1,p2.2,R.mono x1,S1,e2,fun vs H2 x2 S2 rs => q _ H2 (x1.trans x2) S2 (.cons (r.ext x2) rs)⟩⟩⟩
noncomputable def small (ds:List D):Bool:=decide (ds.length ≤ sizeLine)
noncomputable def eTup (FL:FA):FE:=fun δ s => (FL δ s).bind fun p => if small p.1 = true then some (.tuple p.1,p.2) else none
noncomputable def eLst (FL:FA):FE:=fun δ s => (FL δ s).bind fun p => if small p.1 = true then some (.list p.1,p.2) else none
theorem de_tup {x1} (h:DA X es FL):DE X (.Tuple es x1 pos) (eTup FL):=⟨fun Z A => PE.imp (pe_tup (h Z A)) fun σ H Q x__101 => by
  obtain ⟨B,ow,δ,s,d,s',R,S,e,q⟩:=x__101
  unfold eTup at e
  first | refine bnd1 e fun p e1 e => ?_ | refine mpp1 e fun p e1 e => ?_
  replace e:(if small p.1 = true then some (PyData.tuple p.1,p.2) else none) = some (d,s'):=e
  split at e
  · rename_i hs
    cases e
    refine ⟨B,ow,δ,s,_,_,R,S,e1,fun vs H1 x1 S1 rs => ⟨?_,fun p hp => q _ _ (x1.trans (Ext.upd hp)) (S1.upd hp) (.tup upd_same (fresh_not (R.mono x1).all hp) (S1.notZ hp) (rs.ext (Ext.upd hp)))⟩⟩
    rw [rs.length]; exact of_decide_eq_true hs
  · cases e⟩
theorem de_lst (h:DA X es FL):DE X (.List es pos) (eLst FL):=⟨fun Z A => PE.imp (pe_lst (h Z A)) fun σ H Q x__102 => by
  obtain ⟨B,ow,δ,s,d,s',R,S,e,q⟩:=x__102
  unfold eLst at e
  first | refine bnd1 e fun p e1 e => ?_ | refine mpp1 e fun p e1 e => ?_
  replace e:(if small p.1 = true then some (PyData.list p.1,p.2) else none) = some (d,s'):=e
  split at e
  · rename_i hs
    cases e
    refine ⟨B,ow,δ,s,_,_,R,S,e1,fun vs H1 x1 S1 rs => ⟨?_,fun p hp => q _ _ (x1.trans (Ext.upd hp)) (S1.upd hp) (.lst upd_same (fresh_not (R.mono x1).all hp) (S1.notZ hp) (rs.ext (Ext.upd hp)))⟩⟩
    rw [rs.length]; exact of_decide_eq_true hs
  · cases e⟩
noncomputable def gIx:G2:=fun a b => match a,b with | .list xs,.int i => atI xs i | .tuple xs,.int i => atI xs i | _,_ => none
theorem Reps.atI {K:PySem.W.Frag} {Z:Zt} {H:Hp} {A:List Addr} {vs:List V} {ds:List D} {i:Int} {d:D} (r:Reps K Z H A vs ds) (e:L2.atI ds i = some d):∃ v,L2.atI vs i = some v∧Rep K Z H A v d:=by
  unfold L2.atI at e ⊢
  rw [r.length]
  cases e1:ixN ds.length i with
  | none => rw [e1] at e; cases e
  | some j =>
    rw [e1] at e
    obtain ⟨v,h1,h2⟩:=r.get (i:=j) (d:=d) e
    exact ⟨v,h1,h2⟩
theorem de_ix (ha:DW X a Fa) (hb:DW X b Fb) (hs:PlainIx b):DE X (.Subscript a b pos) (f2 gIx Fa Fb):=⟨fun Z A => PE.imp (pe_ix (ix_list.or ix_tup) (ha Z A) (hb Z A) hs) fun σ H Q x__103 => by
  obtain ⟨B,ow,δ,s,d,s',R,S,e,q⟩:=x__103
  unfold f2 at e
  first | refine bnd2 e fun dx s1 e1 e => ?_ | refine mpp2 e fun dx s1 e1 e => ?_
  replace e:((Fb δ s1).bind fun q => (gIx dx q.1).map fun d => (d,q.2)) = some (d,s'):=e
  first | refine bnd2 e fun dy s2 e2 e => ?_ | refine mpp2 e fun dy s2 e2 e => ?_
  replace e:((gIx dx dy).map fun d => (d,s2)) = some (d,s'):=e
  cases e3:gIx dx dy with
  | none => rw [e3] at e; cases e
  | some d' =>
    rw [e3] at e
    cases e
    refine ⟨B,ow,δ,s,dx,s1,R,S,e1,fun v H1 x1 S1 r1 => ⟨B,ow,δ,s1,dy,s',R.mono x1,S1,e2,fun u H2 x2 S2 r2 => ?_⟩⟩
    unfold gIx at e3
    split at e3
    · rename_i xs i
      have eu:=r2.int
      obtain ⟨p,vs,ev,sq,_,rs⟩:=(r1.ext x2).list
      obtain ⟨w',h1,h2⟩:=Reps.atI rs e3
      exact .inl ⟨p,vs,i,w',ev,eu,sq,h1,q w' H2 (x1.trans x2) S2 h2⟩
    · rename_i xs i
      have eu:=r2.int
      obtain ⟨p,vs,ev,sq,rs⟩:=(r1.ext x2).tuple
      obtain ⟨w',h1,h2⟩:=Reps.atI rs e3
      exact .inr ⟨p,vs,i,w',ev,eu,sq,h1,q w' H2 (x1.trans x2) S2 h2⟩
    · cases e3⟩
theorem Reps.reads {K:PySem.W.Frag} {pins:List (Addr × Obj)} {σ:L2.St} {H:Hp} {s:Shared} (hK:X.K = K) (I:Inv X pins σ H s) {Z:Zt} {A:List Addr} {vs:List V} {ds:List D} (x:Reps K Z H A vs ds):PyData.canLayAll0 ds = true→∀ us,Vals vs us→∃ as,ReadsAll s.heap us ds as :=
  Reps.rec (motive_1:=fun v d _ => d.canLay0 = true→∀ u,RelV v u→∃ as,Reads s.heap u d as) (motive_2:=fun vs ds _ => PyData.canLayAll0 ds = true→∀ us,Vals vs us→∃ as,ReadsAll s.heap us ds as)
    (fun _ _ r => by cases r; exact ⟨_,.none⟩) (fun b _ _ r => by cases r; exact ⟨_,.bool b⟩) (fun i _ _ r => by obtain ⟨t,rfl⟩:=r; exact ⟨_,.int i t⟩) (fun x _ _ r => by obtain ⟨t,rfl⟩:=r; exact ⟨_,.str x t⟩)
    (fun h n z _ ih c u r => by
      cases r
      obtain ⟨its,rv,⟨o,e1,e2,m,e3⟩,_⟩:=I.tuple (.of h)
      obtain ⟨as,q⟩:=ih c _ rv
      exact ⟨as,.tuple e1 e2 e3 q⟩)
    (fun h n z _ ih c u r => by
      cases r
      obtain ⟨its,rv,p,_⟩:=I.list (.of h)
      obtain ⟨o,e1,e2,m,e3⟩:=p.isList
      obtain ⟨as,q⟩:=ih c _ rv
      exact ⟨_,.list e1 e2 e3 q⟩)
    (fun h _ ih c u r => by
      cases r
      obtain ⟨its,rv,⟨o,e1,e2,m,e3⟩,_⟩:=I.tuple (.inr (hK.symm ▸ h))
      obtain ⟨as,q⟩:=ih c _ rv
      exact ⟨as,.tuple e1 e2 e3 q⟩)
    (fun _ c _ _ => absurd c Bool.false_ne_true) (fun _ _ _ _ _ _ c _ _ => absurd c Bool.false_ne_true)
    (fun _ _ r => by cases r; exact ⟨_,.nil⟩)
    (fun _ _ h1 h2 c us r => by
      cases r with
      | cons q w =>
        obtain ⟨as,g1⟩:=h1 ((Bool.and_eq_true _ _).mp c).1 _ q
        obtain ⟨bs,g2⟩:=h2 ((Bool.and_eq_true _ _).mp c).2 _ w
        exact ⟨_,.cons g1 g2⟩) x
theorem Rep.reads {K:PySem.W.Frag} {pins:List (Addr × Obj)} {σ:L2.St} {H:Hp} {s:Shared} (hK:X.K = K) (I:Inv X pins σ H s) {Z:Zt} {A:List Addr} {v:V} {d:D} {u:Value} (x:Rep K Z H A v d) (c:d.canLay0 = true) (r:RelV v u):∃ as,Reads s.heap u d as:=by
  obtain ⟨as,h⟩:=Reps.reads hK I (.cons x .nil) (by rw [PyData.canLayAll0,c]; rfl) [u] (.cons r .nil)
  cases h with
  | cons h _ => exact ⟨_,h⟩
theorem RepW.reads {pins:List (Addr × Obj)} {σ:L2.St} {H:Hp} {s:Shared} (I:Inv X pins σ H s) {Z:Zt} {A:List Addr} {v:V} {d:D} {u:Value} (r:RepW X.K Z H A v d) (c:d.canLay0 = true) (ru:RelV v u):∃ as,Reads s.heap u d as:=by
  rcases r with r | ⟨p,vs,ds,rfl,rfl,e3,e4,e5⟩
  · exact r.reads rfl I c ru
  · cases ru
    obtain ⟨its,rv,pl,_⟩:=I.list (SqL.of e3)
    obtain ⟨o,e1,e2,m,e3⟩:=pl.isList
    obtain ⟨as,q⟩:=Reps.reads rfl I e5 (by simpa [PyData.canLay0] using c) _ rv
    exact ⟨_,.list e1 e2 e3 (by simpa using q)⟩
noncomputable def gEq:G2:=fun a b => if (SeqAt.shaped a && SeqAt.shaped b) = true then some (.bool (PyData.eqv a b)) else none
noncomputable def gNe:G2:=fun a b => if (SeqAt.shaped a && SeqAt.shaped b) = true then some (.bool (!PyData.eqv a b)) else none
theorem deq (hu:X.A.units + 64 < cLine):DOp X (compareOp .Eq) gEq:=fun Z A pins s σ H st x y v u dx dy d Q I S hA rx ry vx vy e q => by
  unfold gEq at e
  split at e
  · rename_i hc
    cases e
    rw [Bool.and_eq_true] at hc
    obtain ⟨as,h1⟩:=rx.reads I (SeqAt.canLay_of_shaped hc.1) vx
    obtain ⟨bs,h2⟩:=ry.reads I (SeqAt.canLay_of_shaped hc.2) vy
    exact eq_dataH h1 h2 hc.1 hc.2 hu ⟨.bl _,H,I,rfl,q _ H (Ext.refl H) S (.bl _)⟩
  · cases e
theorem dne (hu:X.A.units + 64 < cLine):DOp X (compareOp .NotEq) gNe:=fun Z A pins s σ H st x y v u dx dy d Q I S hA rx ry vx vy e q => by
  unfold gNe at e
  split at e
  · rename_i hc
    cases e
    rw [Bool.and_eq_true] at hc
    obtain ⟨as,h1⟩:=rx.reads I (SeqAt.canLay_of_shaped hc.1) vx
    obtain ⟨bs,h2⟩:=ry.reads I (SeqAt.canLay_of_shaped hc.2) vy
    exact ne_dataH h1 h2 hc.1 hc.2 hu ⟨.bl _,H,I,rfl,q _ H (Ext.refl H) S (.bl _)⟩
  · cases e
@[simp] def isNon:D→Option Bool
  | .none => some true
  | .bool _ | .int _ | .str _ | .list _ | .tuple _ => some false
  | _ => none
noncomputable def gIs:G2:=fun a b => match b with | .none => (isNon a).map .bool | .bool j => (match a with | .bool i => some (.bool (i == j)) | _ => none) | _ => none
theorem RepW.isNon {K:PySem.W.Frag} {Z:Zt} {H:Hp} {A:List Addr} {v:V} {d:D} {b:Bool} (r:RepW K Z H A v d) (e:isNon d = some b):decide (v = .non) = b:=by
  rcases r with r | ⟨p,vs,ds,e1,e2,e3,e4,e5⟩
  · cases r <;> cases e <;> rfl
  · subst e1 e2; cases e; rfl
theorem op_is_bl:OpR X (compareOp .Is) (fun x y H Q => ∃ i j,x = .bl i∧y = .bl j∧Q (.bl (i == j)) H):=fun pins s σ H x y v u Q I rx ry x__104 => by
  obtain ⟨i,j,e1,e2,q⟩:=x__104
  subst e1 e2; cases rx; cases ry
  exact is_bool ⟨.bl _,H,I,rfl,q⟩
theorem dis:DOp X (compareOp .Is) gIs:=DOp.of (op_is_bl.or op_isN) fun Z A H st x y dx dy d Q S hA rx ry e q => by
  unfold gIs at e
  split at e
  · refine mpp1 e fun b e1 e => ?_
    subst e
    exact .inr ⟨ry.none,by rw [RepW.isNon rx e1]; exact q _ H (Ext.refl H) S (.bl _)⟩
  · split at e
    · cases e
      exact .inl ⟨_,_,rx.bool,ry.bool,q _ H (Ext.refl H) S (.bl _)⟩
    · cases e
  · cases e
end
end L3

namespace L3
open PySem L2 PySem.Spec PyProof.Rows
theorem lenS {α:Type} {us:List α} {n:Nat} (h:us.length = n + 1):∃ a t,us = a :: t∧t.length = n:=by
  cases us with
  | nil => cases h
  | cons a t => exact ⟨a,t,rfl,Nat.succ.inj h⟩
theorem len1 {α:Type} {us:List α} (h:us.length = 1):∃ a0,us = [a0]:=by
  obtain ⟨a,t,rfl,h2⟩:=lenS h
  cases List.eq_nil_of_length_eq_zero h2
  exact ⟨a,rfl⟩
theorem len2 {α:Type} {us:List α} (h:us.length = 2):∃ a0 a1,us = [a0,a1]:=by
  obtain ⟨a0,t,rfl,h2⟩:=lenS h
  obtain ⟨a1,rfl⟩:=len1 h2
  exact ⟨a0,a1,rfl⟩
theorem len3 {α:Type} {us:List α} (h:us.length = 3):∃ a0 a1 a2,us = [a0,a1,a2]:=by
  obtain ⟨a0,t,rfl,h2⟩:=lenS h
  obtain ⟨a1,a2,rfl⟩:=len2 h2
  exact ⟨a0,a1,a2,rfl⟩
inductive rD1 (K:PySem.W.Frag) (g:G1) (xs:List V) (H:Hp) (Q:VK):Prop
  | mk (Z:Zt) (A:List Addr) (st:Sx) (x:V) (dx:D) (d:D) (h0:xs = [x]) (h1:StateAt Z H st) (h2:(∀ q ∈ A,∃ o,H q = some o)) (h3:RepW K Z H A x dx) (h4:g dx = some d) (h5:∀ v' H',Ext Z H H'→StateAt Z H' st→Rep K Z H' A v' d→Q v' H')
inductive rD2 (K:PySem.W.Frag) (g:G2) (xs:List V) (H:Hp) (Q:VK):Prop
  | mk (Z:Zt) (A:List Addr) (st:Sx) (x:V) (y:V) (dx:D) (dy:D) (d:D) (h0:xs = [x,y]) (h1:StateAt Z H st) (h2:(∀ q ∈ A,∃ o,H q = some o)) (h3:RepW K Z H A x dx) (h4:RepW K Z H A y dy) (h5:g dx dy = some d) (h6:∀ v' H',Ext Z H H'→StateAt Z H' st→Rep K Z H' A v' d→Q v' H')
section
variable {X:Cx} {e e2:Expr} {es:List Expr} {Fa Fb:FE} {FL:FA} {x:Str} {id T:String} {p pos:Pos} {g:G1} {g2:G2}
theorem CallR.imp {f:Value} {r r':List V→Hp→VK→Prop} (h:CallR X f r) (hi:∀ xs H Q,r' xs H Q→r xs H Q):CallR X f r':=fun pins s σ H xs us Q I rv q => h pins s σ H xs us Q I rv (hi xs H Q q)
theorem read1 {Z:Zt} {A:List Addr} {σ:L2.St} {H:Hp} {Q:VK} (h:tD X Z A (f1 g Fa) σ H Q):tDW X Z A Fa σ H fun x H1 => tNil σ H1 fun xs H2 => rD1 X.K g (x :: xs) H2 Q:=by
  obtain ⟨B,ow,δ,s,d,s',R,S,e,q⟩:=h
  unfold f1 at e
  first | refine bnd2 e fun dx s1 e1 e => ?_ | refine mpp2 e fun dx s1 e1 e => ?_
  replace e:((g dx).map fun d => (d,s1)) = some (d,s'):=e
  cases e3:g dx with
  | none => rw [e3] at e; cases e
  | some d' =>
    rw [e3] at e
    cases e
    exact ⟨B,ow,δ,s,dx,s',R,S,e1,fun v H1 x1 S1 r1 => ⟨Z,_,s',v,dx,d,rfl,S1,(R.mono x1).all,r1,e3,fun v' H' a b c => q v' H' (x1.trans a) b c⟩⟩
theorem read2 {Z:Zt} {A:List Addr} {σ:L2.St} {H:Hp} {Q:VK} (h:tD X Z A (f2 g2 Fa Fb) σ H Q):tDW X Z A Fa σ H fun x H1 => tDW X Z A Fb σ H1 fun y H2 => tNil σ H2 fun xs H3 => rD2 X.K g2 (x :: y :: xs) H3 Q:=by
  obtain ⟨B,ow,δ,s,d,s',R,S,e,q⟩:=h
  unfold f2 at e
  first | refine bnd2 e fun dx s1 e1 e => ?_ | refine mpp2 e fun dx s1 e1 e => ?_
  replace e:((Fb δ s1).bind fun q => (g2 dx q.1).map fun d => (d,q.2)) = some (d,s'):=e
  first | refine bnd2 e fun dy s2 e2 e => ?_ | refine mpp2 e fun dy s2 e2 e => ?_
  replace e:((g2 dx dy).map fun d => (d,s2)) = some (d,s'):=e
  cases e3:g2 dx dy with
  | none => rw [e3] at e; cases e
  | some d' =>
    rw [e3] at e
    cases e
    exact ⟨B,ow,δ,s,dx,s1,R,S,e1,fun v H1 x1 S1 r1 => ⟨B,ow,δ,s1,dy,s',R.mono x1,S1,e2,fun u H2 x2 S2 r2 => ⟨Z,_,s',v,u,dx,dy,d,rfl,S2,((R.mono x1).mono x2).all,r1.ext x2,r2,e3,fun v' H' a b c => q v' H' ((x1.trans x2).trans a) b c⟩⟩⟩
theorem de_b1 (hc:CallR X (.builtin id) (rD1 X.K g)) (hv:bootBuiltins x = some (.builtin id)) (hm:X.mg x = none) (ha:DW X e Fa) (hg:Gl X x:=by rfl) (hn:x ≠ "__name__":=by decide) (hdb:(x == ("__debug__":Str)) = false:=by decide)
    (hs:starEach [e] X.env = (false,eval e X.env) :: starEach [] X.env:=by rfl):DE X (.Call (.Name x p) [e] [] pos) (f1 g Fa):=⟨fun Z A => PE.imp (pe_callB hc hg hm hv (pa_cons (ha Z A) pa_nil hs) hn hdb hs rfl) fun σ H Q q => read1 q⟩
theorem de_b2 (hc:CallR X (.builtin id) (rD2 X.K g2)) (hv:bootBuiltins x = some (.builtin id)) (hm:X.mg x = none) (ha:DW X e Fa) (hb:DW X e2 Fb) (hg:Gl X x:=by rfl) (hn:x ≠ "__name__":=by decide) (hdb:(x == ("__debug__":Str)) = false:=by decide)
    (hs:starEach [e,e2] X.env = (false,eval e X.env) :: starEach [e2] X.env:=by rfl) (hs2:starEach [e2] X.env = (false,eval e2 X.env) :: starEach [] X.env:=by rfl) (hpl:(backTo pos (starEach [e2] X.env)).any (·.1) = false:=by rfl):DE X (.Call (.Name x p) [e,e2] [] pos) (f2 g2 Fa Fb):=⟨fun Z A => PE.imp (pe_callB hc hg hm hv (pa_cons (ha Z A) (pa_cons (hb Z A) pa_nil hs2) hs) hn hdb hs hpl) fun σ H Q q => read2 q⟩
theorem de_t1 (hc:CallR X (.type T) (rD1 X.K g)) (hv:bootBuiltins x = some (.type T)) (hm:X.mg x = none) (ha:DW X e Fa) (hg:Gl X x:=by rfl) (hn:x ≠ "__name__":=by decide) (hdb:(x == ("__debug__":Str)) = false:=by decide)
    (hs:starEach [e] X.env = (false,eval e X.env) :: starEach [] X.env:=by rfl):DE X (.Call (.Name x p) [e] [] pos) (f1 g Fa):=⟨fun Z A => PE.imp (pe_callTy hc hg hm hv (pa_cons (ha Z A) pa_nil hs) hn hdb hs rfl) fun σ H Q q => read1 q⟩
noncomputable def gLen:G1:=fun d => match d with | .list xs => some (.int xs.length) | .tuple xs => some (.int xs.length) | _ => none
theorem dc_len:CallR X (.builtin "len") (rD1 X.K gLen):=CallR.imp call_len_seq fun xs H Q x__105 => by
  obtain ⟨Z,A,st,x,dx,d,e0,S,hA,rx,e,q⟩:=x__105
  subst e0
  cases dx with
  | list ds => cases e; obtain ⟨p,vs,ev,sq,_,rs⟩:=rx.list; exact ⟨p,vs,by rw [ev],.inl sq,by rw [rs.length]; exact q _ H (Ext.refl H) S (.int _)⟩
  | tuple ds => cases e; obtain ⟨p,vs,ev,sq,rs⟩:=rx.tuple; exact ⟨p,vs,by rw [ev],.inr sq,by rw [rs.length]; exact q _ H (Ext.refl H) S (.int _)⟩
  | _ => cases e
noncomputable def gInt:G1:=fun d => match d with | .int i => some (.int i) | .bool k => some (.int (if k then 1 else 0)) | _ => none
theorem dc_int:CallR X (.type "int") (rD1 X.K gInt):=CallR.imp call_int1 fun xs H Q x__106 => by
  obtain ⟨Z,A,st,x,dx,d,e0,S,hA,rx,e,q⟩:=x__106
  subst e0
  cases dx with
  | int i => cases e; exact .inl ⟨i,by rw [rx.int],q _ H (Ext.refl H) S (.int _)⟩
  | bool i => cases e; exact .inr ⟨i,by rw [rx.bool],q _ H (Ext.refl H) S (.int _)⟩
  | _ => cases e
noncomputable def gMax:G2:=gI (fun _ _ => true) fun i j => .int (if j > i then j else i)
theorem dc_max (hc:X.calm = true):CallR X (.builtin "max") (rD2 X.K gMax):=CallR.imp (call_max2 hc) fun xs H Q x__107 => by
  obtain ⟨Z,A,st,x,y,dx,dy,d,e0,S,hA,rx,ry,e,q⟩:=x__107
  subst e0
  unfold gMax gI at e
  split at e
  · cases e; exact ⟨_,_,by rw [rx.int,ry.int],q _ H (Ext.refl H) S (.int _)⟩
  · cases e
noncomputable def gTuple:G1:=fun d => match d with | .list xs => some (.tuple xs) | .tuple xs => some (.tuple xs) | _ => none
theorem dc_tuple:CallR X (.type "tuple") (rD1 X.K gTuple):=CallR.imp call_tuple_of fun xs H Q x__108 => by
  obtain ⟨Z,A,st,x,dx,d,e0,S,hA,rx,e,q⟩:=x__108
  subst e0
  cases dx with
  | list ds =>
    cases e; obtain ⟨p,vs,ev,sq,_,rs⟩:=rx.list
    exact ⟨p,vs,by rw [ev],.inl ⟨sq,fun l hl => q _ _ (Ext.upd hl) (S.upd hl) (.tup upd_same (fresh_not hA hl) (S.notZ hl) (rs.ext (Ext.upd hl)))⟩⟩
  | tuple ds =>
    cases e
    have rx':=rx
    obtain ⟨p,vs,ev,sq,rs⟩:=rx.tuple
    subst ev
    refine ⟨p,vs,rfl,.inr ⟨sq,q _ H (Ext.refl H) S ?_⟩⟩
    rcases rx' with r | ⟨_,_,_,_,e2,_⟩
    · exact r
    · cases e2
  | _ => cases e
noncomputable def gList:G1:=fun d => match d with | .list xs => some (.list xs) | .tuple xs => some (.list xs) | _ => none
theorem dc_list:CallR X (.type "list") (rD1 X.K gList):=CallR.imp call_list_of fun xs H Q x__109 => by
  obtain ⟨Z,A,st,x,dx,d,e0,S,hA,rx,e,q⟩:=x__109
  subst e0
  cases dx with
  | list ds =>
    cases e; obtain ⟨p,vs,ev,sq,_,rs⟩:=rx.list
    exact ⟨p,vs,by rw [ev],.inl sq,fun l hl => q _ _ (Ext.upd hl) (S.upd hl) (.lst upd_same (fresh_not hA hl) (S.notZ hl) (rs.ext (Ext.upd hl)))⟩
  | tuple ds =>
    cases e; obtain ⟨p,vs,ev,sq,rs⟩:=rx.tuple
    exact ⟨p,vs,by rw [ev],.inr sq,fun l hl => q _ _ (Ext.upd hl) (S.upd hl) (.lst upd_same (fresh_not hA hl) (S.notZ hl) (rs.ext (Ext.upd hl)))⟩
  | _ => cases e
noncomputable def bools:List D→Option (List Bool)
  | [] => some []
  | .bool k :: r => (bools r).map (k :: ·)
  | _ => none
noncomputable def gAll:G1:=fun d => match d with | .list xs => (bools xs).map fun ks => .bool (ks.all (fun b => b)) | _ => none
theorem bools_get:∀ {ds:List D} {ks:List Bool},bools ds = some ks→ds = ks.map PyData.bool
  | [],ks,e => by simp [bools] at e; subst e; rfl
  | d :: r,ks,e => by
    cases d with
    | bool k =>
      simp only [bools,Option.map_eq_some_iff] at e
      obtain ⟨ks',h1,rfl⟩:=e
      rw [bools_get h1]; rfl
    | _ => cases e
theorem range_all (ks:List Bool):(List.range ks.length).all (fun i => ks.getD i false) = ks.all (fun b => b):=by
  induction ks with
  | nil => rfl
  | cons k r ih =>
    rw [List.length_cons,List.range_succ_eq_map,List.all_cons,List.all_map,List.all_cons,← ih]
    congr 1
theorem dc_all (hc:X.calm = true):CallR X (.builtin "all") (rD1 X.K gAll):=fun pins s σ H xs us Q I rv x__110 => by
  obtain ⟨Z,A,st,x,dx,d,e0,S,hA,rx,e,q⟩:=x__110
  subst e0
  obtain ⟨u,rfl,ru⟩:=vals1 rv
  cases dx with
  | list ds =>
    replace e:((bools ds).map fun ks => PyData.bool (ks.all (fun b => b))) = some d:=e
    first | refine bnd1 e fun ks e1 e => ?_ | refine mpp1 e fun ks e1 e => ?_
    cases e
    have eds:=bools_get e1
    subst eds
    obtain ⟨p,vs,ev,sq,_,rs⟩:=rx.list
    subst ev
    cases (show u = Value.ref p from ru)
    obtain ⟨its,r2,pl,_⟩:=I.list sq
    have hl:=pl.isList
    have lens:its.length = ks.length:=by rw [← r2.length,rs.length,List.length_map]
    refine call_all_walk (wpAny_pyIter_list hl ?_)
    have lt:LT.lt (α:=Nat) p s.heap.objs.size:=by obtain ⟨_,e,_⟩:=hl; exact Heap.lt_size e
    refine ⟨_,_,_,_,_,_,fun i => ks.getD i false,rfl,Walks.list (A:=X.A.in1) (show X.A.in1.handled = none from I.ok.hd hc) s.heap.objs.size p (Nat.ne_of_lt lt) its.toArray,⟨⟨_,Heap.get?_push_size _ rfl,rfl,rfl⟩,hl.push _⟩,?_,fun h' tk kp => ?_⟩
    · intro i v s' Q' E' hP hQ
      have hi:its[i]? = some v:=by simpa using hP
      obtain ⟨vv,h1,h2⟩:∃ vv,vs[i]? = some vv∧RelV vv v:=by
        cases e3:vs[i]? with
        | none => rw [r2.none_of e3] at hi; cases hi
        | some vv => obtain ⟨u',h3,h4⟩:=r2.get e3; rw [h3] at hi; cases hi; exact ⟨vv,rfl,h4⟩
      obtain ⟨dd,h3,h4⟩:=rs.at h1
      rw [List.getElem?_map] at h3
      cases e4:ks[i]? with
      | none => rw [e4] at h3; cases h3
      | some k =>
        rw [e4] at h3
        cases h3
        cases h4
        cases h2
        refine wpAny_truthy_bool ?_
        have eg:ks.getD i false = k:=by simp [e4]
        have hQ2:Q' (ks.getD i false) s':=hQ
        rw [eg] at hQ2
        exact hQ2
    · have e5:(List.range its.toArray.size).all (fun i => ks.getD i false) = ks.all (fun b => b):=by rw [List.size_toArray,lens]; exact range_all ks
      rw [e5]
      refine ⟨.bl _,H,?_,rfl,q _ H (Ext.refl H) S (.bl _)⟩
      refine I.kept (h':=h') (t':=tk) fun b o eb => kp b o ?_ (Heap.get?_push_of_some _ eb)
      intro z
      have z':b = s.heap.objs.size:=by simpa using z
      rw [z'] at eb
      exact Nat.lt_irrefl _ (Heap.lt_size eb)
  | _ => cases e
noncomputable def tyN:D→Option String
  | .none => some "NoneType" | .bool _ => some "bool" | .int _ => some "int" | .str _ => some "str" | .list _ => some "list" | .tuple _ => some "tuple" | .dict _ => none
noncomputable def gInst (T:String):G1:=fun d => (tyN d).map fun t => .bool (t == T || (t == "bool" && T == "int"))
noncomputable def isTy (T:String):Bool:=T == "int" || T == "bool" || T == "str" || T == "list" || T == "tuple"
theorem kit_ty (K:PySem.W.Frag) {t T:String} (ht:t = "NoneType" ∨ t = "bool" ∨ t = "int" ∨ t = "str" ∨ t = "list" ∨ t = "tuple") (hT:isTy T = true):PySem.W.kitOne K (.type t) (.type T) = some (t == T || (t == "bool" && T == "int")):=by
  have hT':T = "int" ∨ T = "bool" ∨ T = "str" ∨ T = "list" ∨ T = "tuple":=by simpa [isTy,or_assoc] using hT
  rcases hT' with rfl | rfl | rfl | rfl | rfl <;> rcases ht with rfl | rfl | rfl | rfl | rfl | rfl <;> first | rfl | decide +kernel
theorem TypeIs.isinst {pins:List (Addr × Obj)} {σ:L2.St} {H:Hp} {s:Shared} {Z:Zt} {A:List Addr} {v:V} {d:D} {u:Value} {t:String} {Q:Value→Shared→Prop} (I:Inv X pins σ H s) (r:RepW X.K Z H A v d) (ru:RelV v u) (et:tyN d = some t) (hT:isTy T = true)
    (h:∀ tk,Q (.bool (t == T || (t == "bool" && T == "int"))) { s with toks:=tk }):wpAny (model X.prog X.w) X.A (call (.builtin "isinstance") [u,.type T]) Q X.xe s:=by
  cases d with
  | none => cases et; cases r.none; cases ru; exact PySem.W.kia_one PySem.W.kitx_none I.kIn True.intro (kit_ty X.K (by simp) hT) (fun z => nomatch z) h
  | bool b => cases et; cases r.bool; cases ru; exact PySem.W.kia_one PySem.W.kitx_bool I.kIn True.intro (kit_ty X.K (by simp) hT) (fun z => nomatch z) h
  | int b => cases et; cases r.int; obtain ⟨t,rfl⟩:=ru; exact PySem.W.kia_one PySem.W.kitx_int I.kIn True.intro (kit_ty X.K (by simp) hT) (fun z => nomatch z) h
  | str b => cases et; cases r.str; obtain ⟨t,rfl⟩:=ru; exact PySem.W.kia_one PySem.W.kitx_str I.kIn True.intro (kit_ty X.K (by simp) hT) (fun z => nomatch z) h
  | list ds =>
    cases et
    obtain ⟨p,vs,rfl,sq,_,rs⟩:=r.list
    cases ru
    obtain ⟨its,r2,pl,_⟩:=I.list sq
    obtain ⟨o,e1,e2,_⟩:=pl.isList
    exact PySem.W.kia_one PySem.W.kitx_list I.kIn ⟨o,e1,e2⟩ (kit_ty X.K (by simp) hT) (fun z => nomatch z) h
  | tuple ds =>
    cases et
    obtain ⟨p,vs,rfl,sq,rs⟩:=r.tuple
    cases ru
    obtain ⟨its,r2,⟨o,e1,e2,_⟩,_⟩:=I.tuple sq
    exact PySem.W.kia_one PySem.W.kitx_tuple I.kIn ⟨o,e1,e2⟩ (kit_ty X.K (by simp) hT) (fun z => nomatch z) h
  | dict _ => cases et
theorem dc_inst (hT:isTy T = true):CallR X (.builtin "isinstance") (fun xs H Q => ∃ y,xs = [y,.ty T]∧rD1 X.K (gInst T) [y] H Q):=fun pins s σ H xs us Q I rv x__111 => by
  obtain ⟨y,e0,Z,A,st,x,dx,d,e1,S,hA,rx,e,q⟩:=x__111
  subst e0
  cases e1
  obtain ⟨u,u2,rfl,ru,ru2⟩:=vals2 rv
  cases ru2
  unfold gInst at e
  first | refine bnd1 e fun t et e => ?_ | refine mpp1 e fun t et e => ?_
  cases e
  exact TypeIs.isinst I rx ru et hT fun tk => ⟨.bl _,H,I.tok tk,rfl,q _ H (Ext.refl H) S (.bl _)⟩
theorem de_inst {q:Pos} (hT:isTy T = true) (hv:bootBuiltins x = some (.type T)) (hm:X.mg "isinstance" = none) (hm2:X.mg x = none) (ha:DW X e Fa) (hg:Gl X "isinstance":=by rfl) (hg2:Gl X x:=by rfl)
    (hn:x ≠ "__name__":=by decide) (hdb:(x == ("__debug__":Str)) = false:=by decide) (hs:starEach [e,.Name x q] X.env = (false,eval e X.env) :: starEach [.Name x q] X.env:=by rfl):DE X (.Call (.Name "isinstance" p) [e,.Name x q] [] pos) (f1 (gInst T) Fa):=⟨fun Z A => PE.imp (pe_callB (dc_inst hT) hg hm (by first | rfl | decide +kernel) (pa_cons (ha Z A) (pa_cons (pe_bltn (v:=.ty T) hg2 hm2 hv rfl hn hdb) pa_nil rfl) hs) (by decide) (by decide) hs rfl) fun σ H Q h => by
    obtain ⟨B,ow,δ,s,dx,s1,R,S,e1,q⟩:=read1 h
    exact ⟨B,ow,δ,s,dx,s1,R,S,e1,fun v H1 x1 S1 r1 => ⟨v,rfl,q v H1 x1 S1 r1⟩⟩⟩
noncomputable abbrev GF:=List D→Sx→Option (D × Sx)
inductive spD (K:PySem.W.Frag) (g:GF) (vs:List V) (H:Hp) (Q:VK) (_E:XK):Prop
  | mk (Z:Zt) (A:List Addr) (ds:List D) (s:Sx) (d:D) (s':Sx) (h0:Reps K Z H A vs ds) (h1:(∀ q ∈ A,(∃ o,H q = some o)∧NotZ Z q)) (h2:StateAt Z H s) (h3:g ds s = some (d,s')) (h4:∀ v H',Ext Z H H'→StateAt Z H' s'→Rep K Z H' A v d→Q v H')
noncomputable def fCall (g:GF) (FL:FA):FE:=fun δ s => (FL δ s).bind fun p => g p.1 p.2
theorem read_call {gf:GF} {Z:Zt} {A:List Addr} {σ:L2.St} {H:Hp} {Q:VK} {E:XK} (h:tD X Z A (fCall gf FL) σ H Q):tCall (spD X.K gf) [] E (tDA X Z A FL) σ H Q:=by
  obtain ⟨B,ow,δ,s,d,s',R,S,e,q⟩:=h
  unfold fCall at e
  first | refine bnd2 e fun ds s1 e1 e => ?_ | refine mpp2 e fun ds s1 e1 e => ?_
  refine ⟨B,ow,δ,s,ds,s1,R,S,e1,fun vs H1 x1 S1 rs => ?_⟩
  show spD X.K gf (vs ++ []) H1 Q E
  rw [List.append_nil]
  refine ⟨Z,A ++ ow.map (·.2),ds,s1,d,s',rs,fun q hq => ?_,S1,e,fun v H' a b c => q v H' (x1.trans a) b c⟩
  refine ⟨(R.mono x1).all q hq,?_⟩
  rcases List.mem_append.mp hq with h | h
  · exact (R.ok q h).2
  · obtain ⟨⟨i,p⟩,hp,rfl⟩:=List.mem_map.mp h
    exact (R.ows i p hp).2.2.1
theorem de_call {gf:GF} {k:Nat} {f:Addr} {fd:FuncData} {ps:List Str} (G:FnOk X.prog X.w X.K X.mg X.base CX0 k f fd ps (spD X.K gf)) (hr:Room k X.A) (hm:X.mg x = some (.ref f)) (hk:PySem.W.keepIn X.K (.ref f) = true) (hb:Binds X.K fd ps [])
    (ha:DA X (e :: es) FL) (hg:Gl X x:=by rfl) (hdb:(x == ("__debug__":Str)) = false:=by decide) (he:starEach (e :: es) X.env = (false,eval e X.env) :: starEach es X.env:=by rfl) (hpl:(backTo pos (starEach es X.env)).any (·.1) = false:=by rfl) :
    DE X (.Call (.Name x p) (e :: es) [] pos) (fCall gf FL):=⟨fun Z A => PE.imp (pe_call G hr hg hm hk hb .nil pass0 (ha Z A) hdb he hpl) fun σ H Q q => read_call q⟩
end
end L3

namespace L3
open PySem L2 PySem.Spec PyProof.Rows

inductive Out where
  | next (δ:Sl) | ret (d:D) | brk (δ:Sl) | cnt (δ:Sl) | own (xs:List D)
noncomputable abbrev GS:=Sl→Sx→Option (Out × Sx)
noncomputable def postS (X:Cx) (Z:Zt) (A:List Addr) (ow:Ow) (H:Hp) (s':Sx) (E:Ends):Out→Prop
  | .next δ' => ∀ ow' σ' H',RepS X.K X.H₀ Z A ow' σ' δ' H'→StateAt Z H' s'→Frm Z ow H ow' H'→E.nx σ' H'
  | .ret d => ∀ v H',Ext Z X.H₀ H'→StateAt Z H' s'→Rep X.K Z H' A v d→E.rt v H'
  | .own xs => ∀ p vs H',Ext Z X.H₀ H'→StateAt Z H' s'→X.H₀ p = none→H' p = some (.lst vs)→Reps X.K Z H' (p :: A) vs xs→E.rt (.ref p) H'
  | .brk δ' => ∀ ow' σ' H',RepS X.K X.H₀ Z A ow' σ' δ' H'→StateAt Z H' s'→Frm Z ow H ow' H'→E.bk σ' H'
  | .cnt δ' => ∀ ow' σ' H',RepS X.K X.H₀ Z A ow' σ' δ' H'→StateAt Z H' s'→Frm Z ow H ow' H'→E.ct σ' H'
theorem postS.frm {X:Cx} {Z:Zt} {A:List Addr} {ow ow':Ow} {H H':Hp} {s':Sx} {E:Ends} {o:Out} (h:postS X Z A ow H s' E o) (f:Frm Z ow H ow' H'):postS X Z A ow' H' s' E o:=by
  cases o with
  | next δ => exact fun ow2 σ2 H2 a b c => h ow2 σ2 H2 a b (f.trans c)
  | ret d => exact h
  | own d => exact h
  | brk δ => exact fun ow2 σ2 H2 a b c => h ow2 σ2 H2 a b (f.trans c)
  | cnt δ => exact fun ow2 σ2 H2 a b c => h ow2 σ2 H2 a b (f.trans c)
inductive tDS (X:Cx) (Z:Zt) (A:List Addr) (G:GS) (E:Ends) (σ:L2.St) (H:Hp):Prop
  | mk (ow:Ow) (δ:Sl) (s:Sx) (o:Out) (s':Sx) (h0:RepS X.K X.H₀ Z A ow σ δ H) (h1:StateAt Z H s) (h2:G δ s = some (o,s')) (h3:postS X Z A ow H s' E o)
structure DS (X:Cx) (st:Stmt) (G:GS):Prop where
  go:∀ Z A,PS X st (tDS X Z A G)
instance {X:Cx} {st:Stmt} {G:GS}:CoeFun (DS X st G) (fun _ => ∀ Z A,PS X st (tDS X Z A G)):=⟨fun h => h.go⟩
structure DSs (X:Cx) (st:List Stmt) (G:GS):Prop where
  go:∀ Z A,PSs X st (tDS X Z A G)
instance {X:Cx} {st:List Stmt} {G:GS}:CoeFun (DSs X st G) (fun _ => ∀ Z A,PSs X st (tDS X Z A G)):=⟨fun h => h.go⟩
noncomputable def sNext:GS:=fun δ s => some (.next δ,s)
noncomputable def sSeq (G1 G2:GS):GS:=fun δ s => match G1 δ s with | some (.next δ',s') => G2 δ' s' | r => r
section
variable {X:Cx} {st:Stmt} {sts body a b:List Stmt} {G G1 G2:GS} {e c:Expr} {F:FE} {Ft:FT} {FL:FA} {pos:Pos}
theorem dss_nil:DSs X [] sNext:=⟨fun Z A => PSs.imp pss_nil fun E σ H x__112 => by
  obtain ⟨ow,δ,s,o,s',R,S,e,q⟩:=x__112
  cases e
  exact q ow σ H R S .refl⟩
theorem dss_one (h:DS X st G):DSs X [st] G:=⟨fun Z A => pss_one (h Z A)⟩
theorem dss_cons (h1:DS X st G1) (h2:DSs X sts G2):DSs X (st :: sts) (sSeq G1 G2):=⟨fun Z A => PSs.imp (pss_cons (h1 Z A) (h2 Z A)) fun E σ H x__113 => by
  obtain ⟨ow,δ,s,o,s',R,S,e,q⟩:=x__113
  unfold sSeq at e
  cases e1:G1 δ s with
  | none => rw [e1] at e; cases e
  | some p =>
    obtain ⟨o1,s1⟩:=p
    rw [e1] at e
    cases o1 with
    | next δ1 => exact ⟨ow,δ,s,.next δ1,s1,R,S,e1,fun ow' σ' H' R' S' f => ⟨ow',δ1,s1,o,s',R',S',e,q.frm f⟩⟩
    | ret d => cases e; exact ⟨ow,δ,s,_,_,R,S,e1,q⟩
    | own d => cases e; exact ⟨ow,δ,s,_,_,R,S,e1,q⟩
    | brk d => cases e; exact ⟨ow,δ,s,_,_,R,S,e1,q⟩
    | cnt d => cases e; exact ⟨ow,δ,s,_,_,R,S,e1,q⟩⟩
theorem RepS.set {K:PySem.W.Frag} {B:Hp} {Z:Zt} {A:List Addr} {ow:Ow} {σ:L2.St} {δ:Sl} {H:Hp} {i:Nat} {v:V} {d:D} (R:RepS K B Z A ow σ δ H) (r:Rep K Z H (A ++ ow.map (·.2)) v d) :
    RepS K B Z A (ow.filter fun p => decide (p.1 ≠ i)) (σ.set i (some v)) (δ.set i (.val d)) H∧Frm Z ow H (ow.filter fun p => decide (p.1 ≠ i)) H:=by
  have sub:∀ q ∈ A ++ (ow.filter fun p => decide (p.1 ≠ i)).map (·.2),q ∈ A ++ ow.map (·.2):=fun q hq => by
    rcases List.mem_append.mp hq with h | h
    · exact List.mem_append_left _ h
    · obtain ⟨p,hp,rfl⟩:=List.mem_map.mp h
      exact List.mem_append_right _ (List.mem_map_of_mem (List.mem_filter.mp hp).1)
  refine ⟨⟨R.ok,R.ext,by rw [List.length_set,List.length_set]; exact R.len,fun j d' h => ?_,fun j xs h => ?_,fun j p h => R.ows j p (List.mem_filter.mp h).1,fun j k p h1 h2 => R.inj j k p (List.mem_filter.mp h1).1 (List.mem_filter.mp h2).1⟩,fun b o h n m => ⟨h,fun z => m ?_⟩⟩
  · by_cases hj:i = j
    · subst hj
      have hi:i < δ.length:=by
        have:=(List.getElem?_eq_some_iff.mp h).1
        rwa [List.length_set] at this
      rw [List.getElem?_set_self hi] at h
      cases h
      exact ⟨v,List.getElem?_set_self (by rw [← R.len]; exact hi),r.sub sub⟩
    · rw [List.getElem?_set_ne hj] at h
      obtain ⟨v',h1,h2⟩:=R.val j d' h
      exact ⟨v',by rw [List.getElem?_set_ne hj]; exact h1,h2.sub sub⟩
  · by_cases hj:i = j
    · subst hj
      have hi:i < δ.length:=by
        have:=(List.getElem?_eq_some_iff.mp h).1
        rwa [List.length_set] at this
      rw [List.getElem?_set_self hi] at h
      cases h
    · rw [List.getElem?_set_ne hj] at h
      obtain ⟨p,vs,h1,h2,h3,h4⟩:=R.own j xs h
      exact ⟨p,vs,List.mem_filter.mpr ⟨h1,decide_eq_true (Ne.symm hj)⟩,by rw [List.getElem?_set_ne hj]; exact h2,h3,h4.sub sub⟩
  · obtain ⟨p,hp,e⟩:=List.mem_map.mp z
    exact List.mem_map.mpr ⟨p,(List.mem_filter.mp hp).1,e⟩
noncomputable def sSet (i:Nat) (F:FE):GS:=fun δ s => (F δ s).map fun p => (.next (δ.set i (.val p.1)),p.2)
theorem ds_set {i:Nat} {x:Str} {pos':Pos} (hN:X.N.Nodup) (he:DE X e F) (hi:X.N[i]? = some x:=by rfl) (hx:Loc X.env.scope x:=by first | exact Or.inl rfl | exact Or.inr rfl) (hs:swapsWith e (some (.Name x pos')) pos.line X.env = pure false:=by rfl)
    (hf:X.fn x = true ∨ X.env.scope.names.lookup x = some .local:=by first | exact .inl rfl | exact .inr rfl | assumption):DS X (.Assign [.Name x pos'] e pos) (sSet i F):=⟨fun Z A => PS.imp (ps_set hN hi hx (he Z A) hs hf) fun E σ H x__114 => by
  obtain ⟨ow,δ,s,o,s',R,S,e,q⟩:=x__114
  unfold sSet at e
  cases e1:F δ s with
  | none => rw [e1] at e; cases e
  | some p =>
    rw [e1] at e
    cases e
    refine ⟨_,ow,δ,s,_,_,R,S,e1,fun v H' x1 S1 r => ?_⟩
    obtain ⟨R',f⟩:=(R.mono x1).set (i:=i) r
    exact q _ _ H' R' S1 ((Frm.ext x1).trans f)⟩
noncomputable def sPar (i j:Nat) (FL:FA):GS:=fun δ s => (FL δ s).bind fun p => match p.1 with | [x,y] => some (.next ((δ.set i (.val x)).set j (.val y)),p.2) | _ => none
theorem ds_par {i j:Nat} {x y:Str} {a b:Expr} {px py pt:Pos} {kt k2 pt2} (hN:X.N.Nodup) (hij:i ≠ j) (ha:DA X [a,b] FL) (hw:swappedStores [.Tuple [.Name x px,.Name y py] kt pt] (.Tuple [a,b] k2 pt2) X.env = pure (some [x,y]))
    (hi:X.N[i]? = some x:=by rfl) (hj:X.N[j]? = some y:=by rfl) (hx:X.env.scope.names.lookup x = some .local:=by rfl) (hy:X.env.scope.names.lookup y = some .local:=by rfl) (hc:X.calm = true:=by rfl)
    (hs:swapsWithSole [.Tuple [.Name x px,.Name y py] kt pt] (.Tuple [a,b] k2 pt2) pos.line X.env = pure false:=by rfl):DS X (.Assign [.Tuple [.Name x px,.Name y py] kt pt] (.Tuple [a,b] k2 pt2) pos) (sPar i j FL):=⟨fun Z A => PS.imp (ps_par hc hN hi hj hij hx hy (ha Z A) hw hs) fun E σ H x__115 => by
    obtain ⟨ow,δ,s,o,s',R,S,e,q⟩:=x__115
    unfold sPar at e
    cases e1:FL δ s with
    | none => rw [e1] at e; cases e
    | some p =>
      obtain ⟨ds,s1⟩:=p
      rw [e1] at e
      refine ⟨_,ow,δ,s,ds,s1,R,S,e1,fun vs H' x1 S1 rs => ?_⟩
      rcases ds with _ | ⟨dx,_ | ⟨dy,_ | _⟩⟩
      · cases e
      · cases e
      · cases e
        cases rs with
        | cons r1 rs =>
          cases rs with
          | cons r2 rs =>
            cases rs
            obtain ⟨R1,f1⟩:=(R.mono x1).set (i:=i) r1
            obtain ⟨R2,f2⟩:=R1.set (i:=j) (r2.frm f1)
            exact ⟨_,_,rfl,q _ _ H' R2 S1 (((Frm.ext x1).trans f1).trans f2)⟩
      · cases e⟩
noncomputable def sRet (F:FE):GS:=fun δ s => (F δ s).map fun p => (.ret p.1,p.2)
theorem ds_ret (he:DE X e F):DS X (.Return (some e) pos) (sRet F):=⟨fun Z A => PS.imp (ps_ret (he Z A)) fun E σ H x__116 => by
  obtain ⟨ow,δ,s,o,s',R,S,e,q⟩:=x__116
  unfold sRet at e
  cases e1:F δ s with
  | none => rw [e1] at e; cases e
  | some p =>
    rw [e1] at e
    cases e
    exact ⟨_,ow,δ,s,_,_,R,S,e1,fun v H' x1 S1 r => q v H' (R.ext.trans x1) S1 (r.sub fun q hq => List.mem_append_left _ hq)⟩⟩
noncomputable def sDrop (F:FE):GS:=fun δ s => (F δ s).map fun p => (.next δ,p.2)
theorem ds_expr (he:DE X e F) (hs:swapsWith e none pos.line X.env = pure false:=by rfl):DS X (.Expr e pos) (sDrop F):=⟨fun Z A => PS.imp (ps_expr (he Z A) hs) fun E σ H x__117 => by
  obtain ⟨ow,δ,s,o,s',R,S,e,q⟩:=x__117
  unfold sDrop at e
  cases e1:F δ s with
  | none => rw [e1] at e; cases e
  | some p =>
    rw [e1] at e
    cases e
    exact ⟨_,ow,δ,s,_,_,R,S,e1,fun v H' x1 S1 r => q ow σ H' (R.mono x1) S1 (Frm.ext x1)⟩⟩
noncomputable def sIf (Ft:FT) (G1 G2:GS):GS:=fun δ s => (Ft δ s).bind fun p => if p.1 = true then G1 δ p.2 else G2 δ p.2
theorem ds_if (hc:DT X c Ft) (ha:DSs X a G1) (hb:DSs X b G2):DS X (.If c a b pos) (sIf Ft G1 G2):=⟨fun Z A => PS.imp (ps_if (hc Z A) (ha Z A) (hb Z A)) fun E σ H x__118 => by
  obtain ⟨ow,δ,s,o,s',R,S,e,q⟩:=x__118
  unfold sIf at e
  cases e1:Ft δ s with
  | none => rw [e1] at e; cases e
  | some p =>
    obtain ⟨k,s1⟩:=p
    rw [e1] at e
    refine ⟨_,ow,δ,s,k,s1,R,S,e1,fun H1 x1 S1 => ?_⟩
    cases k with
    | true => exact iteT ⟨ow,δ,s1,o,s',R.mono x1,S1,e,q.frm (Frm.ext x1)⟩
    | false => exact iteF ⟨ow,δ,s1,o,s',R.mono x1,S1,e,q.frm (Frm.ext x1)⟩⟩
noncomputable def whileN (Ft:FT) (G:GS):Nat→GS
  | 0,_,_ => none
  | n + 1,δ,s => (Ft δ s).bind fun p => if p.1 = true then (match G δ p.2 with
      | some (.next δ',s') => whileN Ft G n δ' s'
      | some (.cnt δ',s') => whileN Ft G n δ' s'
      | some (.brk δ',s') => some (.next δ',s')
      | some (.ret d,s') => some (.ret d,s')
      | some (.own d,s') => some (.own d,s')
      | none => none) else some (.next δ,p.2)
noncomputable def fuel:Nat:=1000000000
noncomputable def sWhile (Ft:FT) (G:GS):GS:=whileN Ft G fuel
theorem ds_while (hc:DT X c Ft) (hb:DSs X body G) (hp:PassesOwn (model X.prog X.w) X.A X.env X.xe:=by exact PassesOwn.never):DS X (.While c body [] pos) (sWhile Ft G):=⟨fun Z A => PS.imp (ps_while hp (hc Z A) (hb Z A)) fun E σ H x__119 => by
  obtain ⟨ow,δ,s,o,s',R,S,e,q⟩:=x__119
  refine ⟨fun n σ H => ∃ ow δ s,RepS X.K X.H₀ Z A ow σ δ H∧StateAt Z H s∧whileN Ft G n δ s = some (o,s')∧postS X Z A ow H s' E o,⟨fuel,ow,δ,s,R,S,e,q⟩,?_⟩
  clear e q S R
  rintro n σ H ⟨ow,δ,s,R,S,e,q⟩
  cases n with
  | zero => cases e
  | succ n =>
    unfold whileN at e
    cases e1:Ft δ s with
    | none => rw [e1] at e; cases e
    | some p =>
      obtain ⟨k,s1⟩:=p
      rw [e1] at e
      refine ⟨_,ow,δ,s,k,s1,R,S,e1,fun H1 x1 S1 => ?_⟩
      cases k with
      | false => cases e; exact iteF (q ow σ H1 (R.mono x1) S1 (Frm.ext x1))
      | true =>
        refine iteT ?_
        refine ⟨fun σ' H' => ∃ ow δ s,RepS X.K X.H₀ Z A ow σ' δ H'∧StateAt Z H' s∧whileN Ft G n δ s = some (o,s')∧postS X Z A ow H' s' E o,fun σ' H' h => ⟨n,Nat.lt_succ_self _,h⟩,?_⟩
        replace e:(match G δ s1 with
          | some (.next δ',s') => whileN Ft G n δ' s'
          | some (.cnt δ',s') => whileN Ft G n δ' s'
          | some (.brk δ',s') => some (.next δ',s')
          | some (.ret d,s') => some (.ret d,s')
          | some (.own d,s') => some (.own d,s')
          | none => none) = some (o,s'):=e
        have q1:=q.frm (Frm.ext x1)
        cases e2:G δ s1 with
        | none => rw [e2] at e; cases e
        | some r =>
          obtain ⟨o2,s2⟩:=r
          rw [e2] at e
          refine ⟨ow,δ,s1,o2,s2,R.mono x1,S1,e2,?_⟩
          cases o2 with
          | next δ2 => exact fun ow' σ' H' R' S' f => ⟨ow',δ2,s2,R',S',e,q1.frm f⟩
          | cnt δ2 => exact fun ow' σ' H' R' S' f => ⟨ow',δ2,s2,R',S',e,q1.frm f⟩
          | brk δ2 => cases e; exact q1
          | ret d => cases e; exact q1
          | own d => cases e; exact q1⟩
theorem whileN_mono {Ft:FT} {G:GS}:∀ {n m:Nat} {δ:Sl} {s:Sx} {r:Out × Sx},whileN Ft G n δ s = some r→n ≤ m→whileN Ft G m δ s = some r
  | 0,_,_,_,_,h,_ => by cases h
  | n + 1,0,_,_,_,_,h => absurd h (Nat.not_succ_le_zero _)
  | n + 1,m + 1,δ,s,r,h,hm => by
    unfold whileN at h ⊢
    cases e1:Ft δ s with
    | none => rw [e1] at h; cases h
    | some p =>
      rw [e1] at h
      obtain ⟨k,s1⟩:=p
      cases k with
      | false => exact h
      | true =>
        simp only [Option.bind_some,if_true] at h ⊢
        cases e2:G δ s1 with
        | none => rw [e2] at h; cases h
        | some q =>
          obtain ⟨o2,s2⟩:=q
          rw [e2] at h
          cases o2 with
          | next δ2 => exact whileN_mono h (Nat.le_of_succ_le_succ hm)
          | cnt δ2 => exact whileN_mono h (Nat.le_of_succ_le_succ hm)
          | brk δ2 => exact h
          | ret d => exact h
          | own d => exact h

noncomputable def mkFn (n m:Nat) (G:GS):GF:=fun ds s => if ds.length = n then (match G (ds.map .val ++ List.replicate m .non) s with
  | some (.ret d,s') => some (d,s')
  | some (.next _,s') => some (.none,s')
  | _ => none) else none
theorem reps_val {K:PySem.W.Frag} {Z:Zt} {H:Hp} {A:List Addr} {vs:List V} {ds:List D} (r:Reps K Z H A vs ds) {m i:Nat} {d:D} (h:(ds.map Ce.val ++ List.replicate m Ce.non)[i]? = some (.val d)):∃ v,(vs.map some ++ List.replicate m none)[i]? = some (some v)∧Rep K Z H A v d:=by
  by_cases hi:i < ds.length
  · rw [List.getElem?_append_left (by simpa using hi),List.getElem?_map] at h
    cases e:ds[i]? with
    | none => rw [e] at h; cases h
    | some d' =>
      rw [e] at h
      cases h
      obtain ⟨v,h1,h2⟩:=r.get e
      exact ⟨v,by rw [List.getElem?_append_left (by rw [List.length_map,r.length]; exact hi),List.getElem?_map,h1]; rfl,h2⟩
  · rw [List.getElem?_append_right (by simpa using Nat.not_lt.mp hi),List.getElem?_replicate] at h
    split at h <;> cases h
theorem reps_own {ds:List D} {m i:Nat} {xs:List D} (h:(ds.map Ce.val ++ List.replicate m Ce.non)[i]? = some (.own xs)):False:=by
  by_cases hi:i < ds.length
  · rw [List.getElem?_append_left (by simpa using hi),List.getElem?_map] at h
    cases e:ds[i]? with
    | none => rw [e] at h; cases h
    | some d' => rw [e] at h; cases h
  · rw [List.getElem?_append_right (by simpa using Nat.not_lt.mp hi),List.getElem?_replicate] at h
    split at h <;> cases h
theorem mkFn_len {n m:Nat} {G:GS} {ds:List D} {s:Sx} {r:D × Sx} (h:mkFn n m G ds s = some r):ds.length = n:=by
  unfold mkFn at h
  split at h
  · assumption
  · cases h
theorem fnD {P:Program} {w:World} {K:PySem.W.Frag} {mg:Str→Option Value} {base:Heap} {x qual:Str} {st:Stmt} {f:Addr} {fd:FuncData} {N ps:List Str} {k m:Nat} {G:GS} (Fn:Fun K x qual st f fd) (S:FnScope N ps (defScope st)) (hN:N.length = ps.length + m)
    (hbody:∀ (cdv:Value) (A:Around) (outer:List Env) (s:Shared) (H:Hp) (E:XK),Room k (A.deeper (envOfC qual (defScope st) s.heap.objs.size f cdv))→DSs (cxOf CX0 P w K mg base N qual (defScope st) f cdv A outer s H E).nox (defBody st) G) :
    FnOk P w K mg base CX0 (k + 1) f fd ps (spD K (mkFn ps.length m G)):=by
  refine Fn.ok S (fun vs H Q E x__120 => ?_) (fun cdv A outer s H vs Q E hr x__121 => ?_)
  · obtain ⟨Z,A,ds,s,d,s',r,_,_,e,_⟩:=x__120
    rw [r.length]; exact mkFn_len e
  · obtain ⟨Z,A0,ds,st0,d,st1,r,hA,hS,e,q⟩:=x__121
    have hl:=mkFn_len e
    refine ⟨_,hbody cdv A outer s H E hr Z A0,?_⟩
    unfold mkFn at e
    rw [if_pos hl] at e
    have hst:L2.start N vs = vs.map some ++ List.replicate m none:=by
      unfold L2.start
      rw [hN,r.length,hl,Nat.add_sub_cancel_left]
    rw [hst]
    have R:RepS K H Z A0 [] (vs.map some ++ List.replicate m none) (ds.map .val ++ List.replicate m .non) H:={
      ok:=hA
      ext:=Ext.refl H
      len:=by simp [r.length]
      val:=fun i d h => by
        obtain ⟨v,h1,h2⟩:=reps_val r h
        exact ⟨v,h1,by rw [List.map_nil,List.append_nil]; exact h2⟩
      own:=fun i xs h => (reps_own h).elim
      ows:=fun i p h => nomatch h
      inj:=fun i j p h => nomatch h }
    cases e1:G (ds.map .val ++ List.replicate m .non) st0 with
    | none => rw [e1] at e; cases e
    | some r1 =>
      obtain ⟨o,s1⟩:=r1
      rw [e1] at e
      refine ⟨[],_,st0,o,s1,R,hS,e1,?_⟩
      cases o with
      | ret d' => cases e; exact fun v H' a b c => q v H' a b c
      | next δ' => cases e; exact fun ow' σ' H' R' S' f => q .non H' R'.ext S' .non
      | brk δ' => cases e
      | own d' => cases e
      | cnt δ' => cases e
end
end L3

namespace L3
open PySem L2 PySem.Spec PyProof.Rows

noncomputable def Src (K:PySem.W.Frag) (Z:Zt) (A:List Addr) (ow:Ow) (J:It) (ds:List D) (H:Hp):Prop:=∀ ow' H' st,Frm Z ow H ow' H'→StateAt Z H' st→(∀ q ∈ A ++ ow'.map (·.2),∃ o,H' q = some o)→∀ i,
  (∀ d,ds[i]? = some d→J.go i H'∧∀ x H3,J.yld i H' x H3→Ext Z H' H3∧StateAt Z H3 st∧Rep K Z H3 (A ++ ow'.map (·.2)) x d)∧(ds.length ≤ i→J.stop i H')
noncomputable abbrev FI:=Sl→Sx→Option (List D × Sx)
inductive tDIK (K:PySem.W.Frag) (Z:Zt) (A:List Addr) (F:FI) (σ:L2.St) (H:Hp) (R:It→Hp→Prop):Prop
  | mk (B:Hp) (ow:Ow) (δ:Sl) (s:Sx) (ds:List D) (s':Sx) (h0:RepS K B Z A ow σ δ H) (h1:StateAt Z H s) (h2:F δ s = some (ds,s')) (h3:∀ J H',Ext Z H H'→StateAt Z H' s'→Src K Z A ow J ds H'→R J H')
noncomputable abbrev tDI (X:Cx) (Z:Zt) (A:List Addr) (F:FI):TI:=tDIK X.K Z A F
structure DI (X:Cx) (tg iter:Expr) (F:FI):Prop where
  go:∀ Z A,PI X tg iter (tDI X Z A F)
instance {X:Cx} {tg iter:Expr} {F:FI}:CoeFun (DI X tg iter F) (fun _ => ∀ Z A,PI X tg iter (tDI X Z A F)):=⟨fun h => h.go⟩
theorem PI.imp {X:Cx} {tg iter:Expr} {t t':TI} (h:PI X tg iter t) (hi:∀ σ H R,t' σ H R→t σ H R):PI X tg iter t':=fun pins s σ H R I q => h pins s σ H R I (hi σ H R q)
noncomputable def seqOf:D→Option (List D)
  | .list xs => some xs
  | .tuple xs => some xs
  | _ => none
noncomputable def iSeq (F:FE):FI:=fun δ s => (F δ s).bind fun p => (seqOf p.1).map fun xs => (xs,p.2)
section
variable {X:Cx} {tg iter e e2:Expr} {F Fa Fb:FE} {FL:FA} {p pos:Pos}
theorem src_list {K:PySem.W.Frag} {Z:Zt} {A:List Addr} {ow:Ow} {H:Hp} {a:Addr} {vs:List V} {ds:List D} (h:H a = some (.lst vs)) (m:¬ a ∈ A ++ ow.map (·.2)) (n:NotZ Z a) (r:Reps K Z H (A ++ ow.map (·.2)) vs ds):Src K Z A ow (Itl K a) ds H:=fun ow' H' st f S hA i => by
  have h':=(rd_frm h f n m).1
  have r':=r.frm f
  refine ⟨fun d hd => ?_,fun hi => ⟨vs,.of h',by rw [r.length]; exact hi⟩⟩
  obtain ⟨v,h1,h2⟩:=r'.get hd
  exact ⟨⟨vs,v,.of h',h1⟩,fun x H3 x__122 => by
    obtain ⟨e,y⟩:=x__122
    subst e
    have q:=y vs (.of h')
    rw [h1] at q
    cases q
    exact ⟨Ext.refl _,S,h2⟩⟩
theorem src_tup {K:PySem.W.Frag} {Z:Zt} {A:List Addr} {ow:Ow} {H:Hp} {a:Addr} {vs:List V} {ds:List D} (h:∀ ow' H',Frm Z ow H ow' H'→SqT K H' a vs) (r:Reps K Z H (A ++ ow.map (·.2)) vs ds):Src K Z A ow (Itt K a) ds H:=fun ow' H' st f S hA i => by
  have h':=h ow' H' f
  have r':=r.frm f
  refine ⟨fun d hd => ?_,fun hi => ⟨vs,h',by rw [r.length]; exact hi⟩⟩
  obtain ⟨v,h1,h2⟩:=r'.get hd
  exact ⟨⟨vs,v,h',h1⟩,fun x H3 x__123 => by
    obtain ⟨e,y⟩:=x__123
    subst e
    have q:=y vs h'
    rw [h1] at q
    cases q
    exact ⟨Ext.refl _,S,h2⟩⟩
theorem pi_seq {l:Expr} {tl:TE} (hl:PE X l tl):PI X tg l (fun σ H R => tl σ H fun x H1 => ∃ a,x = .ref a∧(((∃ xs,SqL X.K H1 a xs)∧R (Itl X.K a) H1) ∨ ((∃ xs,SqT X.K H1 a xs)∧R (Itt X.K a) H1))):=fun pins s σ H R I h => by
  refine thn (hl pins s σ H _ I h) fun v s1 x__124 => ?_
  obtain ⟨x,H1,I1,r1,a,e,q⟩:=x__124
  subst e
  obtain rfl:v = Value.ref a:=r1
  rcases q with ⟨⟨xs,hx⟩,q⟩ | ⟨⟨xs,hx⟩,q⟩
  · obtain ⟨its,rv,pl,_⟩:=I1.list hx
    refine wpAny_pyIter_list pl.isList ?_
    have nf:=I1.hok.fresh (Nat.le_refl s1.heap.objs.size)
    exact ⟨_,[s1.heap.objs.size],_,Itl X.K a,H1,rfl,I1.kept (t':=s1.toks) fun b u eb => Heap.get?_push_of_some _ eb,turn_list a _,⟨_,Heap.get?_push_size _ rfl,rfl,rfl⟩,fun b hb => by
      have eb:b = s1.heap.objs.size:=by simpa using hb
      rw [eb]; exact I1.fpOk (Nat.le_refl _) nf,q⟩
  · obtain ⟨its,rv,⟨o,e1,e2,n,e3⟩,_⟩:=I1.tuple hx
    refine wpAny_pyIter_tuple (items:=its.toArray) ⟨o,e1,e2,n,e3⟩ ?_
    have nf:=I1.hok.fresh (Nat.le_refl s1.heap.objs.size)
    exact ⟨_,[s1.heap.objs.size],_,Itt X.K a,H1,rfl,I1.kept (t':=s1.toks) fun b u eb => Heap.get?_push_of_some _ eb,turn_tuple a _,⟨_,Heap.get?_push_size _ rfl,rfl,rfl⟩,fun b hb => by
      have eb:b = s1.heap.objs.size:=by simpa using hb
      rw [eb]; exact I1.fpOk (Nat.le_refl _) nf,q⟩
theorem di_seq (h:DE X e F):DI X tg e (iSeq F):=⟨fun Z A => PI.imp (pi_seq (h Z A)) fun σ H R x__125 => by
  obtain ⟨B,ow,δ,s,ds,s',RS,S,ee,q⟩:=x__125
  unfold iSeq at ee
  first | refine bnd2 ee fun d s1 e1 ee => ?_ | refine mpp2 ee fun d s1 e1 ee => ?_
  replace ee:((seqOf d).map fun xs => (xs,s1)) = some (ds,s'):=ee
  refine ⟨B,ow,δ,s,d,s1,RS,S,e1,fun v H1 x1 S1 r => ?_⟩
  cases r with
  | lst h n z rs => cases ee; exact ⟨_,rfl,.inl ⟨⟨_,.of h⟩,q _ H1 x1 S1 (src_list h n z rs)⟩⟩
  | tup h n z rs => cases ee; exact ⟨_,rfl,.inr ⟨⟨_,.of h⟩,q _ H1 x1 S1 (src_tup (fun ow' H' f => .of (rd_frm h f z n).1) rs)⟩⟩
  | mod h rs => cases ee; exact ⟨_,rfl,.inr ⟨⟨_,.inr h⟩,q _ H1 x1 S1 (src_tup (fun ow' H' f => .inr h) rs)⟩⟩
  | non => cases ee
  | bl _ => cases ee
  | int _ => cases ee
  | str _ => cases ee
  | st _ => cases ee
  | obj _ _ _ _ _ => cases ee⟩
noncomputable def rng (lo:Int) (n:Nat):List D:=(List.range n).map fun (k:Nat) => .int (lo + (k:Int))
noncomputable def rOk (i:Int):Bool:=decide (-(2 ^ 62) ≤ i) && decide (i < 2 ^ 62)
noncomputable def iRange1 (F:FE):FI:=fun δ s => (F δ s).bind fun p => match p.1 with | .int j => if rOk j = true then some (rng 0 j.toNat,p.2) else none | _ => none
noncomputable def iRange2 (Fa Fb:FE):FI:=fun δ s => (Fa δ s).bind fun p => (Fb δ p.2).bind fun q => match p.1,q.1 with | .int i,.int j => if (rOk i && rOk j) = true then some (rng i (j - i).toNat,q.2) else none | _,_ => none
theorem src_rng {K:PySem.W.Frag} {Z:Zt} {A:List Addr} {ow:Ow} {H:Hp} (lo:Int) (n:Nat):Src K Z A ow (Itr lo n) (rng lo n) H:=fun ow' H' st f S hA i => by
  refine ⟨fun d hd => ?_,fun hi => (show n ≤ i by simpa [rng] using hi)⟩
  unfold rng at hd
  rw [List.getElem?_map] at hd
  first | refine bnd1 hd fun k e hd => ?_ | refine mpp1 hd fun k e hd => ?_
  cases hd
  have hk:i < n∧k = i:=by
    have h1:=(List.getElem?_eq_some_iff.mp e).1
    rw [List.length_range] at h1
    rw [List.getElem?_range h1] at e
    exact ⟨h1,(Option.some.inj e).symm⟩
  obtain ⟨h1,rfl⟩:=hk
  exact ⟨h1,fun x H3 x__126 => by obtain ⟨e1,e2⟩:=x__126; subst e1 e2; exact ⟨Ext.refl _,S,.int _⟩⟩
theorem di_range1 (hm:X.mg "range" = none) (ha:DE X e F) (hg:Gl X "range":=by rfl) (hs:starEach [e] X.env = [(false,eval e X.env)]:=by rfl):DI X tg (.Call (.Name "range" p) [e] [] pos) (iRange1 F):=⟨fun Z A => PI.imp (pi_range1 hg hm (pa_cons (ha Z A) pa_nil hs) hs) fun σ H R x__127 => by
    obtain ⟨B,ow,δ,s,ds,s',RS,S,ee,q⟩:=x__127
    unfold iRange1 at ee
    first | refine bnd2 ee fun d s1 e1 ee => ?_ | refine mpp2 ee fun d s1 e1 ee => ?_
    refine ⟨B,ow,δ,s,d,s1,RS,S,e1,fun v H1 x1 S1 r => ?_⟩
    cases r with
    | int j =>
      replace ee:(if rOk j = true then some (rng 0 j.toNat,s1) else none) = some (ds,s'):=ee
      split at ee
      · rename_i hj
        cases ee
        unfold rOk at hj
        rw [Bool.and_eq_true] at hj
        exact ⟨j,rfl,of_decide_eq_true hj.1,of_decide_eq_true hj.2,q _ H1 x1 S1 (src_rng 0 j.toNat)⟩
      · cases ee
    | _ => cases ee⟩
theorem di_range2 (hm:X.mg "range" = none) (ha:DE X e Fa) (hb:DE X e2 Fb) (hg:Gl X "range":=by rfl) (hs:starEach [e,e2] X.env = [(false,eval e X.env),(false,eval e2 X.env)]:=by rfl) (hs2:starEach [e2] X.env = [(false,eval e2 X.env)]:=by rfl) :
    DI X tg (.Call (.Name "range" p) [e,e2] [] pos) (iRange2 Fa Fb):=⟨fun Z A => PI.imp (pi_range2 hg hm (pa_cons (ha Z A) (pa_cons (hb Z A) pa_nil hs2) (by rw [hs,hs2])) hs hs2) fun σ H R x__128 => by
    obtain ⟨B,ow,δ,s,ds,s',RS,S,ee,q⟩:=x__128
    unfold iRange2 at ee
    first | refine bnd2 ee fun d s1 e1 ee => ?_ | refine mpp2 ee fun d s1 e1 ee => ?_
    replace ee:((Fb δ s1).bind fun q => match d,q.1 with | .int i,.int j => if (rOk i && rOk j) = true then some (rng i (j - i).toNat,q.2) else none | _,_ => none) = some (ds,s'):=ee
    first | refine bnd2 ee fun d2 s2 e2 ee => ?_ | refine mpp2 ee fun d2 s2 e2 ee => ?_
    refine ⟨B,ow,δ,s,d,s1,RS,S,e1,fun v H1 x1 S1 r => ⟨B,ow,δ,s1,d2,s2,RS.mono x1,S1,e2,fun v2 H2 x2 S2 r2 => ?_⟩⟩
    cases r with
    | int i =>
      cases r2 with
      | int j =>
        replace ee:(if (rOk i && rOk j) = true then some (rng i (j - i).toNat,s2) else none) = some (ds,s'):=ee
        split at ee
        · rename_i hj
          cases ee
          simp only [rOk,Bool.and_eq_true] at hj
          exact ⟨i,j,rfl,⟨of_decide_eq_true hj.1.1,of_decide_eq_true hj.1.2,of_decide_eq_true hj.2.1,of_decide_eq_true hj.2.2⟩,q _ H2 (x1.trans x2) S2 (src_rng i (j - i).toNat)⟩
        · cases ee
      | _ => cases ee
    | _ => cases ee⟩
noncomputable def iZipF (Fa Fb:FE):FI:=fun δ s => (Fa δ s).bind fun p => (Fb δ p.2).bind fun q => (seqOf p.1).bind fun xs => (seqOf q.1).map fun ys => ((xs.zip ys).map fun z => .tuple [z.1,z.2],q.2)
theorem rep_sq {K:PySem.W.Frag} {Z:Zt} {H:Hp} {A:List Addr} {ow:Ow} {v:V} {d:D} {xs:List D} (r:Rep K Z H (A ++ ow.map (·.2)) v d) (e:seqOf d = some xs) :
    ∃ k a vs,v = .ref a∧SqK k K H a vs∧Reps K Z H (A ++ ow.map (·.2)) vs xs∧∀ ow' H',Frm Z ow H ow' H'→SqK k K H' a vs:=by
  cases r with
  | lst h n z rs => cases e; exact ⟨true,_,_,rfl,SqL.of h,rs,fun ow' H' f => SqL.of (rd_frm h f z n).1⟩
  | tup h n z rs => cases e; exact ⟨false,_,_,rfl,SqT.of h,rs,fun ow' H' f => SqT.of (rd_frm h f z n).1⟩
  | mod h rs => cases e; exact ⟨false,_,_,rfl,.inr h,rs,fun ow' H' f => .inr h⟩
  | non => cases e
  | bl _ => cases e
  | int _ => cases e
  | str _ => cases e
  | st _ => cases e
  | obj _ _ _ _ _ => cases e
theorem di_zip {elts:List Expr} {c:Nat} {tp:Pos} (hm:X.mg "zip" = none) (ha:DE X e Fa) (hb:DE X e2 Fb) (hg:Gl X "zip":=by rfl) (hs:starEach [e,e2] X.env = [(false,eval e X.env),(false,eval e2 X.env)]:=by rfl) (hs2:starEach [e2] X.env = [(false,eval e2 X.env)]:=by rfl) :
    DI X (.Tuple elts c tp) (.Call (.Name "zip" p) [e,e2] [] pos) (iZipF Fa Fb):=⟨fun Z A => PI.imp (pi_zip hg hm (pa_cons (ha Z A) (pa_cons (hb Z A) pa_nil hs2) (by rw [hs,hs2])) hs hs2) fun σ H R x__129 => by
    obtain ⟨B,ow,δ,s,ds,s',RS,S,ee,q⟩:=x__129
    unfold iZipF at ee
    first | refine bnd2 ee fun d s1 e1 ee => ?_ | refine mpp2 ee fun d s1 e1 ee => ?_
    replace ee:((Fb δ s1).bind fun q => (seqOf d).bind fun xs => (seqOf q.1).map fun ys => ((xs.zip ys).map fun z => PyData.tuple [z.1,z.2],q.2)) = some (ds,s'):=ee
    first | refine bnd2 ee fun d2 s2 e2 ee => ?_ | refine mpp2 ee fun d2 s2 e2 ee => ?_
    replace ee:((seqOf d).bind fun xs => (seqOf d2).map fun ys => ((xs.zip ys).map fun z => PyData.tuple [z.1,z.2],s2)) = some (ds,s'):=ee
    first | refine bnd1 ee fun xs e3 ee => ?_ | refine mpp1 ee fun xs e3 ee => ?_
    replace ee:((seqOf d2).map fun ys => ((xs.zip ys).map fun z => PyData.tuple [z.1,z.2],s2)) = some (ds,s'):=ee
    first | refine bnd1 ee fun ys e4 ee => ?_ | refine mpp1 ee fun ys e4 ee => ?_
    cases ee
    refine ⟨B,ow,δ,s,d,s1,RS,S,e1,fun v H1 x1 S1 r => ⟨B,ow,δ,s1,d2,s',RS.mono x1,S1,e2,fun v2 H2 x2 S2 r2 => ?_⟩⟩
    obtain ⟨k1,a1,vs1,rfl,sq1,rs1,st1⟩:=rep_sq (r.ext x2) e3
    obtain ⟨k2,a2,vs2,rfl,sq2,rs2,st2⟩:=rep_sq r2 e4
    refine ⟨k1,k2,a1,a2,vs1,vs2,rfl,sq1,sq2,q _ H2 (x1.trans x2) S2 ?_⟩
    intro ow' H' st f S' hA i
    have g1:=st1 ow' H' f
    have g2:=st2 ow' H' f
    refine ⟨fun dd hd => ?_,fun hi => ⟨vs1,vs2,g1,g2,?_⟩⟩
    · rw [List.getElem?_map] at hd
      first | refine bnd1 hd fun z e5 hd => ?_ | refine mpp1 hd fun z e5 hd => ?_
      cases hd
      rw [List.getElem?_zip_eq_some] at e5
      obtain ⟨u1,h1,q1⟩:=(rs1.frm f).get e5.1
      obtain ⟨u2,h2,q2⟩:=(rs2.frm f).get e5.2
      refine ⟨⟨vs1,vs2,u1,u2,g1,g2,h1,h2⟩,fun x H3 x__130 => ?_⟩
      obtain ⟨p,y1,y2,ex,hp,eH,f1,f2⟩:=x__130
      have z1:=f1 vs1 g1
      have z2:=f2 vs2 g2
      rw [h1] at z1
      rw [h2] at z2
      cases z1
      cases z2
      subst ex eH
      exact ⟨Ext.upd hp,S'.upd hp,.tup upd_same (fresh_not hA hp) (S'.notZ hp) (.cons (q1.ext (Ext.upd hp)) (.cons (q2.ext (Ext.upd hp)) .nil))⟩
    · rw [rs1.length,rs2.length]
      rw [List.length_map,List.length_zip] at hi
      omega⟩
end
end L3

namespace L3
open PySem L2 PySem.Spec PyProof.Rows

inductive Tgt where
  | one (i:Nat) | tup (is:List Nat) | nest (i:Nat) (js:List Nat)
noncomputable def Tgt.slots:Tgt→List Nat
  | .one i => [i]
  | .tup is => is
  | .nest i js => i :: js
noncomputable def setD:List Nat→List D→Sl→Sl
  | i :: is,d :: ds,δ => setD is ds (δ.set i (.val d))
  | _,_,δ => δ
noncomputable def Tgt.run:Tgt→D→Sl→Option Sl
  | .one i,d,δ => some (δ.set i (.val d))
  | .tup is,.tuple ds,δ => if ds.length = is.length then some (setD is ds δ) else none
  | .tup is,.list ds,δ => if ds.length = is.length then some (setD is ds δ) else none
  | .tup _,_,_ => none
  | .nest i js,.tuple [a,b],δ => (seqOf b).bind fun ds => if ds.length = js.length then some (setD js ds (δ.set i (.val a))) else none
  | .nest _ _,_,_ => none
noncomputable def Chg (l:List Nat) (σ σ':L2.St):Prop:=σ'.length = σ.length∧∀ i,¬ i ∈ l→σ'[i]? = σ[i]?
inductive tDG (K:PySem.W.Frag) (Z:Zt) (A:List Addr) (T:Tgt) (v:V) (σ:L2.St) (H:Hp) (Q:L2.St→Hp→Prop):Prop
  | mk (B:Hp) (ow:Ow) (δ:Sl) (d:D) (δ':Sl) (h0:RepS K B Z A ow σ δ H) (h1:Rep K Z H (A ++ ow.map (·.2)) v d) (h2:T.run d δ = some δ') (h3:∀ ow' σ',RepS K B Z A ow' σ' δ' H→Frm Z ow H ow' H→Chg T.slots σ σ'→Q σ' H)
structure DG (X:Cx) (tg:Expr) (T:Tgt):Prop where
  go:∀ Z A,PG X tg (tDG X.K Z A T)
instance {X:Cx} {tg:Expr} {T:Tgt}:CoeFun (DG X tg T) (fun _ => ∀ Z A,PG X tg (tDG X.K Z A T)):=⟨fun h => h.go⟩
theorem PG.imp {X:Cx} {tg:Expr} {t t':TG} (h:PG X tg t) (hi:∀ v σ H Q,t' v σ H Q→t v σ H Q):PG X tg t':=fun pins s σ H v u Q I r q => h pins s σ H v u Q I r (hi v σ H Q q)
theorem RepS.setAll {K:PySem.W.Frag} {B:Hp} {Z:Zt} {A:List Addr} {H:Hp}:∀ {is:List Nat} {vs:List V} {ds:List D} {ow:Ow} {σ:L2.St} {δ:Sl},RepS K B Z A ow σ δ H→Reps K Z H (A ++ ow.map (·.2)) vs ds→ds.length = is.length →
    ∀ {es:List Expr} {X:Cx} (Q:L2.St→Hp→Prop),True→True→(∀ ow' σ',RepS K B Z A ow' σ' (setD is ds δ) H→Frm Z ow H ow' H→Chg is σ σ'→σ' = (is.zip vs).foldl (fun σ p => σ.set p.1 (some p.2)) σ→Q σ' H)→Q ((is.zip vs).foldl (fun σ p => σ.set p.1 (some p.2)) σ) H
  | [],vs,ds,ow,σ,δ,R,rs,hl,es,X,Q,_,_,h => by
    have e:ds = []:=List.eq_nil_of_length_eq_zero hl
    subst e
    exact h ow σ R .refl ⟨rfl,fun _ _ => rfl⟩ rfl
  | i :: is,vs,d :: ds,ow,σ,δ,R,rs,hl,es,X,Q,_,_,h => by
    cases rs with
    | @cons v _ vs' _ r rs =>
      obtain ⟨R1,f1⟩:=R.set (i:=i) r
      refine RepS.setAll (X:=X) (es:=es) R1 (rs.frm f1) (by simpa using hl) Q trivial trivial fun ow' σ' R2 f2 c2 e2 => ?_
      refine h ow' σ' R2 (f1.trans f2) ⟨by rw [c2.1,List.length_set],fun j hj => ?_⟩ e2
      have hj':¬ j = i∧¬ j ∈ is:=by simpa using hj
      rw [c2.2 j hj'.2,List.getElem?_set_ne (Ne.symm hj'.1)]
  | _ :: _,_,[],_,_,_,_,_,hl,_,_,_,_,_,_ => by simp at hl
section
variable {X:Cx} {tg iter elt e:Expr} {es:List Expr} {T:Tgt} {F:FE} {Fi:FI} {Ft:FT} {G:GS} {body:List Stmt} {pos:Pos}
theorem dg_name {i:Nat} {x:Str} (hN:X.N.Nodup) (hi:X.N[i]? = some x:=by rfl) (hx:Loc X.env.scope x:=by first | exact Or.inl rfl | exact Or.inr rfl) (hf:X.fn x = true ∨ X.env.scope.names.lookup x = some .local:=by first | exact .inl rfl | exact .inr rfl | assumption) :
    DG X (.Name x pos) (.one i):=⟨fun Z A => PG.imp (pg_name hN hi hx hf) fun v σ H Q x__131 => by
  obtain ⟨B,ow,δ,d,δ',R,r,e,q⟩:=x__131
  cases e
  obtain ⟨R1,f1⟩:=R.set (i:=i) r
  exact q _ _ R1 f1 ⟨List.length_set,fun j hj => List.getElem?_set_ne (by simpa using Ne.symm (show ¬ j = i by simpa [Tgt.slots] using hj))⟩⟩
noncomputable def gSlots:List Nat→TGs
  | [] => gNil
  | i :: is => gCons (gName i) (gSlots is)
theorem gSlots_of:∀ {is:List Nat} {vs:List V} {σ:L2.St} {H:Hp} {Q:L2.St→Hp→Prop},vs.length = is.length→Q ((is.zip vs).foldl (fun σ p => σ.set p.1 (some p.2)) σ) H→gSlots is vs σ H Q
  | [],vs,σ,H,Q,hl,q => ⟨List.eq_nil_of_length_eq_zero hl,by have e:=List.eq_nil_of_length_eq_zero hl; subst e; exact q⟩
  | i :: is,v :: vs,σ,H,Q,hl,q => ⟨v,vs,rfl,gSlots_of (by simpa using hl) q⟩
  | _ :: _,[],_,_,_,hl,_ => by simp at hl
theorem pgn_nil:PGs X [] (gSlots []):=pgs_nil
theorem pgn_cons {i:Nat} {is:List Nat} {x:Str} (hN:X.N.Nodup) (h2:PGs X es (gSlots is)) (hi:X.N[i]? = some x:=by rfl) (hx:Loc X.env.scope x:=by first | exact Or.inl rfl | exact Or.inr rfl) (hf:X.fn x = true ∨ X.env.scope.names.lookup x = some .local:=by first | exact .inl rfl | exact .inr rfl | assumption)
    (hs:(assignEach (.Name x pos :: es) X.env).map (·.2) = assign (.Name x pos) X.env :: (assignEach es X.env).map (·.2):=by rfl):PGs X (.Name x pos :: es) (gSlots (i :: is)):=pgs_cons (pg_name hN hi hx hf) h2 hs
theorem dg_tup {is:List Nat} {k:Nat} (h:PGs X es (gSlots is)) (hn:(assignEach es X.env).length = is.length:=by rfl) (hst:(assignEach es X.env).findIdx? (·.1) = none:=by rfl) (hc:X.calm = true:=by rfl):DG X (.Tuple es k pos) (.tup is):=⟨fun Z A => PG.imp (pg_seqT hc h hn hst) fun v σ H Q x__132 => by
    obtain ⟨B,ow,δ,d,δ',R,r,e,q⟩:=x__132
    cases d with
    | tuple ds =>
      replace e:(if ds.length = is.length then some (setD is ds δ) else none) = some δ':=e
      split at e
      · rename_i hl
        cases e
        obtain ⟨p,vs,rfl,sq,rs⟩:=r.w.tuple
        refine ⟨p,vs,rfl,.inl sq,by rw [rs.length]; exact hl,gSlots_of (by rw [rs.length]; exact hl) ?_⟩
        exact RepS.setAll (X:=X) (es:=es) R rs hl Q trivial trivial fun ow' σ' R' f' c' _ => q ow' σ' R' f' c'
      · cases e
    | list ds =>
      replace e:(if ds.length = is.length then some (setD is ds δ) else none) = some δ':=e
      split at e
      · rename_i hl
        cases e
        obtain ⟨p,vs,rfl,sq,_,rs⟩:=r.w.list
        refine ⟨p,vs,rfl,.inr sq,by rw [rs.length]; exact hl,gSlots_of (by rw [rs.length]; exact hl) ?_⟩
        exact RepS.setAll (X:=X) (es:=es) R rs hl Q trivial trivial fun ow' σ' R' f' c' _ => q ow' σ' R' f' c'
      · cases e
    | _ => cases e⟩
noncomputable def sUnp (T:Tgt) (F:FE):GS:=fun δ s => (F δ s).bind fun p => (T.run p.1 δ).map fun δ' => (.next δ',p.2)
theorem ds_asg (he:DE X e F) (hg:DG X tg T) (h1:List.map (·.2) (assignEach [tg] X.env) = [assign tg X.env]:=by rfl) (hs:swapsWithSole [tg] e pos.line X.env = pure false:=by rfl) (hw:swappedStores [tg] e X.env = pure none:=by rfl):DS X (.Assign [tg] e pos) (sUnp T F):=⟨fun Z A => PS.imp (ps_asg (he Z A) (hg Z A) hs hw h1) fun E σ H x__133 => by
  obtain ⟨ow,δ,s,o,s',R,S,e,q⟩:=x__133
  unfold sUnp at e
  first | refine bnd2 e fun d s1 e1 e => ?_ | refine mpp2 e fun d s1 e1 e => ?_
  replace e:((T.run d δ).map fun δ' => (Out.next δ',s1)) = some (o,s'):=e
  cases e2:T.run d δ with
  | none => rw [e2] at e; cases e
  | some δ2 =>
    rw [e2] at e
    cases e
    exact ⟨_,ow,δ,s,d,s',R,S,e1,fun v H1 x1 S1 r => ⟨_,ow,δ,d,δ2,R.mono x1,r,e2,fun ow' σ' R' f c => q ow' σ' H1 R' S1 ((Frm.ext x1).trans f)⟩⟩⟩
noncomputable def forD (T:Tgt) (G:GS):List D→GS
  | [],δ,s => some (.next δ,s)
  | d :: ds,δ,s => (T.run d δ).bind fun δ1 => match G δ1 s with
    | some (.next δ',s') => forD T G ds δ' s'
    | some (.cnt δ',s') => forD T G ds δ' s'
    | some (.brk δ',s') => some (.next δ',s')
    | some (.ret r,s') => some (.ret r,s')
    | some (.own r,s') => some (.own r,s')
    | none => none
noncomputable def sFor (Fi:FI) (T:Tgt) (G:GS):GS:=fun δ s => (Fi δ s).bind fun p => forD T G p.1 δ p.2
theorem ds_for (hi:DI X tg iter Fi) (hg:DG X tg T) (hb:DSs X body G) (hp:PassesOwn (model X.prog X.w) X.A X.env X.xe:=by exact PassesOwn.never) (hc:X.calm = true:=by rfl) (hs:∀ x,foldedSetIterable iter X.env x = pure x:=by intro _; rfl) :
    DS X (.For tg iter body [] pos) (sFor Fi T G):=⟨fun Z A => PS.imp (ps_for hp hc (hi Z A) (hg Z A) (hb Z A) hs) fun E σ H x__134 => by
  obtain ⟨ow,δ,s,o,s',R,S,e,q⟩:=x__134
  unfold sFor at e
  first | refine bnd2 e fun ds s1 e1 e => ?_ | refine mpp2 e fun ds s1 e1 e => ?_
  replace e:forD T G ds δ s1 = some (o,s'):=e
  refine ⟨_,ow,δ,s,ds,s1,R,S,e1,fun J H1 x1 S1 src => ?_⟩
  have q1:=q.frm (Frm.ext x1)
  refine ⟨fun i m σ H => ∃ ow' δ s,m = ds.length - i∧i ≤ ds.length∧RepS X.K X.H₀ Z A ow' σ δ H∧StateAt Z H s∧Frm Z ow H1 ow' H∧forD T G (ds.drop i) δ s = some (o,s')∧postS X Z A ow' H s' E o,
    ⟨ds.length,ow,δ,s1,by simp,Nat.zero_le _,R.mono x1,S1,.refl,by simpa using e,q1⟩,?_⟩
  rintro i m σ2 H2 ⟨ow2,δ2,s2,rfl,hi,R2,S2,f2,e2,q2⟩
  have sr:=src ow2 H2 s2 f2 S2 R2.all i
  by_cases hlt:i < ds.length
  · have hd:ds[i]? = some ds[i]:=List.getElem?_eq_getElem hlt
    obtain ⟨go,yl⟩:=sr.1 _ hd
    rw [List.drop_eq_getElem_cons hlt] at e2
    replace e2:((T.run ds[i] δ2).bind fun δ1 => match G δ1 s2 with
      | some (.next δ',s') => forD T G (ds.drop (i + 1)) δ' s'
      | some (.cnt δ',s') => forD T G (ds.drop (i + 1)) δ' s'
      | some (.brk δ',s') => some (.next δ',s')
      | some (.ret r,s') => some (.ret r,s')
      | some (.own r,s') => some (.own r,s')
      | none => none) = some (o,s'):=e2
    refine .inr ⟨go,fun σ' H' => ∃ ow' δ s,RepS X.K X.H₀ Z A ow' σ' δ H'∧StateAt Z H' s∧Frm Z ow H1 ow' H'∧forD T G (ds.drop (i + 1)) δ s = some (o,s')∧postS X Z A ow' H' s' E o,
      fun σ' H' x__135 => (by obtain ⟨ow',δ',s3,a1,a2,a3,a4,a5⟩:=x__135; exact ⟨ds.length - (i + 1),by omega,ow',δ',s3,rfl,hlt,a1,a2,a3,a4,a5⟩),fun x H3 y => ?_⟩
    obtain ⟨x3,S3,r3⟩:=yl x H3 y
    cases e3:T.run ds[i] δ2 with
    | none => rw [e3] at e2; cases e2
    | some δ3 =>
      rw [e3] at e2
      replace e2:(match G δ3 s2 with
        | some (.next δ',s') => forD T G (ds.drop (i + 1)) δ' s'
        | some (.cnt δ',s') => forD T G (ds.drop (i + 1)) δ' s'
        | some (.brk δ',s') => some (.next δ',s')
        | some (.ret r,s') => some (.ret r,s')
        | some (.own r,s') => some (.own r,s')
        | none => none) = some (o,s'):=e2
      refine ⟨X.H₀,ow2,δ2,ds[i],δ3,R2.mono x3,r3,e3,fun ow4 σ4 R4 f4 _ => ?_⟩
      have q4:=(q2.frm (Frm.ext x3)).frm f4
      have f14:Frm Z ow H1 ow4 H3:=(f2.trans (Frm.ext x3)).trans f4
      cases e4:G δ3 s2 with
      | none => rw [e4] at e2; cases e2
      | some r =>
        obtain ⟨o4,s4⟩:=r
        rw [e4] at e2
        refine ⟨ow4,δ3,s2,o4,s4,R4,S3,e4,?_⟩
        cases o4 with
        | next δ5 => exact fun ow' σ' H' R' S' f => ⟨ow',δ5,s4,R',S',f14.trans f,e2,q4.frm f⟩
        | cnt δ5 => exact fun ow' σ' H' R' S' f => ⟨ow',δ5,s4,R',S',f14.trans f,e2,q4.frm f⟩
        | brk δ5 => cases e2; exact q4
        | ret d => cases e2; exact q4
        | own d => cases e2; exact q4
  · have hi':i = ds.length:=by omega
    subst hi'
    rw [List.drop_length] at e2
    cases e2
    exact .inl ⟨sr.2 (Nat.le_refl _),q2 ow2 σ2 H2 R2 S2 .refl⟩⟩
noncomputable def compDl (k:Nat) (fr:List Nat) (δ:Sl):Sl:=List.replicate k .non ++ fr.map fun j => match δ[j]? with | some (.val d) => .val d | _ => .non
noncomputable def compD (T:Tgt) (Ft:FT) (F:FE) (δc:Sl):List D→Sx→Option (List D × Sx)
  | [],s => some ([],s)
  | d :: ds,s => (T.run d δc).bind fun δ1 => (Ft δ1 s).bind fun p => if p.1 = true then (F δ1 p.2).bind fun q => (compD T Ft F δc ds q.2).map fun r => (q.1 :: r.1,r.2) else compD T Ft F δc ds p.2
noncomputable def fTrue:FT:=fun _ s => some (true,s)
structure DIfs (X:Cx) (ifs:List Expr) (F:FT):Prop where
  go:∀ Z A,PIfs X ifs (tDT X Z A F)
instance {X:Cx} {ifs:List Expr} {F:FT}:CoeFun (DIfs X ifs F) (fun _ => ∀ Z A,PIfs X ifs (tDT X Z A F)):=⟨fun h => h.go⟩
theorem difs_nil:DIfs X [] fTrue:=⟨fun Z A pins s σ H Q I x__136 => by
  obtain ⟨B,ow,δ,st,b,st',R,S,e,q⟩:=x__136
  cases e
  exact pifs_nil pins s σ H Q I (q H (Ext.refl H) S)⟩
theorem difs_one (h:DT X e Ft):DIfs X [e] Ft:=⟨fun Z A => pifs_one (h Z A)⟩
noncomputable def fComp (k:Nat) (fr:List Nat) (Fi:FI) (T:Tgt) (Ft:FT) (F:FE):FO:=fun δ s => (Fi δ s).bind fun p => if small p.1 = true then compD T Ft F (compDl k fr δ) p.1 p.2 else none
theorem compDl_val {k:Nat} {fr:List Nat} {δ:Sl} {i:Nat} {d:D} (h:(compDl k fr δ)[i]? = some (.val d)):∃ t j,i = k + t∧fr[t]? = some j∧δ[j]? = some (.val d):=by
  unfold compDl at h
  by_cases hi:i < k
  · rw [List.getElem?_append_left (by simpa using hi),List.getElem?_replicate] at h
    split at h <;> cases h
  · rw [List.getElem?_append_right (by simpa using Nat.not_lt.mp hi),List.length_replicate,List.getElem?_map] at h
    refine ⟨i - k,?_⟩
    cases e:fr[i - k]? with
    | none => rw [e] at h; cases h
    | some j =>
      rw [e] at h
      refine ⟨j,by omega,rfl,?_⟩
      simp only [Option.map_some,Option.some.injEq] at h
      split at h
      · rename_i d' e2
        cases h
        exact e2
      · cases h
theorem compDl_own {k:Nat} {fr:List Nat} {δ:Sl} {i:Nat} {xs:List D} (h:(compDl k fr δ)[i]? = some (.own xs)):False:=by
  unfold compDl at h
  by_cases hi:i < k
  · rw [List.getElem?_append_left (by simpa using hi),List.getElem?_replicate] at h
    split at h <;> cases h
  · rw [List.getElem?_append_right (by simpa using Nat.not_lt.mp hi),List.length_replicate,List.getElem?_map] at h
    cases e:fr[i - k]? with
    | none => rw [e] at h; cases h
    | some j =>
      rw [e] at h
      simp only [Option.map_some,Option.some.injEq] at h
      split at h <;> cases h
theorem comp_read {k:Nat} {fr:List Nat} {Z:Zt} {A:List Addr} {ow:Ow} {σ:L2.St} {δ:Sl} {B H1:Hp} {s1 s':Sx} {J:It} {ds rs:List D} {Fin:List V→Hp→Prop} (hT:∀ i ∈ T.slots,i < k) (R:RepS X.K B Z A ow σ δ H1) (S1:StateAt Z H1 s1) (src:Src X.K Z A ow J ds H1) (hsm:small ds = true)
    (e:compD T Ft F (compDl k fr δ) ds s1 = some (rs,s')) (fin:∀ ys H2,Ext Z H1 H2→StateAt Z H2 s'→Reps X.K Z H2 (A ++ ow.map (·.2)) ys rs→ys.length ≤ sizeLine→Fin ys H2) :
    CompW J (tDG X.K Z (A ++ ow.map (·.2)) T) (tDT X Z (A ++ ow.map (·.2)) Ft) (tD X Z (A ++ ow.map (·.2)) F) (compSt k fr σ) H1 Fin:=by
  have hd0:ds.length ≤ sizeLine:=of_decide_eq_true hsm
  have RY:∀ {H2:Hp},Ext Z H1 H2→RepS X.K H1 Z (A ++ ow.map (·.2)) [] (compSt k fr σ) (compDl k fr δ) H2:=fun {H2} x => {
    ok:=fun q hq => by
      refine ⟨(R.mono x).all q hq,?_⟩
      rcases List.mem_append.mp hq with h | h
      · exact (R.ok q h).2
      · obtain ⟨⟨i,p⟩,hp,rfl⟩:=List.mem_map.mp h
        exact (R.ows i p hp).2.2.1
    ext:=x
    len:=by simp [compDl,compSt]
    val:=fun i d h => by
      obtain ⟨t,j,rfl,h1,h2⟩:=compDl_val h
      obtain ⟨v,h3,h4⟩:=(R.mono x).val j d h2
      refine ⟨v,?_,by rw [List.map_nil,List.append_nil]; exact h4⟩
      unfold compSt
      rw [List.getElem?_append_right (by simp),List.length_replicate,Nat.add_sub_cancel_left,List.getElem?_map,h1]
      show some ((σ[j]?).getD none) = _
      rw [h3]; rfl
    own:=fun i xs h => (compDl_own h).elim
    ows:=fun i p h => nomatch h
    inj:=fun i j p h => nomatch h }
  refine ⟨fun i m ys H2 => ∃ s2 r1 r2,m = ds.length - i∧i ≤ ds.length∧ys.length ≤ i∧Ext Z H1 H2∧StateAt Z H2 s2∧Reps X.K Z H2 (A ++ ow.map (·.2)) ys r1∧rs = r1 ++ r2∧compD T Ft F (compDl k fr δ) (ds.drop i) s2 = some (r2,s'),
    ⟨ds.length,s1,[],rs,by simp,Nat.zero_le _,Nat.le_refl _,Ext.refl _,S1,.nil,rfl,by simpa using e⟩,?_⟩
  rintro i m ys H2 ⟨s2,r1,r2,rfl,hi,hy,x2,S2,rep,rfl,e2⟩
  have sr:=src ow H2 s2 (Frm.ext x2) S2 (R.mono x2).all i
  by_cases hlt:i < ds.length
  · have hd:ds[i]? = some ds[i]:=List.getElem?_eq_getElem hlt
    obtain ⟨go,yl⟩:=sr.1 _ hd
    rw [List.drop_eq_getElem_cons hlt] at e2
    replace e2:((T.run ds[i] (compDl k fr δ)).bind fun δ1 => (Ft δ1 s2).bind fun p => if p.1 = true then (F δ1 p.2).bind fun q => (compD T Ft F (compDl k fr δ) (ds.drop (i + 1)) q.2).map fun r => (q.1 :: r.1,r.2) else compD T Ft F (compDl k fr δ) (ds.drop (i + 1)) p.2) = some (r2,s'):=e2
    refine .inr ⟨go,by omega,fun x H3 y => ?_⟩
    obtain ⟨x3,S3,r3⟩:=yl x H3 y
    cases e3:T.run ds[i] (compDl k fr δ) with
    | none => rw [e3] at e2; cases e2
    | some δ3 =>
      rw [e3] at e2
      replace e2:((Ft δ3 s2).bind fun p => if p.1 = true then (F δ3 p.2).bind fun q => (compD T Ft F (compDl k fr δ) (ds.drop (i + 1)) q.2).map fun r => (q.1 :: r.1,r.2) else compD T Ft F (compDl k fr δ) (ds.drop (i + 1)) p.2) = some (r2,s'):=e2
      refine ⟨H1,[],compDl k fr δ,ds[i],δ3,RY (x2.trans x3),by rw [List.map_nil,List.append_nil]; exact r3,e3,fun ow4 σ4 R4 f4 c4 => ⟨⟨c4.1,fun j v hj => ?_⟩,?_⟩⟩
      · by_cases hs:j ∈ T.slots
        · rw [compSt_own (hT j hs)] at hj; cases hj
        · rw [c4.2 j hs]; exact hj
      · cases e4:Ft δ3 s2 with
        | none => rw [e4] at e2; cases e2
        | some p =>
          obtain ⟨b,s4⟩:=p
          rw [e4] at e2
          refine ⟨H1,ow4,δ3,s2,b,s4,R4,S3,e4,fun H5 x5 S5 => ?_⟩
          cases b with
          | false =>
            replace e2:compD T Ft F (compDl k fr δ) (ds.drop (i + 1)) s4 = some (r2,s'):=e2
            exact iteF ⟨ds.length - (i + 1),by omega,s4,r1,r2,rfl,hlt,by omega,(x2.trans x3).trans x5,S5,rep.ext (x3.trans x5),rfl,e2⟩
          | true =>
            replace e2:((F δ3 s4).bind fun q => (compD T Ft F (compDl k fr δ) (ds.drop (i + 1)) q.2).map fun r => (q.1 :: r.1,r.2)) = some (r2,s'):=e2
            refine iteT ?_
            first | refine bnd2 e2 fun dy s5 e5 e2 => ?_ | refine mpp2 e2 fun dy s5 e5 e2 => ?_
            replace e2:((compD T Ft F (compDl k fr δ) (ds.drop (i + 1)) s5).map fun r => (dy :: r.1,r.2)) = some (r2,s'):=e2
            first | refine bnd1 e2 fun r e6 e2 => ?_ | refine mpp1 e2 fun r e6 e2 => ?_
            cases e2
            refine ⟨H1,ow4,δ3,s4,dy,s5,R4.mono x5,S5,e5,fun yv H6 x6 S6 ry => ⟨ds.length - (i + 1),by omega,s5,r1 ++ [dy],r.1,rfl,hlt,by rw [List.length_append,List.length_singleton]; omega,((x2.trans x3).trans x5).trans x6,S6,?_,by simp,e6⟩⟩
            exact (rep.ext ((x3.trans x5).trans x6)).append (.cons (ry.sub fun q hq => List.mem_append_left _ hq) .nil)
  · have hi':i = ds.length:=by omega
    subst hi'
    rw [List.drop_length] at e2
    cases e2
    exact .inl ⟨sr.2 (Nat.le_refl _),fin ys H2 x2 S2 (by rw [List.append_nil]; exact rep) (Nat.le_trans hy hd0)⟩

theorem fresh_move {Z:Zt} {H:Hp} {A:List Addr} {p:Addr} {o:HO} (hp:H p = none):∀ q u,H q = some u→¬ q ∈ A→NotZ Z q→upd H p o q = some u∧¬ q ∈ p :: A:=fun q u h n _ =>
  ⟨by rw [upd_ne (ne_of_none h hp)]; exact h,fun m => (List.mem_cons.mp m).elim (fun e => ne_of_none h hp e) n⟩
theorem Rep.fresh {K:PySem.W.Frag} {Z:Zt} {H:Hp} {A:List Addr} {p:Addr} {o:HO} (hp:H p = none) {v:V} {d:D} (r:Rep K Z H A v d):Rep K Z (upd H p o) (p :: A) v d:=r.move (fresh_move hp)
theorem Reps.fresh {K:PySem.W.Frag} {Z:Zt} {H:Hp} {A:List Addr} {p:Addr} {o:HO} {vs:List V} {ds:List D} (hp:H p = none) (r:Reps K Z H A vs ds):Reps K Z (upd H p o) (p :: A) vs ds:=r.move (fresh_move hp)
inductive tDFK (K:PySem.W.Frag) (Z:Zt) (A:List Addr) (F:FO) (σ:L2.St) (H:Hp) (Q:VK):Prop
  | mk (B:Hp) (ow:Ow) (δ:Sl) (s:Sx) (ds:List D) (s':Sx) (h0:RepS K B Z A ow σ δ H) (h1:StateAt Z H s) (h2:F δ s = some (ds,s')) (h3:∀ p vs H',Ext Z H H'→StateAt Z H' s'→H p = none→H' p = some (.lst vs)→Reps K Z H' (p :: (A ++ ow.map (·.2))) vs ds→Q (.ref p) H')
noncomputable abbrev tDF (X:Cx) (Z:Zt) (A:List Addr) (F:FO):TE:=tDFK X.K Z A F
structure DF (X:Cx) (e:Expr) (F:FO):Prop where
  go:∀ Z A,PE X e (tDF X Z A F)
instance {X:Cx} {e:Expr} {F:FO}:CoeFun (DF X e F) (fun _ => ∀ Z A,PE X e (tDF X Z A F)):=⟨fun h => h.go⟩
theorem DF.de {Fo:FO} (h:DF X e Fo):DE X e (asL Fo):=⟨fun Z A => PE.imp (h Z A) fun σ H Q x__137 => by
  obtain ⟨B,ow,δ,s,d,s',R,S,ee,q⟩:=x__137
  unfold asL at ee
  first | refine bnd1 ee fun p e1 ee => ?_ | refine mpp1 ee fun p e1 ee => ?_
  cases ee
  exact ⟨B,ow,δ,s,p.1,p.2,R,S,e1,fun p vs H' x1 S1 n h r => q _ H' x1 S1 (.lst h (fresh_not R.all n) (S.notZ n) (r.sub fun q hq => List.mem_cons_of_mem _ hq))⟩⟩
theorem df_comp {k:Nat} {fr:List Nat} {scope:Scope} {cl:List (Str × Addr)} {N:List Str} {ifs:List Expr} (ok:CompOk X scope cl N k fr) (hT:∀ i ∈ T.slots,i < k) (hi:DI X tg iter Fi)
    (hg:∀ C s H ex,DG (compCx X scope cl N C s H ex) tg T) (ht:∀ C s H ex,DIfs (compCx X scope cl N C s H ex) ifs Ft) (he:∀ C s H ex,DE (compCx X scope cl N C s H ex) elt F)
    (hc:X.calm = true:=by rfl) (hs:∀ x,foldedSetIterable iter X.env x = pure x:=by intro _; rfl):DF X (.ListComp elt [⟨tg,iter,ifs,0⟩] scope pos) (fComp k fr Fi T Ft F):=⟨fun Z A pins s σ H Q I x__138 => by
  obtain ⟨B,ow,δ,st,ds,st',R,S,e,q⟩:=x__138
  unfold fComp at e
  first | refine bnd2 e fun src s1 e1 e => ?_ | refine mpp2 e fun src s1 e1 e => ?_
  replace e:(if small src = true then compD T Ft F (compDl k fr δ) src s1 else none) = some (ds,st'):=e
  split at e
  · rename_i hsm
    refine pe_comp (g:=tDG X.K Z (A ++ ow.map (·.2)) T) (tt:=tDT X Z (A ++ ow.map (·.2)) Ft) (te:=tD X Z (A ++ ow.map (·.2)) F) ok hc (hi Z A) (fun C s H ex => hg C s H ex Z _) (fun C s H ex => ht C s H ex Z _) (fun C s H ex => he C s H ex Z _) hs pins s σ H Q I
      ⟨B,ow,δ,st,src,s1,R,S,e1,fun J H1 x1 S1 sr => comp_read hT (R.mono x1) S1 sr hsm e fun ys H2 x2 S2 rs hl => ⟨hl,fun p hp => ?_⟩⟩
    have hp1:H p = none:=by
      cases e9:H p with
      | none => rfl
      | some o =>
        have nz:NotZ Z p:=S2.notZ hp
        rw [(x1.trans x2) p o e9 nz] at hp
        cases hp
    exact q p ys _ ((x1.trans x2).trans (Ext.upd hp)) (S2.upd hp) hp1 upd_same (rs.fresh hp)
  · cases e⟩
noncomputable def sSetL (i:Nat) (F:FO):GS:=fun δ s => (F δ s).map fun p => (.next (δ.set i (.val (.list p.1))),p.2)
theorem ds_comp {i:Nat} {x:Str} {py spos:Pos} {k:Nat} {fr:List Nat} {scope:Scope} {cl:List (Str × Addr)} {N:List Str} {ifs:List Expr} (hN:X.N.Nodup) (ok:CompOk X scope cl N k fr) (hT:∀ i ∈ T.slots,i < k) (hi:DI X tg iter Fi)
    (hg:∀ C s H ex,DG (compCx X scope cl N C s H ex) tg T) (ht:∀ C s H ex,DIfs (compCx X scope cl N C s H ex) ifs Ft) (he:∀ C s H ex,DE (compCx X scope cl N C s H ex) elt F)
    (hsw:swapsWith (.ListComp elt [⟨tg,iter,ifs,0⟩] scope pos) (some (.Name x py)) spos.line X.env = pure true) (hi':X.N[i]? = some x:=by rfl) (hx:Loc X.env.scope x:=by first | exact Or.inl rfl | exact Or.inr rfl)
    (hc:X.calm = true:=by rfl) (hs:∀ x,foldedSetIterable iter X.env x = pure x:=by intro _; rfl) (hf:X.fn x = true ∨ X.env.scope.names.lookup x = some .local:=by first | exact .inl rfl | exact .inr rfl | assumption) :
    DS X (.Assign [.Name x py] (.ListComp elt [⟨tg,iter,ifs,0⟩] scope pos) spos) (sSetL i (fComp k fr Fi T Ft F)):=⟨fun Z A pins s σ H E I x__139 => by
  obtain ⟨ow,δ,st,o,st',R,S,e,q⟩:=x__139
  unfold sSetL at e
  first | refine bnd1 e fun r e0 e => ?_ | refine mpp1 e fun r e0 e => ?_
  cases e
  unfold fComp at e0
  first | refine bnd2 e0 fun src s1 e1 e0 => ?_ | refine mpp2 e0 fun src s1 e1 e0 => ?_
  replace e0:(if small src = true then compD T Ft F (compDl k fr δ) src s1 else none) = some r:=e0
  split at e0
  · rename_i hsm
    refine ps_comp (g:=tDG X.K Z (A ++ ow.map (·.2)) T) (tt:=tDT X Z (A ++ ow.map (·.2)) Ft) (te:=tD X Z (A ++ ow.map (·.2)) F) hN hi' hx ok hc (hi Z A) (fun C s H ex => hg C s H ex Z _) (fun C s H ex => ht C s H ex Z _) (fun C s H ex => he C s H ex Z _) hsw hs hf pins s σ H E I
      ⟨_,ow,δ,st,src,s1,R,S,e1,fun J H1 x1 S1 sr => comp_read (s':=r.2) (rs:=r.1) hT (R.mono x1) S1 sr hsm e0 fun ys H2 x2 S2 rs hl => ⟨hl,fun p hp => ?_⟩⟩
    have R2:=((R.mono x1).mono x2).mono (Ext.upd (o:=.lst ys) hp)
    obtain ⟨R3,f3⟩:=R2.set (i:=i) (v:=.ref p) (d:=.list r.1) (.lst upd_same (fresh_not ((R.mono x1).mono x2).all hp) (S2.notZ hp) (rs.ext (Ext.upd hp)))
    exact q _ _ _ R3 (S2.upd hp) ((Frm.ext ((x1.trans x2).trans (Ext.upd hp))).trans f3)
  · cases e0⟩
end
end L3

namespace L3
open PySem L2 PySem.Spec PyProof.Rows
section
variable {X:Cx} {a b e:Expr} {es:List Expr} {F Fa Fb:FE} {FL:FA} {x:Str} {p pos:Pos}
noncomputable def tru:D→Option Bool
  | .none => some false | .bool k => some k | .int i => some (i != 0) | .list xs => some (!xs.isEmpty) | .tuple xs => some (!xs.isEmpty) | _ => none
noncomputable def asT (F:FE):FT:=fun δ s => (F δ s).bind fun p => (tru p.1).map fun k => (k,p.2)
theorem isEmpty_reps {K:PySem.W.Frag} {Z:Zt} {H:Hp} {A:List Addr} {vs:List V} {ds:List D} (r:Reps K Z H A vs ds):vs.isEmpty = ds.isEmpty:=by
  cases r <;> rfl
theorem dt_tru (ha:DW X a F) (he:∀ whole,isTrue a X.env whole = (do let v ← whole; standAt a.pos; holding [v] (truthy v)):=by intro _; rfl):DT X a (asT F):=⟨fun Z A => PT.imp (pt_truth (ha Z A) he) fun σ H Q x__140 => by
  obtain ⟨B,ow,δ,s,k,s',R,S,e,q⟩:=x__140
  unfold asT at e
  cases e1:F δ s with
  | none => rw [e1] at e; cases e
  | some p =>
    obtain ⟨d,s1⟩:=p
    rw [e1] at e
    refine ⟨B,ow,δ,s,d,s1,R,S,e1,fun v H1 x1 S1 r => ?_⟩
    cases d with
    | none => cases e; rw [r.none]; exact ⟨_,rfl,q H1 x1 S1⟩
    | bool i => cases e; rw [r.bool]; exact ⟨_,rfl,q H1 x1 S1⟩
    | int i => cases e; rw [r.int]; exact ⟨_,rfl,q H1 x1 S1⟩
    | list ds =>
      cases e
      obtain ⟨p,vs,rfl,sq,_,rs⟩:=r.list
      exact ⟨_,.inl ⟨vs,sq,by rw [isEmpty_reps rs]⟩,q H1 x1 S1⟩
    | tuple ds =>
      cases e
      obtain ⟨p,vs,rfl,sq,rs⟩:=r.tuple
      exact ⟨_,.inr (.inl ⟨vs,sq,by rw [isEmpty_reps rs]⟩),q H1 x1 S1⟩
    | str _ => cases e
    | dict _ => cases e⟩
noncomputable def gCatL:G2:=fun a b => match a,b with | .list xs,.list ys => if small (xs ++ ys) = true then some (.list (xs ++ ys)) else none | _,_ => none
theorem RepW.lst {K:PySem.W.Frag} {Z:Zt} {H:Hp} {A:List Addr} {v:V} {ds:List D} (r:RepW K Z H A v (.list ds)):∃ p vs,v = .ref p∧H p = some (.lst vs)∧NotZ Z p∧Reps K Z H A vs ds:=by
  rcases r with r | ⟨p,vs,ds,e1,e2,e3,e4,e5⟩
  · cases r with
    | lst h n z q => exact ⟨_,_,rfl,h,z,q⟩
  · cases e2; exact ⟨p,vs,e1,e3,e4,e5⟩
theorem dcat:DOp X (binaryOp .Add) gCatL:=DOp.of op_cat fun Z A H st x y dx dy d Q S hA rx ry e q => by
  unfold gCatL at e
  split at e
  · split at e
    · rename_i hs
      cases e
      obtain ⟨p1,v1,rfl,h1,_,r1⟩:=rx.lst
      obtain ⟨p2,v2,rfl,h2,_,r2⟩:=ry.lst
      have hl:=of_decide_eq_true hs
      rw [List.length_append] at hl
      refine ⟨p1,p2,v1,v2,rfl,rfl,h1,h2,by rw [r1.length,r2.length]; exact hl,fun p hp => ?_⟩
      exact q _ _ (Ext.upd hp) (S.upd hp) (.lst upd_same (fresh_not hA hp) (S.notZ hp) ((r1.append r2).ext (Ext.upd hp)))
    · cases e
  · cases e
noncomputable def gAdd:G2:=fun a b => (gAddI a b).or (gCatL a b)
theorem dadd:DOp X (binaryOp .Add) gAdd:=DOp.or dadd_int dcat
theorem spD_none {K:PySem.W.Frag} {vs:List V} {H:Hp} {Q:VK} {E:XK} (h:spD K (fun _ _ => none) vs H Q E):False:=by
  obtain ⟨_,_,_,_,_,_,_,_,_,e,_⟩:=h
  cases e
inductive Cal (P:Program) (w:World) (K:PySem.W.Frag) (mg:Str→Option Value) (base:Heap) (x:Str) (ps:List Str) (k:Nat) (g:GF):Prop
  | mk (f:Addr) (fd:FuncData) (h0:FnOk P w K mg base CX0 k f fd ps (spD K g)) (h1:mg x = some (.ref f)) (h2:PySem.W.keepIn K (.ref f) = true) (h3:Binds K fd ps [])
theorem de_cal {gf:GF} {k k':Nat} {ps:List Str} (C:Cal X.prog X.w X.K X.mg X.base x ps k gf) (hr:Room k' X.A) (ha:DA X (e :: es) FL) (hk:k ≤ k':=by decide) (hg:Gl X x:=by rfl) (hdb:(x == ("__debug__":Str)) = false:=by decide)
    (he:starEach (e :: es) X.env = (false,eval e X.env) :: starEach es X.env:=by rfl) (hpl:(backTo pos (starEach es X.env)).any (·.1) = false:=by rfl):DE X (.Call (.Name x p) (e :: es) [] pos) (fCall gf FL):=by
  obtain ⟨f,fd,G,hm,hk',hb⟩:=C
  exact de_call G (hr.mono hk) hm hk' hb ha hg hdb he hpl
theorem lookup_kind {names:List (Str × NameKind)} {x:Str} {k:NameKind} (h:names.lookup x = some k):∃ y ∈ names,y.2 = k:=by
  induction names with
  | nil => cases h
  | cons y r ih =>
    rw [List.lookup_cons] at h
    split at h
    · cases h; exact ⟨y,List.mem_cons_self,rfl⟩
    · obtain ⟨z,hz,e⟩:=ih h
      exact ⟨z,List.mem_cons_of_mem _ hz,e⟩
theorem compOk0 {scope:Scope} {N:List Str} {k:Nat} (kind:scope.kind = .function) (nocell:∀ y ∈ scope.names,y.2 ≠ .cell) (nofree:∀ y ∈ scope.names,y.2 ≠ .free) (names:∀ y ∈ scope.names,y.2 = .local→scope.names.lookup y.1 = some .local) (len:N.length = k):CompOk X scope [] N k [] where
  kind:=kind
  nocell:=nocell
  names:=names
  clos:=closureFor_none nofree
  sub:=fun x c h => nomatch h
  has:=fun x h => by
    have e:(relabel scope X.env).names = scope.names:=by
      unfold relabel
      refine map_eq_self fun y hy => ?_
      obtain ⟨n,kk⟩:=y
      have:=nofree _ hy
      cases kk <;> first | rfl | exact absurd rfl this
    rw [e] at h
    rcases h with h | h
    · obtain ⟨y,hy,ey⟩:=lookup_kind h; exact absurd ey (nocell y hy)
    · obtain ⟨y,hy,ey⟩:=lookup_kind h; exact absurd ey (nofree y hy)
  len:=by rw [len]; rfl
  free:=fun t j x h => nomatch h
end
end L3

namespace L3
open PySem L2 PySem.Spec PyProof.Rows
theorem ct_ne:¬ (("cells":Str) = "turn"):=by decide +kernel
theorem key_ne:¬ ((Sum.inr ("cells":Str):Key) = Sum.inr ("turn":Str)):=fun e => ct_ne (Sum.inr.inj e)
theorem st_turn (c:Addr) (t:Int):valV (stDict c t) (Sum.inr "turn":Key) = some (.int t):=by
  unfold stDict
  rw [valV_neg key_ne,valV_pos rfl]
theorem st_cells (c:Addr) (t:Int):valV (stDict c t) (Sum.inr "cells":Key) = some (.ref c):=by
  unfold stDict
  rw [valV_pos rfl]
theorem st_put (c:Addr) (t u:Int):putK (stDict c t) (Sum.inr "turn":Key) (.int u) = stDict c u:=by
  have e:((stDict c t).any fun kv => decide (kv.1 = (Sum.inr "turn":Key))) = true:=by rw [valV_any,st_turn]; rfl
  unfold putK
  rw [if_pos e]
  unfold stDict
  simp only [List.map_cons,List.map_nil,if_neg key_ne,if_true]
section
variable {X:Cx}
theorem call_divmodB:CallR X (.builtin "divmod") (fun xs H Q => ∃ i j,xs = [.int i,.int j]∧divOk i j = true∧∀ p,H p = none→Q (.ref p) (upd H p (.tup [.int (i.fdiv j),.int (i.fmod j)]))):=by
  intro pins s σ H xs us Q I r h
  obtain ⟨i,j,rfl,hd,q⟩:=h
  obtain ⟨u,w',rfl,⟨t,rfl⟩,⟨t',rfl⟩⟩:=vals2 r
  have hd':(decide (j ≠ 0) && decide (j.natAbs.log2 < 9000)) = true:=hd
  rw [Bool.and_eq_true] at hd'
  refine divmod_int (of_decide_eq_true hd'.1) ?_ (.inl (PyProof.noPylong_of_log2 (of_decide_eq_true hd'.2)))
  have hn:H s.heap.objs.size = none:=I.hok.fresh (Nat.le_refl _)
  refine ⟨.ref s.heap.objs.size,_,?_,rfl,q _ hn⟩
  refine I.laid (fun b o e => Heap.get?_push_of_some _ e) (Nat.le_refl _) ⟨by show 2 ≤ sizeLine; decide,[.int (i.fdiv j) s.toks,.int (i.fmod j) (s.toks + 1)],.cons ⟨_,rfl⟩ (.cons ⟨_,rfl⟩ .nil),?_⟩
  exact ⟨_,Heap.get?_push_size s.heap rfl,rfl,0,rfl⟩
end
noncomputable def mix1 (cell t:Int):Int:=((cell.fmod 2147483629 + t * t * 7919 + 11) * 48271).fmod 2147483647
noncomputable def mix2 (cell t:Int):Int:=(mix1 cell t * mix1 cell t).fmod 2147483587
noncomputable def mix (cell t many:Int):Int:=((((mix2 cell t + t * 104729) * 39373).fmod 2147483629).fdiv 64).fmod many
noncomputable def takeOk (s:Sx) (many:Int):Bool:=decide (0 < many) && decide (many.natAbs.log2 < 9000) && decide (0 ≤ s.2) && decide (s.2 < 1000000) && decide (0 < s.1.length) && decide (s.1.length ≤ 1000)
noncomputable def plcOf (s:Sx):Nat:=((s.2 + 1).fmod s.1.length).toNat
noncomputable def celOf (s:Sx):Int:=s.1.getD (plcOf s) 0
noncomputable def takeF (s:Sx) (many:Int):D × Sx :=
  if 1000000000000000000 ≤ celOf s then (.int ((celOf s).fmod many),(s.1.set (plcOf s) ((celOf s).fdiv many),s.2 + 1))
  else (.int (mix (celOf s) (s.2 + 1) many),(s.1,s.2 + 1))
noncomputable def g__law_take:GF:=fun ds s => match ds with
  | [.dict [],.int many] => if takeOk s many = true then some (takeF s many) else none
  | _ => none
noncomputable def Good (n:Nat) (s:Sx):Prop:=0 < s.1.length∧s.1.length ≤ 63∧0 ≤ s.2∧s.2 + n < 1000000
theorem Good.mono {n m:Nat} {s:Sx} (h:Good n s) (hm:m ≤ n):Good m s:=⟨h.1,h.2.1,h.2.2.1,by have:=h.2.2.2; omega⟩
theorem take_spec {s:Sx} {many:Int} {n:Nat} (h:Good (n + 1) s) (h1:0 < many) (h2:many < 2 ^ 100):∃ r s',g__law_take [.dict [],.int many] s = some (.int r,s')∧0 ≤ r∧r < many∧Good n s':=by
  obtain ⟨a,b,c,d⟩:=h
  have e:takeOk s many = true:=by
    unfold takeOk
    have:many.natAbs.log2 < 9000:=by
      have hm:many.natAbs ≠ 0:=by omega
      rw [Nat.log2_lt hm]
      calc many.natAbs < 2 ^ 100:=by omega
        _ ≤ 2 ^ 9000:=Nat.pow_le_pow_right (by decide) (by decide)
    simp only [Bool.and_eq_true,decide_eq_true_eq]
    exact ⟨⟨⟨⟨⟨h1,this⟩,c⟩,by omega⟩,a⟩,by omega⟩
  have e2:g__law_take [.dict [],.int many] s = some (takeF s many):=by
    show (if takeOk s many = true then some (takeF s many) else none) = _
    rw [if_pos e]
  rw [e2]
  unfold takeF
  split
  · refine ⟨_,_,rfl,?_,?_,?_⟩
    · rw [Int.fmod_eq_emod_of_nonneg _ (Int.le_of_lt h1)]; exact Int.emod_nonneg _ (by omega)
    · rw [Int.fmod_eq_emod_of_nonneg _ (Int.le_of_lt h1)]; exact Int.emod_lt_of_pos _ h1
    · exact ⟨by simpa using a,by simpa using b,by show 0 ≤ s.2 + 1; omega,by show s.2 + 1 + (n:Int) < 1000000; omega⟩
  · refine ⟨_,_,rfl,?_,?_,?_⟩
    · unfold mix; rw [Int.fmod_eq_emod_of_nonneg _ (Int.le_of_lt h1)]; exact Int.emod_nonneg _ (by omega)
    · unfold mix; rw [Int.fmod_eq_emod_of_nonneg _ (Int.le_of_lt h1)]; exact Int.emod_lt_of_pos _ h1
    · exact ⟨a,b,by show 0 ≤ s.2 + 1; omega,by show s.2 + 1 + (n:Int) < 1000000; omega⟩
noncomputable def Bt (n:Nat) (i:Int):Prop:=i.natAbs < 2 ^ n
theorem Bt.mono {n m:Nat} {i:Int} (h:Bt n i) (hm:n ≤ m):Bt m i:=Nat.lt_of_lt_of_le h (Nat.pow_le_pow_right (by decide) hm)
theorem Bt.mul {n m:Nat} {i j:Int} (h:Bt n i) (h2:Bt m j):Bt (n + m) (i * j):=by
  unfold Bt at *
  rw [Int.natAbs_mul,Nat.pow_add]
  exact Nat.mul_lt_mul'' h h2
theorem Bt.add {n m:Nat} {i j:Int} (h:Bt n i) (h2:Bt m j):Bt (max n m + 1) (i + j):=by
  have h1':=h.mono (Nat.le_max_left n m)
  have h2':=h2.mono (Nat.le_max_right n m)
  unfold Bt at *
  have:=Int.natAbs_add_le i j
  rw [Nat.pow_succ]; omega
theorem Bt.neg {n:Nat} {i:Int} (h:Bt n i):Bt n (-i):=by unfold Bt at *; rwa [Int.natAbs_neg]
theorem Bt.sub {n m:Nat} {i j:Int} (h:Bt n i) (h2:Bt m j):Bt (max n m + 1) (i - j):=by rw [Int.sub_eq_add_neg]; exact h.add h2.neg
theorem Bt.lit {n:Nat} {i:Int} (h:decide (i.natAbs < 2 ^ n) = true):Bt n i:=by unfold Bt; exact of_decide_eq_true h
theorem Bt.fmod {n:Nat} {i j:Int} (hj:0 < j) (h:Bt n j):Bt n (i.fmod j):=by
  unfold Bt at *
  rw [Int.fmod_eq_emod_of_nonneg _ (Int.le_of_lt hj)]
  have:=Int.emod_nonneg i (show j ≠ 0 by omega)
  have:=Int.emod_lt_of_pos i hj
  omega
theorem Bt.ok {n m:Nat} {i j:Int} (h:Bt n i) (h2:Bt m j) (hs:n + m ≤ 134217728):mulOk i j = true:=by
  refine decide_eq_true (Nat.le_trans (Nat.add_le_add ?_ ?_) hs)
  · exact PySem.intBits_le_iff.mpr h
  · exact PySem.intBits_le_iff.mpr h2
theorem Bt.div {n:Nat} {i j:Int} (h:Bt n j) (h0:j ≠ 0) (hn:n ≤ 9000):divOk i j = true:=by
  unfold divOk
  simp only [Bool.and_eq_true,decide_eq_true_eq]
  refine ⟨h0,?_⟩
  rw [Nat.log2_lt (by omega)]
  exact Nat.lt_of_lt_of_le h (Nat.pow_le_pow_right (by decide) hn)
noncomputable def G_mixed:GS:=sSeq (sSet 6 (f2 gModI (f2 gMulI (f2 gAddI (f2 gAddI (f2 gModI (fVar 4) (fC (.int 2147483629))) (f2 gMulI (f2 gMulI (fVar 2) (fVar 2)) (fC (.int 7919)))) (fC (.int 11))) (fC (.int 48271))) (fC (.int 2147483647))))
  (sSeq (sSet 6 (f2 gModI (f2 gMulI (fVar 6) (fVar 6)) (fC (.int 2147483587))))
  (sRet (f2 gModI (f2 gDivI (f2 gModI (f2 gMulI (f2 gAddI (fVar 6) (f2 gMulI (fVar 2) (fC (.int 104729)))) (fC (.int 39373))) (fC (.int 2147483629))) (fC (.int 64))) (fVar 1))))
theorem mixed_run {cell t many:Int} {s:Sx} (h0:0 ≤ t) (h1:t ≤ 1000000) (hm:0 < many):G_mixed [.non,.val (.int many),.val (.int t),.non,.val (.int cell),.non,.non] s = some (.ret (.int (mix cell t many)),s):=by
  have b1:Bt 20 t:=by unfold Bt; omega
  have b2:Bt 31 (cell.fmod 2147483629):=Bt.fmod (by decide) (.lit (by decide))
  have b3:Bt 31 (mix1 cell t):=Bt.fmod (by decide) (.lit (by decide))
  have b4:Bt 31 (mix2 cell t):=Bt.fmod (by decide) (.lit (by decide))
  have m1:mulOk t t = true:=b1.ok b1 (by decide)
  have m2:mulOk (t * t) 7919 = true:=(b1.mul b1).ok (n:=40) (m:=13) (.lit (by decide)) (by decide)
  have b5:Bt 60 (cell.fmod 2147483629 + t * t * 7919 + 11):=((b2.add ((b1.mul b1).mul (.lit (n:=13) (by decide)))).add (.lit (n:=4) (by decide))).mono (by decide)
  have m3:mulOk (cell.fmod 2147483629 + t * t * 7919 + 11) 48271 = true:=b5.ok (m:=16) (.lit (by decide)) (by decide)
  have m4:mulOk (mix1 cell t) (mix1 cell t) = true:=b3.ok b3 (by decide)
  have m5:mulOk t 104729 = true:=b1.ok (m:=17) (.lit (by decide)) (by decide)
  have m6:mulOk (mix2 cell t + t * 104729) 39373 = true:=(b4.add (b1.mul (.lit (n:=17) (by decide)))).ok (m:=16) (.lit (by decide)) (by decide)
  have d1:divOk (((mix2 cell t + t * 104729) * 39373).fmod 2147483629) 64 = true:=Bt.div (n:=7) (.lit (by decide)) (by decide) (by decide)
  have n1:decide (many ≠ 0) = true:=decide_eq_true (by omega)
  have e1:∀ (δ:Sl),δ[4]? = some (.val (.int cell))→δ[2]? = some (.val (.int t))→sSet 6 (f2 gModI (f2 gMulI (f2 gAddI (f2 gAddI (f2 gModI (fVar 4) (fC (.int 2147483629))) (f2 gMulI (f2 gMulI (fVar 2) (fVar 2)) (fC (.int 7919)))) (fC (.int 11))) (fC (.int 48271))) (fC (.int 2147483647))) δ s = some (.next (δ.set 6 (.val (.int (mix1 cell t)))),s):=fun δ h4 h2 => by
    simp [sSet,f2,fVar,fC,h4,h2,gModI,gMulI,gAddI,gI,m1,m2,m3,mix1]
  have e2:∀ (δ:Sl),δ[6]? = some (.val (.int (mix1 cell t)))→sSet 6 (f2 gModI (f2 gMulI (fVar 6) (fVar 6)) (fC (.int 2147483587))) δ s = some (.next (δ.set 6 (.val (.int (mix2 cell t)))),s):=fun δ h6 => by
    simp [sSet,f2,fVar,fC,h6,gModI,gMulI,gI,m4,mix2]
  have e3:∀ (δ:Sl),δ[6]? = some (.val (.int (mix2 cell t)))→δ[2]? = some (.val (.int t))→δ[1]? = some (.val (.int many))→sRet (f2 gModI (f2 gDivI (f2 gModI (f2 gMulI (f2 gAddI (fVar 6) (f2 gMulI (fVar 2) (fC (.int 104729)))) (fC (.int 39373))) (fC (.int 2147483629))) (fC (.int 64))) (fVar 1)) δ s = some (.ret (.int (mix cell t many)),s):=fun δ h6 h2 h1 => by
    have n2:¬ many = 0:=by omega
    simp [sRet,f2,fVar,fC,h6,h2,h1,gModI,gMulI,gAddI,gDivI,gI,m5,m6,d1,n2,mix]
  unfold G_mixed sSeq
  rw [e1 _ rfl rfl]
  show (match sSet 6 _ _ s with | some (.next δ',s') => _ | r => r) = _
  rw [e2 _ rfl]
  exact e3 _ rfl rfl rfl
noncomputable def beginCells (ns:List Int):List Int:=if ns = [] then [7] else ns
noncomputable def spBegin (K:PySem.W.Frag):Sp:=fun vs H Q _ => ∃ a ns,vs = [.ref a]∧SqL K H a (ns.map V.int)∧ns.length ≤ 63 ∧
  ∀ st c H',(∀ b o,H b = some o→H' b = some o)→H' st = some (.dK (stDict c 0))→H' c = some (.lst ((beginCells ns).map V.int))→Q (.ref st) H'
end L3
namespace L3
open PySem L2 PySem.Spec PyProof.Rows
theorem DSs.any {X:Cx} {sts:List Stmt} {G:GS} (h:DSs X sts G):PSs X sts (fun E σ H => ∃ Z A,tDS X Z A G E σ H):=fun pins s σ H D I x__141 => (by obtain ⟨Z,A,q⟩:=x__141; exact h Z A pins s σ H D I q)
theorem DS.at0 {X:Cx} {st:Stmt} {G:GS} (h:DS X st G):PS X st (tDS X none [] G):=h none []
theorem reps_ints (K:PySem.W.Frag) (Z:Zt) (H:Hp) (A:List Addr):∀ ns:List Int,Reps K Z H A (ns.map V.int) (ns.map PyData.int)
  | [] => .nil
  | n :: r => .cons (.int n) (reps_ints K Z H A r)
theorem ints_of_reps {K:PySem.W.Frag} {Z:Zt} {H:Hp} {A:List Addr}:∀ {ns:List Int} {vs:List V},Reps K Z H A vs (ns.map PyData.int)→vs = ns.map V.int
  | [],_,.nil => rfl
  | n :: r,_,.cons h t => by cases h; rw [ints_of_reps t]; rfl
theorem lay_ints:∀ ns:List Int,PyData.canLayAll0 (ns.map PyData.int) = true
  | [] => by simp [PyData.canLayAll0]
  | n :: r => by simp [PyData.canLayAll0,PyData.canLay0,lay_ints r]
theorem depth_ints:∀ ns:List Int,PyData.depthAll (ns.map PyData.int) = 0
  | [] => by simp [PyData.depthAll]
  | n :: r => by simp [PyData.depthAll,PyData.depth,depth_ints r]
theorem shaped_ints (ns:List Int):SeqAt.shaped (.list (ns.map PyData.int)) = true:=by
  simp [SeqAt.shaped,PyData.canLay0,PyData.depth,lay_ints,depth_ints]
theorem shaped_nil:SeqAt.shaped (.list []) = true:=by simp [SeqAt.shaped,PyData.canLay0,PyData.depth,PyData.canLayAll0,PyData.depthAll]
theorem eqv_nil (ns:List Int):PyData.eqv (.list (ns.map PyData.int)) (.list []) = decide (ns = []):=by
  cases ns <;> simp [PyData.eqv,PyData.eqvAll]
noncomputable def G_seven:GS:=sIf (asB (f2 gEq (fVar 1) (eLst aNil))) (sSet 1 (eLst (aCons (fC (.int 7)) aNil))) sNext
theorem seven_run (ns:List Int) (s:Sx) (c:Ce):G_seven [c,.val (.list (ns.map PyData.int))] s = some (.next [c,.val (.list ((beginCells ns).map PyData.int))],s):=by
  have e1:small [] = true:=by decide
  have e2:small [PyData.int 7] = true:=by decide
  simp only [G_seven,sIf,asB,f2,fVar,eLst,aNil,aCons,fC,List.getElem?_cons_succ,List.getElem?_cons_zero,Option.bind_some,Option.map_some,e1,if_true,gEq,shaped_ints,shaped_nil,Bool.and_self,eqv_nil]
  by_cases h:ns = []
  · subst h
    simp [sSet,eLst,aCons,aNil,fC,e2,beginCells]
  · simp [h,sNext,beginCells]
end L3
namespace L3
open PySem L2 PySem.Spec PyProof.Rows
noncomputable def spLaw (K:PySem.W.Frag):Sp:=fun vs H Q _ => ∃ (a:Addr) (ns:List Int),vs = [.ref a]∧SqL K H a (ns.map V.int)∧ns.length ≤ 63∧∀ H',Q (.bl true) H'
theorem begin_len (ns:List Int) (h:ns.length ≤ 63):0 < (beginCells ns).length∧(beginCells ns).length ≤ 63:=by
  unfold beginCells
  split
  · exact ⟨by decide,by decide⟩
  · rename_i hn
    exact ⟨by cases ns with | nil => exact absurd rfl hn | cons a r => simp,h⟩
end L3

namespace L3
open PySem L2 PySem.Spec PyProof.Rows
theorem forD_run {T:Tgt} {G:GS} (I:Nat→Sl→Sx→Prop):∀ (ds:List D) (δ:Sl) (s:Sx),I ds.length δ s →
    (∀ k d δ s,d ∈ ds→I (k + 1) δ s→∃ δ1 δ' s',T.run d δ = some δ1∧G δ1 s = some (.next δ',s')∧I k δ' s')→∃ δ' s',forD T G ds δ s = some (.next δ',s')∧I 0 δ' s'
  | [],δ,s,h,_ => ⟨δ,s,rfl,h⟩
  | d :: ds,δ,s,h,step => by
    obtain ⟨δ1,δ2,s2,e1,e2,h2⟩:=step ds.length d δ s List.mem_cons_self h
    obtain ⟨δ3,s3,e3,h3⟩:=forD_run I ds δ2 s2 h2 fun k d' δ s hd => step k d' δ s (List.mem_cons_of_mem _ hd)
    refine ⟨δ3,s3,?_,h3⟩
    show ((T.run d δ).bind fun δ1 => _) = _
    rw [e1]
    show (match G δ1 s with | some (.next δ',s') => forD T G ds δ' s' | some (.cnt δ',s') => forD T G ds δ' s' | some (.brk δ',s') => some (.next δ',s') | some (.ret r,s') => some (.ret r,s') | some (.own r,s') => some (.own r,s') | none => none) = _
    rw [e2]
    exact e3
noncomputable def sgn (b:Int):Int:=if b < 0 then -1 else 1
noncomputable def numT (t b:Int):Int:=(sgn b * t).fdiv (Int.gcd t b)
noncomputable def numB (t b:Int):Int:=(sgn b * b).fdiv (Int.gcd t b)
noncomputable def num (t b:Int):D:=.tuple [.int (numT t b),.int (numB t b)]
theorem gcd_pos {t b:Int} (hb:b ≠ 0):0 < (Int.gcd t b:Int):=by
  have:0 < Int.gcd t b:=Int.gcd_pos_of_ne_zero_right t hb
  omega
theorem num_parts {t b:Int} (hb:b ≠ 0):∃ t' b',t = (Int.gcd t b:Int) * t'∧b = (Int.gcd t b:Int) * b'∧numT t b = sgn b * t'∧numB t b = sgn b * b'∧Int.gcd t' b' = 1:=by
  obtain ⟨t',e1⟩:=Int.gcd_dvd_left (a:=t) (b:=b)
  obtain ⟨b',e2⟩:=Int.gcd_dvd_right (a:=t) (b:=b)
  have hg:=gcd_pos (t:=t) hb
  refine ⟨t',b',e1,e2,?_,?_,?_⟩
  · unfold numT
    have:sgn b * t = (Int.gcd t b:Int) * (sgn b * t'):=by
      calc sgn b * t = sgn b * ((Int.gcd t b:Int) * t'):=by rw [← e1]
        _ = (Int.gcd t b:Int) * (sgn b * t'):=by rw [← Int.mul_assoc,← Int.mul_assoc,Int.mul_comm (sgn b)]
    rw [this,Int.mul_fdiv_cancel_left _ (by omega)]
  · unfold numB
    have:sgn b * b = (Int.gcd t b:Int) * (sgn b * b'):=by
      calc sgn b * b = sgn b * ((Int.gcd t b:Int) * b'):=by rw [← e2]
        _ = (Int.gcd t b:Int) * (sgn b * b'):=by rw [← Int.mul_assoc,← Int.mul_assoc,Int.mul_comm (sgn b)]
    rw [this,Int.mul_fdiv_cancel_left _ (by omega)]
  · have h:=Int.gcd_mul_left (Int.gcd t b:Int) t' b'
    rw [← e1,← e2] at h
    have hgn:0 < Int.gcd t b:=by omega
    have h2:((Int.gcd t b:Int)).natAbs = Int.gcd t b:=by omega
    rw [h2] at h
    exact Nat.eq_of_mul_eq_mul_left hgn (by rw [Nat.mul_one]; exact h.symm)
end L3
namespace L3
open PySem L2 PySem.Spec PyProof.Rows
theorem sgn_abs (b:Int):(sgn b).natAbs = 1:=by unfold sgn; split <;> rfl
theorem numB_pos {t b:Int} (hb:b ≠ 0):0 < numB t b:=by
  obtain ⟨t',b',e1,e2,e3,e4,e5⟩:=num_parts (t:=t) hb
  have hg:=gcd_pos (t:=t) hb
  rw [e4]
  generalize (Int.gcd t b:Int) = g at *
  subst e2
  unfold sgn
  split
  · rename_i h
    have:b' < 0:=by
      by_cases q:b' < 0
      · exact q
      · exact absurd h (Int.not_lt.mpr (Int.mul_nonneg (Int.le_of_lt hg) (Int.not_lt.mp q)))
    omega
  · rename_i h
    have:b' ≠ 0:=fun z => by subst z; exact hb (Int.mul_zero _)
    have:0 ≤ b':=by
      by_cases q:b' < 0
      · exact absurd (Int.mul_neg_of_pos_of_neg hg q) h
      · exact Int.not_lt.mp q
    omega
theorem num_gcd {t b:Int} (hb:b ≠ 0):Int.gcd (numT t b) (numB t b) = 1:=by
  obtain ⟨t',b',e1,e2,e3,e4,e5⟩:=num_parts (t:=t) hb
  rw [e3,e4,Int.gcd_mul_left,e5,sgn_abs]
theorem Bt.gcd {n:Nat} {a b:Int} (h:Bt n b) (hb:b ≠ 0):Bt n (Int.gcd a b:Int):=by
  unfold Bt at *
  have h1:Int.gcd a b ∣ b.natAbs:=Nat.gcd_dvd_right a.natAbs b.natAbs
  have:=Nat.le_of_dvd (by omega) h1
  omega
theorem Bt.fdiv {n:Nat} {a b:Int} (h:Bt n a):Bt n (a.fdiv b):=Nat.lt_of_le_of_lt (PySem.natAbs_fdiv_le a b) h
theorem Bt.sgn {n:Nat} {a b:Int} (h:Bt n a):Bt n (L3.sgn b * a):=by unfold Bt at *; rw [Int.natAbs_mul,sgn_abs,Nat.one_mul]; exact h
theorem Bt.numT {n:Nat} {t b:Int} (h:Bt n t):Bt n (L3.numT t b):=Bt.fdiv h.sgn
theorem Bt.numB {n:Nat} {t b:Int} (h:Bt n b):Bt n (L3.numB t b):=Bt.fdiv h.sgn
end L3

namespace L3
open PySem L2 PySem.Spec PyProof.Rows
section
variable {X:Cx} {e:Expr} {Fa F:FE} {x:Str} {p pos apos cpos:Pos}
end
end L3

namespace L3
open PySem L2 PySem.Spec PyProof.Rows
theorem dvd_of_cop {a b c:Int} (h:a ∣ b * c) (hc:Int.gcd a b = 1):a ∣ c:=by
  have h':a.natAbs ∣ b.natAbs * c.natAbs:=by rw [← Int.natAbs_mul]; exact Int.natAbs_dvd_natAbs.mpr h
  exact Int.natAbs_dvd_natAbs.mp (Nat.Coprime.dvd_of_dvd_mul_left hc h')
theorem gEq_int (i j:Int):gEq (.int i) (.int j) = some (.bool (decide (i = j))):=by
  simp [gEq,SeqAt.shaped,PyData.canLay0,PyData.depth,PyData.eqv,Bool.beq_eq_decide_eq]
theorem gNe_int (i j:Int):gNe (.int i) (.int j) = some (.bool (!decide (i = j))):=by
  simp [gNe,SeqAt.shaped,PyData.canLay0,PyData.depth,PyData.eqv,Bool.beq_eq_decide_eq]
theorem small2 (a b:D):small [a,b] = true:=decide_eq_true (by show 2 ≤ sizeLine; decide)
theorem sSeq_next {G1 G2:GS} {δ δ':Sl} {s s':Sx} (h:G1 δ s = some (.next δ',s')):sSeq G1 G2 δ s = G2 δ' s':=by unfold sSeq; rw [h]
theorem sSeq_ret {G1 G2:GS} {δ:Sl} {d:D} {s s':Sx} (h:G1 δ s = some (.ret d,s')):sSeq G1 G2 δ s = some (.ret d,s'):=by unfold sSeq; rw [h]
noncomputable def Num (n:Nat) (d:D) (p q:Int):Prop:=d = .tuple [.int p,.int q]∧0 < q∧Int.gcd p q = 1∧Bt n p∧Bt n q
theorem Num.mono {n m:Nat} {d:D} {p q:Int} (h:Num n d p q) (hm:n ≤ m):Num m d p q:=⟨h.1,h.2.1,h.2.2.1,h.2.2.2.1.mono hm,h.2.2.2.2.mono hm⟩
theorem Num.num {n:Nat} {T B:Int} (hB:B ≠ 0) (h1:Bt n T) (h2:Bt n B):Num n (num T B) (numT T B) (numB T B):=⟨rfl,numB_pos hB,num_gcd hB,h1.numT,h2.numB⟩
end L3

namespace L3
open PySem L2 PySem.Spec PyProof.Rows

section
variable {K:PySem.W.Frag} {B:Hp} {Z:Zt} {A:List Addr} {ow:Ow} {σ:L2.St} {δ:Sl} {H H':Hp} {i:Nat} {p:Addr}
theorem RepS.setOwn {s:Sx} {vs:List V} {ds:List D} (R:RepS K B Z A ow σ δ H) (S:StateAt Z H s) (x:Ext Z H H') (hp:H p = none) (h:H' p = some (.lst vs)) (r:Reps K Z H' (p :: (A ++ ow.map (·.2))) vs ds) :
    RepS K B Z A ((i,p) :: ow.filter fun q => decide (q.1 ≠ i)) (σ.set i (some (.ref p))) (δ.set i (.own ds)) H'∧Frm Z ow H ((i,p) :: ow.filter fun q => decide (q.1 ≠ i)) H':=by
  have nz:NotZ Z p:=S.notZ hp
  have bp:B p = none:=by
    cases e:B p with
    | none => rfl
    | some o => rw [R.ext p o e nz] at hp; cases hp
  have pA:¬ p ∈ A:=fun m => by obtain ⟨⟨o,e⟩,_⟩:=R.ok p m; rw [hp] at e; cases e
  have pO:¬ p ∈ ow.map (·.2):=fun m => by
    obtain ⟨⟨j,q⟩,hq,rfl⟩:=List.mem_map.mp m
    obtain ⟨_,⟨o,e⟩,_⟩:=R.ows j q hq
    rw [hp] at e; cases e
  have F:Frm Z ow H ((i,p) :: ow.filter fun q => decide (q.1 ≠ i)) H':=fun b o e n m => ⟨x b o e n,fun z => by
    rcases List.mem_cons.mp z with z | z
    · rw [z] at e; simp only at e; rw [hp] at e; cases e
    · obtain ⟨q,hq,e2⟩:=List.mem_map.mp z
      exact m (List.mem_map.mpr ⟨q,(List.mem_filter.mp hq).1,e2⟩)⟩
  refine ⟨⟨fun q hq => ⟨let ⟨o,e⟩:=(R.ok q hq).1; ⟨o,x q o e (R.ok q hq).2⟩,(R.ok q hq).2⟩,R.ext.trans x,by rw [List.length_set,List.length_set]; exact R.len,fun j d' e => ?_,fun j xs e => ?_,fun j q hq => ?_,fun j k q h1 h2 => ?_⟩,F⟩
  · by_cases hj:i = j
    · subst hj
      have hi:i < δ.length:=by have:=(List.getElem?_eq_some_iff.mp e).1; rwa [List.length_set] at this
      rw [List.getElem?_set_self hi] at e; cases e
    · rw [List.getElem?_set_ne hj] at e
      obtain ⟨v',h1,h2⟩:=R.val j d' e
      exact ⟨v',by rw [List.getElem?_set_ne hj]; exact h1,h2.frm F⟩
  · by_cases hj:i = j
    · subst hj
      have hi:i < δ.length:=by have:=(List.getElem?_eq_some_iff.mp e).1; rwa [List.length_set] at this
      rw [List.getElem?_set_self hi] at e; cases e
      refine ⟨p,vs,List.mem_cons_self,List.getElem?_set_self (by rw [← R.len]; exact hi),h,r.sub fun q hq => ?_⟩
      rcases List.mem_append.mp hq with hq | hq
      · exact List.mem_cons_of_mem _ (List.mem_append_left _ hq)
      · rcases List.mem_cons.mp hq with hq | hq
        · rw [hq]; exact List.mem_cons_self
        · obtain ⟨q',hq',e2⟩:=List.mem_map.mp hq
          exact List.mem_cons_of_mem _ (List.mem_append_right _ (List.mem_map.mpr ⟨q',(List.mem_filter.mp hq').1,e2⟩))
    · rw [List.getElem?_set_ne hj] at e
      obtain ⟨q,ws,h1,h2,h3,h4⟩:=R.own j xs e
      exact ⟨q,ws,List.mem_cons_of_mem _ (List.mem_filter.mpr ⟨h1,decide_eq_true (Ne.symm hj)⟩),by rw [List.getElem?_set_ne hj]; exact h2,x q _ h3 (R.ows j q h1).2.2.1,h4.frm F⟩
  · rcases List.mem_cons.mp hq with hq | hq
    · cases hq; exact ⟨bp,⟨_,h⟩,nz,pA⟩
    · obtain ⟨a,⟨o,b⟩,c,d⟩:=R.ows j q (List.mem_filter.mp hq).1
      exact ⟨a,⟨o,x q _ b c⟩,c,d⟩
  · rcases List.mem_cons.mp h1 with h1 | h1 <;> rcases List.mem_cons.mp h2 with h2 | h2
    · cases h1; cases h2; rfl
    · cases h1; exact absurd (List.mem_map.mpr ⟨(k,p),(List.mem_filter.mp h2).1,rfl⟩) pO
    · cases h2; exact absurd (List.mem_map.mpr ⟨(j,p),(List.mem_filter.mp h1).1,rfl⟩) pO
    · exact R.inj j k q (List.mem_filter.mp h1).1 (List.mem_filter.mp h2).1
theorem RepS.change {vs:List V} {xs ds:List D} (R:RepS K B Z A ow σ δ H) (ho:δ[i]? = some (.own xs)) (hi:(i,p) ∈ ow) (hs:σ[i]? = some (some (.ref p))) (r:Reps K Z H (A ++ ow.map (·.2)) vs ds) :
    RepS K B Z A ow σ (δ.set i (.own ds)) (upd H p (.lst vs))∧Frm Z ow H ow (upd H p (.lst vs)):=by
  obtain ⟨bp,_,nz,pA⟩:=R.ows i p hi
  have F:Frm Z ow H ow (upd H p (.lst vs)):=fun b o e n m => ⟨by
    rw [upd_ne (fun z => m (by rw [z]; exact List.mem_map.mpr ⟨(i,p),hi,rfl⟩))]; exact e,m⟩
  refine ⟨⟨fun q hq => ⟨?_,(R.ok q hq).2⟩,fun b o e n => ?_,by rw [List.length_set]; exact R.len,fun j d' e => ?_,fun j ys e => ?_,fun j q hq => ?_,R.inj⟩,F⟩
  · obtain ⟨o,e⟩:=(R.ok q hq).1
    exact ⟨o,by rw [upd_ne (fun z => pA (by rw [← z]; exact hq))]; exact e⟩
  · have:b ≠ p:=fun z => by rw [z,bp] at e; cases e
    rw [upd_ne this]; exact R.ext b o e n
  · by_cases hj:i = j
    · subst hj
      rw [List.getElem?_set_self (List.getElem?_eq_some_iff.mp ho).1] at e; cases e
    · rw [List.getElem?_set_ne hj] at e
      obtain ⟨v',h1,h2⟩:=R.val j d' e
      exact ⟨v',h1,h2.frm F⟩
  · by_cases hj:i = j
    · subst hj
      rw [List.getElem?_set_self (List.getElem?_eq_some_iff.mp ho).1] at e; cases e
      exact ⟨p,vs,hi,hs,upd_same,r.frm F⟩
    · rw [List.getElem?_set_ne hj] at e
      obtain ⟨q,ws,h1,h2,h3,h4⟩:=R.own j ys e
      have:q ≠ p:=fun z => hj (R.inj i j p hi (z ▸ h1))
      exact ⟨q,ws,h1,h2,by rw [upd_ne this]; exact h3,h4.frm F⟩
  · obtain ⟨a,⟨o,b⟩,c,d⟩:=R.ows j q hq
    refine ⟨a,?_,c,d⟩
    by_cases z:q = p
    · rw [z]; exact ⟨_,upd_same⟩
    · exact ⟨o,by rw [upd_ne z]; exact b⟩
theorem StateAt.chg {s:Sx} {o:HO} (S:StateAt Z H s) (n:NotZ Z p):StateAt Z (L2.upd H p o) s:=fun a c e =>
  ⟨by rw [upd_ne (Ne.symm (n a c e).1)]; exact (S a c e).1,by rw [upd_ne (Ne.symm (n a c e).2)]; exact (S a c e).2⟩
theorem RepS.freeze {xs:List D} (R:RepS K B Z A ow σ δ H) (ho:δ[i]? = some (.own xs)) :
    ∃ ow',RepS K B Z A ow' σ (δ.set i (.val (.list xs))) H∧Frm Z ow H ow' H:=by
  obtain ⟨p,vs,h1,h2,h3,h4⟩:=R.own i xs ho
  have r:Rep K Z H (A ++ (ow.filter fun q => decide (q.1 ≠ i)).map (·.2)) (.ref p) (.list xs):=by
    refine .lst h3 (fun m => ?_) (R.ows i p h1).2.2.1 (h4.sub fun q hq => ?_)
    · rcases List.mem_append.mp m with m | m
      · exact (R.ows i p h1).2.2.2 m
      · obtain ⟨⟨j,q⟩,hq,e⟩:=List.mem_map.mp m
        have hq':=List.mem_filter.mp hq
        cases e
        exact of_decide_eq_true hq'.2 (R.inj j i q hq'.1 h1)
    · rcases List.mem_append.mp hq with m | m
      · exact List.mem_append_left _ m
      · obtain ⟨q',hq',e⟩:=List.mem_map.mp m
        exact List.mem_append_right _ (List.mem_map.mpr ⟨q',(List.mem_filter.mp hq').1,e⟩)
  have sub:∀ q ∈ A ++ (ow.filter fun p => decide (p.1 ≠ i)).map (·.2),q ∈ A ++ ow.map (·.2):=fun q hq => by
    rcases List.mem_append.mp hq with h | h
    · exact List.mem_append_left _ h
    · obtain ⟨p,hp,rfl⟩:=List.mem_map.mp h
      exact List.mem_append_right _ (List.mem_map_of_mem (List.mem_filter.mp hp).1)
  refine ⟨ow.filter fun q => decide (q.1 ≠ i),⟨R.ok,R.ext,by rw [List.length_set]; exact R.len,fun j d' e => ?_,fun j ys e => ?_,fun j q hq => R.ows j q (List.mem_filter.mp hq).1,fun j k q a b => R.inj j k q (List.mem_filter.mp a).1 (List.mem_filter.mp b).1⟩,fun b o h n m => ⟨h,fun z => m ?_⟩⟩
  · by_cases hj:i = j
    · subst hj
      rw [List.getElem?_set_self (List.getElem?_eq_some_iff.mp ho).1] at e; cases e
      exact ⟨_,h2,r⟩
    · rw [List.getElem?_set_ne hj] at e
      obtain ⟨v',a,b⟩:=R.val j d' e
      exact ⟨v',a,b.sub sub⟩
  · by_cases hj:i = j
    · subst hj
      rw [List.getElem?_set_self (List.getElem?_eq_some_iff.mp ho).1] at e; cases e
    · rw [List.getElem?_set_ne hj] at e
      obtain ⟨q,ws,a,b,c,d⟩:=R.own j ys e
      exact ⟨q,ws,List.mem_filter.mpr ⟨a,decide_eq_true (Ne.symm hj)⟩,b,c,d.sub sub⟩
  · obtain ⟨q,hq,e⟩:=List.mem_map.mp z
    exact List.mem_map.mpr ⟨q,(List.mem_filter.mp hq).1,e⟩
end

section
variable {X:Cx} {st:Stmt} {sts:List Stmt} {e e2 ie:Expr} {es:List Expr} {F Fa Fb Fi:FE} {Fo Fo2:FO} {FL:FA} {G:GS} {x:Str} {i j:Nat} {p pos px apos cpos tpos:Pos}
theorem none_of_ext {Z:Zt} {H H1:Hp} {s:Sx} {p:Addr} (x1:Ext Z H H1) (S1:StateAt Z H1 s) (hp:H1 p = none):H p = none:=by
  cases e9:H p with
  | none => rfl
  | some o => rw [x1 p o e9 (S1.notZ hp)] at hp; cases hp
noncomputable def oList (Fa:FE):FO:=fun δ s => (Fa δ s).bind fun p => (seqOf p.1).map fun xs => (xs,p.2)
theorem df_list (hv:bootBuiltins x = some (.type "list")) (hm:X.mg x = none) (ha:DW X e Fa) (hg:Gl X x:=by rfl) (hn:x ≠ "__name__":=by decide) (hdb:(x == ("__debug__":Str)) = false:=by decide)
    (hs:starEach [e] X.env = (false,eval e X.env) :: starEach [] X.env:=by rfl):DF X (.Call (.Name x p) [e] [] pos) (oList Fa):=⟨fun Z A => PE.imp (pe_callTy call_list_of hg hm hv (pa_cons (ha Z A) pa_nil hs) hn hdb hs rfl) fun σ H Q x__142 => by
    obtain ⟨B,ow,δ,s,ds,s',R,S,e,q⟩:=x__142
    unfold oList at e
    first | refine bnd2 e fun d s1 e1 e => ?_ | refine mpp2 e fun d s1 e1 e => ?_
    replace e:((seqOf d).map fun xs => (xs,s1)) = some (ds,s'):=e
    refine ⟨B,ow,δ,s,d,s1,R,S,e1,fun v H1 x1 S1 r => ?_⟩
    cases d with
    | list xs =>
      cases e
      obtain ⟨p,vs,ev,sq,_,rs⟩:=r.list
      exact ⟨p,vs,by rw [ev],.inl sq,fun l hl => q l vs _ (x1.trans (Ext.upd hl)) (S1.upd hl) (none_of_ext x1 S1 hl) upd_same (rs.fresh hl)⟩
    | tuple xs =>
      cases e
      obtain ⟨p,vs,ev,sq,rs⟩:=r.tuple
      exact ⟨p,vs,by rw [ev],.inr sq,fun l hl => q l vs _ (x1.trans (Ext.upd hl)) (S1.upd hl) (none_of_ext x1 S1 hl) upd_same (rs.fresh hl)⟩
    | _ => cases e⟩
noncomputable def o2 (g:D→D→Option (List D)) (Fa Fb:FE):FO:=fun δ s => (Fa δ s).bind fun p => (Fb δ p.2).bind fun q => (g p.1 q.1).map fun d => (d,q.2)
theorem df_op {op:Operator} {r:R2} {g:D→D→Option (List D)} (ho:OpR X (binaryOp op) r) (ha:DW X e Fa) (hb:DW X e2 Fb)
    (hr:∀ (Z:Zt) (A:List Addr) (H:Hp) (x y:V) (dx dy:D) (ds:List D) (Q:VK),RepW X.K Z H A x dx→RepW X.K Z H A y dy→g dx dy = some ds→(∀ p vs,H p = none→Reps X.K Z H A vs ds→Q (.ref p) (upd H p (.lst vs)))→r x y H Q) :
    DF X (.BinOp e op e2 pos) (o2 g Fa Fb):=⟨fun Z A => PE.imp (pe_op ho (ha Z A) (hb Z A)) fun σ H Q x__143 => by
  obtain ⟨B,ow,δ,s,ds,s',R,S,e,q⟩:=x__143
  unfold o2 at e
  first | refine bnd2 e fun dx s1 e1 e => ?_ | refine mpp2 e fun dx s1 e1 e => ?_
  replace e:((Fb δ s1).bind fun q => (g dx q.1).map fun d => (d,q.2)) = some (ds,s'):=e
  first | refine bnd2 e fun dy s2 e2 e => ?_ | refine mpp2 e fun dy s2 e2 e => ?_
  replace e:((g dx dy).map fun d => (d,s2)) = some (ds,s'):=e
  cases e3:g dx dy with
  | none => rw [e3] at e; cases e
  | some d' =>
    rw [e3] at e
    cases e
    refine ⟨B,ow,δ,s,dx,s1,R,S,e1,fun v H1 x1 S1 r1 => ⟨B,ow,δ,s1,dy,s',R.mono x1,S1,e2,fun u H2 x2 S2 r2 => ?_⟩⟩
    exact hr Z _ H2 v u dx dy ds Q (r1.ext x2) r2 e3 fun p vs hp rs => q p vs _ ((x1.trans x2).trans (Ext.upd hp)) (S2.upd hp) (none_of_ext (x1.trans x2) S2 hp) upd_same (rs.fresh hp)⟩
noncomputable def lRep:D→D→Option (List D):=fun a b => match a,b with
  | .list xs,.int k => if (decide (-(2 ^ 63) ≤ k) && decide (k < 2 ^ 63) && decide (xs.length * k.toNat ≤ sizeLine)) = true then some (List.replicate k.toNat xs).flatten else none
  | _,_ => none
theorem df_rep (ha:DW X e Fa) (hb:DW X e2 Fb):DF X (.BinOp e .Mult e2 pos) (o2 lRep Fa Fb):=df_op op_rep ha hb fun Z A H x y dx dy ds Q rx ry e q => by
  unfold lRep at e
  split at e
  · split at e
    · rename_i hs
      cases e
      simp only [Bool.and_eq_true,decide_eq_true_eq] at hs
      obtain ⟨p1,v1,rfl,h1,_,r1⟩:=rx.lst
      have ey:=ry.int
      exact ⟨p1,_,v1,rfl,ey,h1,hs.1.1,hs.1.2,by rw [r1.length]; exact hs.2,fun p hp => q p _ hp (r1.rep _)⟩
    · cases e
  · cases e
noncomputable def cutD (xs:List D) (lo hi:Option Int):List D:=(xs.drop (HT.sIx xs.length 0 lo)).take (HT.sIx xs.length xs.length hi - HT.sIx xs.length 0 lo)
theorem Reps.cut {K:PySem.W.Frag} {Z:Zt} {H:Hp} {A:List Addr} {vs:List V} {ds:List D} {lo hi:Option Int} (r:Reps K Z H A vs ds):Reps K Z H A (cutV vs lo hi) (cutD ds lo hi):=by
  unfold cutV cutD
  rw [r.length]
  exact (r.drop _).take _
noncomputable abbrev FP:=Sl→Sx→Option (Option Int × Sx)
noncomputable def pNo:FP:=fun _ s => some (none,s)
noncomputable def pInt (F:FE):FP:=fun δ s => (F δ s).bind fun p => match p.1 with | .int i => some (some i,p.2) | _ => none
inductive tDPK (K:PySem.W.Frag) (Z:Zt) (A:List Addr) (F:FP) (σ:L2.St) (H:Hp) (Q:Option Int→Hp→Prop):Prop
  | mk (B:Hp) (ow:Ow) (δ:Sl) (s:Sx) (o:Option Int) (s':Sx) (h0:RepS K B Z A ow σ δ H) (h1:StateAt Z H s) (h2:F δ s = some (o,s')) (h3:∀ H',Ext Z H H'→StateAt Z H' s'→Q o H')
noncomputable abbrev tDP (X:Cx) (Z:Zt) (A:List Addr) (F:FP):TO:=tDPK X.K Z A F
structure DP (X:Cx) (e:Option Expr) (F:FP):Prop where
  go:∀ Z A,PO X e (tDP X Z A F)
instance {X:Cx} {e:Option Expr} {F:FP}:CoeFun (DP X e F) (fun _ => ∀ Z A,PO X e (tDP X Z A F)):=⟨fun h => h.go⟩
theorem PO.imp {e:Option Expr} {t t':TO} (h:PO X e t) (hi:∀ σ H Q,t' σ H Q→t σ H Q):PO X e t':=fun pins s σ H Q I q => h pins s σ H Q I (hi σ H Q q)
theorem dp_no:DP X none pNo:=⟨fun Z A => PO.imp po_none fun σ H Q x__144 => by
  obtain ⟨B,ow,δ,s,o,s',R,S,e,q⟩:=x__144
  cases e; exact q H (Ext.refl H) S⟩
theorem dp_int (h:DW X e F):DP X (some e) (pInt F):=⟨fun Z A => PO.imp (po_some (h Z A)) fun σ H Q x__145 => by
  obtain ⟨B,ow,δ,s,o,s',R,S,e,q⟩:=x__145
  unfold pInt at e
  first | refine bnd2 e fun d s1 e1 e => ?_ | refine mpp2 e fun d s1 e1 e => ?_
  cases d with
  | int k =>
    cases e
    exact ⟨B,ow,δ,s,_,_,R,S,e1,fun v H1 x1 S1 r => ⟨k,r.int,q H1 x1 S1⟩⟩
  | _ => cases e⟩
noncomputable def sSetO (i:Nat) (Fo:FO):GS:=fun δ s => (Fo δ s).map fun p => (.next (δ.set i (.own p.1)),p.2)
theorem ds_setO {pos':Pos} (hN:X.N.Nodup) (he:DF X e Fo) (hi:X.N[i]? = some x:=by rfl) (hx:Loc X.env.scope x:=by first | exact Or.inl rfl | exact Or.inr rfl) (hs:swapsWith e (some (.Name x pos')) pos.line X.env = pure false:=by rfl)
    (hf:X.fn x = true ∨ X.env.scope.names.lookup x = some .local:=by first | exact .inl rfl | exact .inr rfl | assumption):DS X (.Assign [.Name x pos'] e pos) (sSetO i Fo):=⟨fun Z A => PS.imp (ps_set hN hi hx (he Z A) hs hf) fun E σ H x__146 => by
  obtain ⟨ow,δ,s,o,s',R,S,e,q⟩:=x__146
  unfold sSetO at e
  first | refine bnd1 e fun p e1 e => ?_ | refine mpp1 e fun p e1 e => ?_
  cases e
  refine ⟨_,ow,δ,s,_,_,R,S,e1,fun p vs H' x1 S1 n h r => ?_⟩
  obtain ⟨R',f⟩:=R.setOwn (i:=i) S x1 n h r
  exact q _ _ H' R' S1 f⟩
noncomputable def sFrz (i:Nat):GS:=fun δ s => match δ[i]? with | some (.own xs) => some (.next (δ.set i (.val (.list xs))),s) | _ => some (.next δ,s)
theorem ds_frz (i:Nat) (h:DS X st G):DS X st (sSeq (sFrz i) G):=⟨fun Z A => PS.imp (h Z A) fun E σ H x__147 => by
  obtain ⟨ow,δ,s,o,s',R,S,e,q⟩:=x__147
  unfold sSeq sFrz at e
  cases e1:δ[i]? with
  | none => rw [e1] at e; exact ⟨ow,δ,s,o,s',R,S,e,q⟩
  | some c =>
    rw [e1] at e
    cases c with
    | own xs =>
      obtain ⟨ow',R',f⟩:=R.freeze e1
      exact ⟨ow',_,s,o,s',R',S,e,q.frm f⟩
    | non => exact ⟨ow,δ,s,o,s',R,S,e,q⟩
    | val d => exact ⟨ow,δ,s,o,s',R,S,e,q⟩⟩
noncomputable def sPop (i:Nat):GS:=fun δ s => match δ[i]? with | some (.own xs) => if xs.isEmpty = true then none else some (.next (δ.set i (.own xs.dropLast)),s) | _ => none
theorem pop_read {Z:Zt} {A:List Addr} {ow:Ow} {σ:L2.St} {δ:Sl} {B H:Hp} {s:Sx} {xs:List D} {Q:VK} (R:RepS X.K B Z A ow σ δ H) (S:StateAt Z H s) (ho:δ[i]? = some (.own xs)) (hne:¬ xs.isEmpty = true)
    (q:∀ v d H',xs.getLast? = some d→Rep X.K Z H' (A ++ ow.map (·.2)) v d→RepS X.K B Z A ow σ (δ.set i (.own xs.dropLast)) H'→StateAt Z H' s→Frm Z ow H ow H'→Q v H'):tBM0 X.K "list" rPop (tVar i) σ H Q:=by
  obtain ⟨a,vs,h1,h2,h3,h4⟩:=R.own i xs ho
  refine ⟨_,h2,.inl ⟨rfl,_,SqL.of h3⟩,?_⟩
  have hlen:=h4.length
  have hx:xs.length ≠ 0:=fun z => hne (by simpa using z)
  obtain ⟨d,hd⟩:∃ d,xs[xs.length - 1]? = some d:=⟨_,List.getElem?_eq_getElem (by omega)⟩
  obtain ⟨v,hv,rv⟩:=h4.get hd
  obtain ⟨R',f⟩:=R.change ho h1 h2 h4.dropLast
  exact ⟨a,vs,v,rfl,rfl,h3,by rw [hlen]; exact hv,q v d _ (by rw [List.getLast?_eq_getElem?]; exact hd) (rv.frm f) R' (S.chg (R.ows i a h1).2.2.1) f⟩
theorem ds_pop (hv:PE X (.Name x px) (tVar i)) (hbase:attributeBase (.Name x px) "pop" X.env (eval (.Name x px) X.env) = eval (.Name x px) X.env:=by rfl) (hline:(apos.endLine == cpos.line) = true:=by rfl)
    (hsw:swapsWith (.Call (.Attribute (.Name x px) "pop" apos) [] [] cpos) none pos.line X.env = pure false:=by rfl):DS X (.Expr (.Call (.Attribute (.Name x px) "pop" apos) [] [] cpos) pos) (sPop i):=⟨fun Z A => PS.imp (ps_expr (pe_bm0 PySem.F.plainAttrs_list PySem.F.slot_list_pop PySem.F.type_list_pop mt_pop hv hbase hline) hsw) fun E σ H x__148 => by
    obtain ⟨ow,δ,s,o,s',R,S,e,q⟩:=x__148
    unfold sPop at e
    split at e
    · rename_i xs ho
      split at e
      · cases e
      · rename_i hne
        cases e
        exact pop_read R S ho hne fun v d H' _ _ R' S' f => q _ _ _ R' S' f
    · cases e⟩
noncomputable def putAt (xs:List D) (d v:D):Option (List D):=match d with | .int k => (ixN xs.length k).map fun j => xs.set j v | _ => none
noncomputable def sPut (i:Nat) (Fi F:FE):GS:=fun δ s => (F δ s).bind fun v => (Fi δ v.2).bind fun d => match δ[i]? with | some (.own xs) => (putAt xs d.1 v.1).map fun ys => (.next (δ.set i (.own ys)),d.2) | _ => none
theorem ds_put (hv:PE X (.Name x px) (tVar i)) (hi:DW X ie Fi) (he:DE X e F)
    (ha:∀ v,assign (.Subscript (.Name x px) ie tpos) X.env v = (do
      let ov ← holding [v] (eval (.Name x px) X.env)
      let iv ← holding [v,ov] (eval ie X.env)
      standAt tpos
      holding [v,ov,iv] (setItem ov iv v)
      release [v,ov,iv] []):=by intros; rfl)
    (hs:swapsWithSole [.Subscript (.Name x px) ie tpos] e pos.line X.env = pure false:=by rfl) (hw:swappedStores [.Subscript (.Name x px) ie tpos] e X.env = pure none:=by rfl)
    (h1:(assignEach [.Subscript (.Name x px) ie tpos] X.env).map (·.2) = [assign (.Subscript (.Name x px) ie tpos) X.env]:=by rfl):DS X (.Assign [.Subscript (.Name x px) ie tpos] e pos) (sPut i Fi F):=⟨fun Z A => PS.imp (ps_asg (he Z A) (pg_sub hv (hi Z A) set_list ha) hs hw h1) fun E σ H x__149 => by
    obtain ⟨ow,δ,s,o,s',R,S,e,q⟩:=x__149
    unfold sPut at e
    first | refine bnd2 e fun d s1 e1 e => ?_ | refine mpp2 e fun d s1 e1 e => ?_
    try simp only [Option.bind_some] at e
    first | refine bnd2 e fun k s2 e2 e => ?_ | refine mpp2 e fun k s2 e2 e => ?_
    try simp only [Option.bind_some] at e
    split at e
    · rename_i xs ho
      first | refine bnd1 e fun ys e3 e => ?_ | refine mpp1 e fun ys e3 e => ?_
      cases e
      obtain ⟨a,vs,h1,h2,h3,h4⟩:=R.own i xs ho
      have nz:=(R.ows i a h1).2.2.1
      refine ⟨_,ow,δ,s,d,s1,R,S,e1,fun v H1 x1 S1 r => ⟨_,h2,⟨_,ow,δ,s1,k,_,R.mono x1,S1,e2,fun u H2 x2 S2 r2 => ?_⟩⟩⟩
      unfold putAt at e3
      split at e3
      · rename_i kk
        cases e4:ixN xs.length kk with
        | none => rw [e4] at e3; cases e3
        | some j =>
          rw [e4] at e3
          cases e3
          have eu:=r2.int
          obtain ⟨R',f⟩:=((R.mono x1).mono x2).change ho h1 h2 (((h4.ext x1).ext x2).set (r.ext x2) j)
          exact ⟨a,vs,kk,j,rfl,eu,x2 _ _ (x1 _ _ h3 nz) nz,by rw [h4.length]; exact e4,q _ _ _ R' (S2.chg nz) ((Frm.ext (x1.trans x2)).trans f)⟩
      · cases e3
    · cases e⟩
end
end L3

namespace HT
open PySem PySem.Spec PyProof.Rows L2
section
variable {prog:Program} {w:World} {A:Around} {E:Value→Shared→Prop} {s:Shared}
theorem getItem_tuple_whole {t sl:Addr} {items:Array Value} {vl vu:Value} {lo hi:Option Int} {Q:Value→Shared→Prop} (ht:IsTup s.heap t items) (hs:s.heap.IsSliceOf sl vl vu .none) (pl:IsPart vl lo) (pu:IsPart vu hi)
    (hw:sIx items.size 0 lo = 0∧sIx items.size items.size hi = items.size) (h:Q (.ref t) s):wpAny (model prog w) A (getItem (.ref t) (.ref sl)) Q E s:=by
  obtain ⟨os,hos,hcs,hds⟩:=id hs
  have hTs:s.TypeIs (.ref sl) "slice":=⟨os,hos,hcs⟩
  unfold getItem
  try with_reducible refine wpAny_holding ?_
  first | refine wpAny_bind (wpAny_pure ?_) | skip
  refine wpAny_bind (wpAny_sequenceKey ht.typeIs (by decide) ?_)
  refine wpAny_bind (wpAny_callSpecial?_slot (name:=Str.ofString "__getitem__") ht.typeIs PyProof.Rows.slot_tuple_getitem
    (wpAny_call_entry PyProof.Rows.slot_tuple_getitem ht.typeIs entry_tuple_getitem ?_ (args_tuple_getitem _ _)))
  show wpAny _ _ (Builtin.Tuple.tupleItemsOf (.ref t) >>= _) _ _ s
  refine wpAny_bind (tupleItemsOf_ ht ?_)
  refine wpAny_bind (wpAny_typeOf hTs ?_)
  rw [if_pos (by decide)]
  refine wpAny_bind (sliceApplied_gen hs pl pu ?_)
  have hyes:((((sIx items.size 0 lo:Nat):Int) == 0 && (1:Int) == 1 && (sIx items.size items.size hi - sIx items.size 0 lo) == items.size) = true):=by
    rw [hw.1,hw.2]; simp
  show wpAny _ _ (if (((sIx items.size 0 lo:Nat):Int) == 0 && (1:Int) == 1 && (sIx items.size items.size hi - sIx items.size 0 lo) == items.size) = true then _ else _) _ _ s
  rw [if_pos hyes]
  refine wpAny_bind (wpAny_bind (wpAny_typeOf ht.typeIs (wpAny_pure ?_)))
  show wpAny _ _ (if (Value.type "tuple" == Value.type "tuple") = true then _ else _) _ _ s
  rw [if_pos (by decide)]
  exact wpAny_bind (wpAny_rule (wpAny_pure ⟨_,rfl,wpAny_pure h⟩))
end
end HT

namespace L3
open PySem L2 PySem.Spec PyProof.Rows
section
variable {X:Cx} {e e2 e3 ie:Expr} {F Fa Fb Fc Fi:FE} {Fo:FO} {x:Str} {i j:Nat} {p pos px apos cpos tpos:Pos}
noncomputable def rSlTW (K:PySem.W.Frag):V→Option Int→Option Int→Hp→VK→Prop:=fun x lo hi H Q => ∃ a xs,x = .ref a∧SqT K H a xs ∧
  (if HT.sIx xs.length 0 lo = 0∧HT.sIx xs.length xs.length hi = xs.length then Q (.ref a) H else ∀ p,H p = none→Q (.ref p) (upd H p (.tup (cutV xs lo hi))))
theorem sl_tupW:SlR X (rSlTW X.K):=by
  intro pins s σ H x v vl vu lo hi sl Q I rx hs pl pu h
  obtain ⟨a,xs,rfl,hx,q⟩:=h
  split at q
  · rename_i hw
    cases rx
    obtain ⟨its,r,ht,hz⟩:=I.tuple hx
    have hlen:its.toArray.size = xs.length:=by rw [List.size_toArray]; exact r.length.symm
    refine ⟨"tuple",_,PyProof.Rows.slot_tuple_getitem.lookup,ht.typeIs,?_⟩
    exact HT.getItem_tuple_whole ht hs pl pu (by rw [hlen]; exact hw) ⟨.ref a,H,I,rfl,q⟩
  · rename_i hw
    exact sl_tup pins s σ H (.ref a) v vl vu lo hi sl Q I rx hs pl pu ⟨a,xs,rfl,hx,hw,q⟩
theorem cutD_whole {xs:List D} {lo hi:Option Int} (h:HT.sIx xs.length 0 lo = 0∧HT.sIx xs.length xs.length hi = xs.length):cutD xs lo hi = xs:=by
  unfold cutD; rw [h.1,h.2]; simp
noncomputable def gSlD (d:D) (lo hi:Option Int):Option D:=match d with | .list xs => some (.list (cutD xs lo hi)) | .tuple xs => some (.tuple (cutD xs lo hi)) | _ => none
noncomputable def fSl (Fa:FE) (Fl Fh:FP):FE:=fun δ s => (Fa δ s).bind fun p => (Fl δ p.2).bind fun l => (Fh δ l.2).bind fun h => (gSlD p.1 l.1 h.1).map fun d => (d,h.2)
theorem de_slice {lo hi:Option Expr} {Fl Fh:FP} (ha:DE X e Fa) (hl:DP X lo Fl) (hh:DP X hi Fh):DE X (.Subscript e (.Slice lo hi none p) pos) (fSl Fa Fl Fh):=⟨fun Z A => PE.imp (pe_slice (sl_list.or sl_tupW) (ha Z A) (hl Z A) (hh Z A)) fun σ H Q x__150 => by
  obtain ⟨B,ow,δ,s,d,s',R,S,ee,q⟩:=x__150
  unfold fSl at ee
  first | refine bnd2 ee fun dx s1 e1 ee => ?_ | refine mpp2 ee fun dx s1 e1 ee => ?_
  replace ee:((Fl δ s1).bind fun l => (Fh δ l.2).bind fun h => (gSlD dx l.1 h.1).map fun d => (d,h.2)) = some (d,s'):=ee
  first | refine bnd2 ee fun l s2 e2 ee => ?_ | refine mpp2 ee fun l s2 e2 ee => ?_
  replace ee:((Fh δ s2).bind fun h => (gSlD dx l h.1).map fun d => (d,h.2)) = some (d,s'):=ee
  first | refine bnd2 ee fun h s3 e3 ee => ?_ | refine mpp2 ee fun h s3 e3 ee => ?_
  replace ee:((gSlD dx l h).map fun d => (d,s3)) = some (d,s'):=ee
  cases e4:gSlD dx l h with
  | none => rw [e4] at ee; cases ee
  | some d' =>
    rw [e4] at ee
    cases ee
    refine ⟨B,ow,δ,s,dx,s1,R,S,e1,fun v H1 x1 S1 r1 => ⟨B,ow,δ,s1,l,s2,R.mono x1,S1,e2,fun H2 x2 S2 => ⟨B,ow,δ,s2,h,s',(R.mono x1).mono x2,S2,e3,fun H3 x3 S3 => ?_⟩⟩⟩
    have r3:=(r1.ext x2).ext x3
    have x13:=(x1.trans x2).trans x3
    cases r3 with
    | lst hh n z rs =>
      cases e4
      exact .inl ⟨_,_,rfl,.of hh,fun q' hq => q _ _ (x13.trans (Ext.upd hq)) (S3.upd hq) (.lst upd_same (fresh_not (R.mono x13).all hq) (S3.notZ hq) (rs.cut.ext (Ext.upd hq)))⟩
    | tup hh n z rs =>
      cases e4
      refine .inr ⟨_,_,rfl,.of hh,?_⟩
      split
      · rename_i hw
        rw [rs.length] at hw
        refine q _ _ x13 S3 ?_
        rw [cutD_whole hw]
        exact .tup hh n z rs
      · exact fun q' hq => q _ _ (x13.trans (Ext.upd hq)) (S3.upd hq) (.tup upd_same (fresh_not (R.mono x13).all hq) (S3.notZ hq) (rs.cut.ext (Ext.upd hq)))
    | mod hh rs =>
      cases e4
      refine .inr ⟨_,_,rfl,.inr hh,?_⟩
      split
      · rename_i hw
        rw [rs.length] at hw
        refine q _ _ x13 S3 ?_
        rw [cutD_whole hw]
        exact .mod hh rs
      · exact fun q' hq => q _ _ (x13.trans (Ext.upd hq)) (S3.upd hq) (.tup upd_same (fresh_not (R.mono x13).all hq) (S3.notZ hq) (rs.cut.ext (Ext.upd hq)))
    | non => cases e4
    | bl _ => cases e4
    | int _ => cases e4
    | str _ => cases e4
    | st _ => cases e4
    | obj _ _ _ _ _ => cases e4⟩
theorem cat_tup0 {prog:Program} {w:World} {A:Around} {E:Value→Shared→Prop} {s:Shared} {t b:Addr} {ws:List Value} {Q:Value→Shared→Prop} (ht:IsTup s.heap t ([]:List Value).toArray) (hb:IsTup s.heap b ws.toArray) (h1:Q (.ref b) s) :
    wpAny (model prog w) A (binaryOp .Add (.ref t) (.ref b)) Q E s:=by
  obtain ⟨⟨cls,dd,data,sl⟩,ho,hc,n,hd⟩:=id ht
  obtain ⟨⟨cls2,dd2,data2,sl2⟩,ho2,hc2,n2,hd2⟩:=id hb
  simp only at hc hd hc2 hd2
  subst hc hd hc2 hd2
  exact concat_meets ⟨_,ho,rfl⟩ ⟨_,ho2,rfl⟩ noFill_tuple_add seq_tuple_add PySem.F.slot_tuple_add PySem.F.entry_tuple_add (PySem.F.args_tuple_add_2 _ _)
      (tuple_addW0 t b ([]:List Value).toArray ws.toArray n n2 dd dd2 sl sl2 (by simp)) ⟨ho,ho2,h1⟩
noncomputable def rCatT0 (K:PySem.W.Frag):R2:=fun x y H Q => ∃ a b ys,x = .ref a∧y = .ref b∧SqT K H a []∧SqT K H b ys∧Q (.ref b) H
theorem op_catT0:OpR X (binaryOp .Add) (rCatT0 X.K):=by
  intro pins s σ H x y v u Q I rx ry h
  obtain ⟨a,b,ys,rfl,rfl,ha,hb,q1⟩:=h
  cases rx
  cases ry
  obtain ⟨its,r1,p1,_⟩:=I.tuple ha
  obtain ⟨its2,r2,p2,_⟩:=I.tuple hb
  cases r1
  exact cat_tup0 p1 p2 ⟨.ref b,H,I,rfl,q1⟩
noncomputable def gCatT:G2:=fun a b => match a,b with | .tuple xs,.tuple ys => if small (xs ++ ys) = true then some (.tuple (xs ++ ys)) else none | _,_ => none
theorem RepW.tup {K:PySem.W.Frag} {Z:Zt} {H:Hp} {A:List Addr} {v:V} {ds:List D} (r:RepW K Z H A v (.tuple ds)):Rep K Z H A v (.tuple ds):=by
  rcases r with r | ⟨_,_,_,_,e2,_⟩
  · exact r
  · cases e2
theorem dcatT:DOp X (binaryOp .Add) gCatT:=DOp.of (op_catT.or op_catT0) fun Z A H st x y dx dy d Q S hA rx ry e q => by
  unfold gCatT at e
  split at e
  · split at e
    · rename_i hs
      cases e
      rename_i xs ys
      obtain ⟨p1,v1,ev1,h1,r1⟩:=rx.tuple
      obtain ⟨p2,v2,ev2,h2,r2⟩:=ry.tuple
      have hl:=of_decide_eq_true hs
      rw [List.length_append] at hl
      have l1:=r1.length
      have l2:=r2.length
      cases xs with
      | nil =>
        cases r1
        refine .inr ⟨p1,p2,v2,ev1,ev2,h1,h2,q _ H (Ext.refl H) S ?_⟩
        rw [← ev2]; exact ry.tup
      | cons a as =>
        refine .inl ⟨p1,p2,v1,v2,ev1,ev2,h1,h2,(fun z => by rw [z] at l1; cases l1),by omega,fun z => ?_,fun z p hp => ?_⟩
        · have ez:ys = []:=by rw [z] at l2; exact List.eq_nil_of_length_eq_zero l2.symm
          subst ez
          rw [List.append_nil,← ev1] at *
          exact q _ H (Ext.refl H) S rx.tup
        · exact q _ _ (Ext.upd hp) (S.upd hp) (.tup upd_same (fresh_not hA hp) (S.notZ hp) ((r1.append r2).ext (Ext.upd hp)))
    · cases e
  · cases e
noncomputable def gAddA:G2:=fun a b => (gAdd a b).or (gCatT a b)
theorem dadda:DOp X (binaryOp .Add) gAddA:=DOp.or dadd dcatT
theorem iadd_d:DOp X (inplaceOp .Add) gAddI:=dop_int (rI0_of iop_add) (fun _ _ _ => trivial) fun i j _ _ _ _ => .int _
theorem isub_d:DOp X (inplaceOp .Sub) gSubI:=dop_int (rI0_of iop_sub) (fun _ _ _ => trivial) fun i j _ _ _ _ => .int _
noncomputable def sAug (i:Nat) (g:G2) (F:FE):GS:=fun δ s => match δ[i]? with | some (.val d) => (F δ s).bind fun q => (g d q.1).map fun r => (.next (δ.set i (.val r)),q.2) | _ => none
theorem ds_aug {op:Operator} {g:G2} {pos':Pos} (hN:X.N.Nodup) (ho:DOp X (inplaceOp op) g) (he:DE X e F) (hi:X.N[i]? = some x:=by rfl) (hx:Loc X.env.scope x:=by first | exact Or.inl rfl | exact Or.inr rfl)
    (hf:X.fn x = true ∨ X.env.scope.names.lookup x = some .local:=by first | exact .inl rfl | exact .inr rfl | assumption):DS X (.AugAssign (.Name x pos') op e pos) (sAug i g F):=⟨fun Z A pins s σ H E I x__151 => by
  obtain ⟨ow,δ,st,o,st',R,S,ee,q⟩:=x__151
  unfold sAug at ee
  split at ee
  · rename_i d hd
    first | refine bnd2 ee fun dy s1 e1 ee => ?_ | refine mpp2 ee fun dy s1 e1 ee => ?_
    replace ee:((g d dy).map fun r => (Out.next (δ.set i (.val r)),s1)) = some (o,st'):=ee
    first | refine bnd1 ee fun r e2 ee => ?_ | refine mpp1 ee fun r e2 ee => ?_
    cases ee
    obtain ⟨v,h1,h2⟩:=R.val i d hd
    let T:TIp:=fun x y H1 Q => x = v∧∃ H0,Ext Z H H1∧H0 = H1∧StateAt Z H1 st'∧Rep X.K Z H1 (A ++ ow.map (·.2)) y dy∧∀ v' H',Ext Z H1 H'→StateAt Z H' st'→Rep X.K Z H' (A ++ ow.map (·.2)) v' r→Q v' H'
    have hT:PIp X op T:=fun pins s σ H1 x y u w Q I1 rx ry x__152 => by
      obtain ⟨ex,H0,x1,_,S1,r1,q1⟩:=x__152
      subst ex
      exact ho Z (A ++ ow.map (·.2)) pins s σ H1 st' _ y u w d dy r Q I1 S1 (R.mono x1).all (h2.ext x1).w r1.w rx ry e2 q1
    refine ps_aug (ti:=T) hN hi hx (he Z A) hT hf pins s σ H E I ⟨v,h1,_,ow,δ,st,dy,_,R,S,e1,fun y H1 x1 S1 r1 => ⟨rfl,H1,x1,rfl,S1,r1,fun v' H' x2 S2 r2 => ?_⟩⟩
    obtain ⟨R',f⟩:=(R.mono (x1.trans x2)).set (i:=i) r2
    exact q _ _ H' R' S2 ((Frm.ext (x1.trans x2)).trans f)
  · cases ee⟩
noncomputable def fChain (g g':G2) (Fa Fb Fc:FE):FE:=fun δ s => (Fa δ s).bind fun p => (Fb δ p.2).bind fun q => (g p.1 q.1).bind fun d => match d with
  | .bool true => (Fc δ q.2).bind fun r => (g' q.1 r.1).map fun d => (d,r.2)
  | .bool false => some (.bool false,q.2)
  | _ => none
theorem chain_read {op op':CmpOp} {g g':G2} (ho:DOp X (compareOp op) g) (ho':DOp X (compareOp op') g') (ha:DW X e Fa) (hb:DW X e2 Fb) (hc:DW X e3 Fc) {Z:Zt} {A:List Addr} {σ:L2.St} {H:Hp} {Q:VK} (h:tD X Z A (fChain g g' Fa Fb Fc) σ H Q) :
    ∃ r r':R2,OpR X (compareOp op) r∧OpR X (compareOp op') r'∧tChain r r' (tDW X Z A Fa) (tDW X Z A Fb) (tDW X Z A Fc) σ H Q:=by
  obtain ⟨B,ow,δ,s,d,s',R,S,ee,q⟩:=h
  unfold fChain at ee
  first | refine bnd2 ee fun dx s1 e1 ee => ?_ | refine mpp2 ee fun dx s1 e1 ee => ?_
  try simp only [Option.bind_some] at ee
  first | refine bnd2 ee fun dy s2 e2 ee => ?_ | refine mpp2 ee fun dy s2 e2 ee => ?_
  try simp only [Option.bind_some] at ee
  first | refine bnd1 ee fun dk e3 ee => ?_ | refine mpp1 ee fun dk e3 ee => ?_
  try simp only [Option.bind_some] at ee
  let T:R2:=fun x y H2 Q' => Ext Z H H2∧StateAt Z H2 s2∧RepW X.K Z H2 (A ++ ow.map (·.2)) x dx∧RepW X.K Z H2 (A ++ ow.map (·.2)) y dy∧∀ v' H',Ext Z H2 H'→StateAt Z H' s2→Rep X.K Z H' (A ++ ow.map (·.2)) v' dk→Q' v' H'
  have hT:OpR X (compareOp op) T:=fun pins s σ H2 x y u w Q' I rx ry x__153 => (by obtain ⟨x2,S2,r1,r2,q2⟩:=x__153; exact ho Z _ pins s σ H2 s2 x y u w dx dy dk Q' I S2 (R.mono x2).all r1 r2 rx ry e3 q2)
  cases dk with
  | bool k =>
    cases k with
    | true =>
      simp only at ee
      first | refine bnd2 ee fun dz s3 e4 ee => ?_ | refine mpp2 ee fun dz s3 e4 ee => ?_
      try simp only [Option.bind_some] at ee
      first | refine bnd1 ee fun dd e5 ee => ?_ | refine mpp1 ee fun dd e5 ee => ?_
      cases ee
      let T':R2:=fun x y H2 Q' => Ext Z H H2∧StateAt Z H2 s'∧RepW X.K Z H2 (A ++ ow.map (·.2)) x dy∧RepW X.K Z H2 (A ++ ow.map (·.2)) y dz∧∀ v' H',Ext Z H2 H'→StateAt Z H' s'→Rep X.K Z H' (A ++ ow.map (·.2)) v' d→Q' v' H'
      have hT':OpR X (compareOp op') T':=fun pins s σ H2 x y u w Q' I rx ry x__154 => (by obtain ⟨x2,S2,r1,r2,q2⟩:=x__154; exact ho' Z _ pins s σ H2 s' x y u w dy dz d Q' I S2 (R.mono x2).all r1 r2 rx ry e5 q2)
      refine ⟨T,T',hT,hT',B,ow,δ,s,dx,s1,R,S,e1,fun v H1 x1 S1 r1 => ⟨B,ow,δ,s1,dy,s2,R.mono x1,S1,e2,fun u H2 x2 S2 r2 => ⟨x1.trans x2,S2,r1.ext x2,r2,fun v' H3 x3 S3 r3 => ?_⟩⟩⟩
      cases r3
      refine ⟨true,rfl,iteT ⟨B,ow,δ,s2,dz,s',(R.mono (x1.trans x2)).mono x3,S3,e4,fun v4 H4 x4 S4 r4 => ⟨((x1.trans x2).trans x3).trans x4,S4,(r2.ext x3).ext x4,r4,fun v5 H5 x5 S5 r5 => q v5 H5 ((((x1.trans x2).trans x3).trans x4).trans x5) S5 r5⟩⟩⟩
    | false =>
      cases ee
      refine ⟨T,fun _ _ _ _ => False,hT,fun _ _ _ _ _ _ _ _ _ _ _ _ z => z.elim,B,ow,δ,s,dx,s1,R,S,e1,fun v H1 x1 S1 r1 => ⟨B,ow,δ,s1,dy,_,R.mono x1,S1,e2,fun u H2 x2 S2 r2 => ⟨x1.trans x2,S2,r1.ext x2,r2,fun v' H3 x3 S3 r3 => ?_⟩⟩⟩
      cases r3
      exact ⟨false,rfl,iteF (q _ H3 ((x1.trans x2).trans x3) S3 (.bl _))⟩
  | _ => cases ee
theorem de_chain {op op':CmpOp} {g g':G2} (ho:DOp X (compareOp op) g) (ho':DOp X (compareOp op') g') (ha:DW X e Fa) (hb:DW X e2 Fb) (hc:DW X e3 Fc) (hm:lastMarks [op,op'] [e2,e3] = false:=by with_unfolding_all rfl) :
    DE X (.Compare e [op,op'] [e2,e3] pos) (fChain g g' Fa Fb Fc):=⟨fun Z A pins s σ H Q I h => by
  obtain ⟨r,r',h1,h2,h3⟩:=chain_read ho ho' ha hb hc h
  exact pe_chain h1 h2 (ha Z A) (hb Z A) (hc Z A) hm pins s σ H Q I h3⟩
end
end L3

namespace L3
open PySem L2 PySem.Spec PyProof.Rows
noncomputable def clOf (cells:List (Str × Addr)):List (Str × NameKind)→List (Str × Addr)→List (Str × Addr)
  | [],cs => cs
  | y :: r,cs => clOf cells r (if y.2 == NameKind.free then (y.1,(cells.lookup y.1).getD 0) :: cs else cs)
theorem closureFor_cl {env:Env} {scope:Scope} (h:∀ y ∈ scope.names,y.2 = .free→∃ c,env.cells.lookup y.1 = some c):closureFor scope env = pure (clOf env.cells scope.names []):=by
  unfold closureFor
  generalize scope.names = names at h
  have key:∀ (names:List (Str × NameKind)) (cs:List (Str × Addr)),(∀ y ∈ names,y.2 = .free→∃ c,env.cells.lookup y.1 = some c) →
      (forIn names cs fun (x:Str × NameKind) (r:List (Str × Addr)) => (if (x.2 == NameKind.free) = true then do let a ← cellOf env x.1; pure (ForInStep.yield ((x.1,a) :: r)) else pure (ForInStep.yield r):Sem _)) = pure (clOf env.cells names cs):=by
    intro names
    induction names with
    | nil => intro cs _; rfl
    | cons y r ih =>
      intro cs hy
      rw [List.forIn_cons]
      obtain ⟨n,k⟩:=y
      by_cases hk:k = .free
      · subst hk
        obtain ⟨c,hc⟩:=hy (n,.free) List.mem_cons_self rfl
        have e:cellOf env n = pure c:=by unfold cellOf; simp only at hc; rw [hc]
        simp only [beq_self_eq_true,if_true,e,pure_bind]
        rw [ih _ fun y hm => hy y (List.mem_cons_of_mem _ hm)]
        simp only at hc
        simp [clOf,hc]
      · have hb:(k == NameKind.free) = false:=by simpa using hk
        simp only [hb,Bool.false_eq_true,if_false,pure_bind]
        rw [ih _ fun y hm => hy y (List.mem_cons_of_mem _ hm)]
        simp [clOf,hb]
  have:=key names [] h
  simpa using this
theorem clOf_mem {cells:List (Str × Addr)}:∀ {names:List (Str × NameKind)} {cs:List (Str × Addr)} {n:Str} {c:Addr},(n,c) ∈ clOf cells names cs→(n,c) ∈ cs ∨ ((n,NameKind.free) ∈ names∧c = (cells.lookup n).getD 0)
  | [],_,_,_,h => .inl h
  | y :: r,cs,n,c,h => by
    unfold clOf at h
    rcases clOf_mem h with h1 | ⟨h1,h2⟩
    · split at h1
      · rename_i hk
        rcases List.mem_cons.mp h1 with e | h1
        · obtain ⟨y1,y2⟩:=y
          cases e
          have:y2 = .free:=by simpa using hk
          subst this
          exact .inr ⟨List.mem_cons_self,rfl⟩
        · exact .inl h1
      · exact .inl h1
    · exact .inr ⟨List.mem_cons_of_mem _ h1,h2⟩
theorem clOf_keep {cells:List (Str × Addr)}:∀ {names:List (Str × NameKind)} {cs:List (Str × Addr)} {q:Str × Addr},q ∈ cs→q ∈ clOf cells names cs
  | [],_,_,h => h
  | y :: r,cs,q,h => by
    unfold clOf
    refine clOf_keep ?_
    split
    · exact List.mem_cons_of_mem _ h
    · exact h
theorem clOf_has {cells:List (Str × Addr)}:∀ {names:List (Str × NameKind)} {cs:List (Str × Addr)} {n:Str},(n,NameKind.free) ∈ names→∃ c,(n,c) ∈ clOf cells names cs
  | [],_,_,h => nomatch h
  | y :: r,cs,n,h => by
    rcases List.mem_cons.mp h with e | h
    · subst e
      unfold clOf
      exact ⟨(cells.lookup n).getD 0,clOf_keep (by simp)⟩
    · unfold clOf
      exact clOf_has h
theorem lookup_mem {α:Type}:∀ {l:List (Str × α)} {x:Str} {c:α},l.lookup x = some c→(x,c) ∈ l
  | [],_,_,h => nomatch h
  | (y,d) :: r,x,c,h => by
    rw [List.lookup_cons] at h
    split at h
    · rename_i e
      cases h
      rw [eq_of_beq e]; exact List.mem_cons_self
    · exact List.mem_cons_of_mem _ (lookup_mem h)
theorem lookup_some_of_mem {α:Type}:∀ {l:List (Str × α)} {x:Str} {c:α},(x,c) ∈ l→∃ d,l.lookup x = some d
  | [],_,_,h => nomatch h
  | (y,d) :: r,x,c,h => by
    rw [List.lookup_cons]
    split
    · exact ⟨_,rfl⟩
    · rename_i e
      rcases List.mem_cons.mp h with z | z
      · cases z; simp at e
      · exact lookup_some_of_mem z
noncomputable def compChk (sc:Scope) (N0:List Str) (scope:Scope) (N:List Str) (k:Nat) (fr:List Nat):Bool :=
  decide (scope.kind = .function) && decide (sc.kind = .function) && scope.names.all (fun y => decide (y.2 ≠ .cell)) && scope.names.all (fun y => !decide (y.2 = .local) || decide (scope.names.lookup y.1 = some .local)) &&
  scope.names.all (fun y => !decide (y.2 = .free) || decide (sc.names.lookup y.1 = some .cell)) && decide (N.length = k + fr.length) &&
  (List.range fr.length).all fun t => match fr[t]?,N[k + t]? with | some j,some x => decide (N0[j]? = some x) && decide (scope.names.lookup x = some .free) | _,_ => false
theorem relabel_lookup {scope:Scope} {env:Env}:∀ {names:List (Str × NameKind)} {x:Str} {k:NameKind},(∀ y ∈ names,y.2 = .free→env.scope.kind = .function∧env.scope.names.lookup y.1 = some .cell)→names.lookup x = some k →
    (names.map fun (n,k) => if (k == .free && env.scope.kind == .function && env.kindOf n == some .cell) then (n,NameKind.cell) else (n,k)).lookup x = some (if k = .free then .cell else k)
  | [],_,_,_,h => nomatch h
  | (n,k') :: r,x,k,hf,h => by
    rw [List.lookup_cons] at h
    rw [List.map_cons]
    by_cases hk:k' = .free
    · subst hk
      obtain ⟨h1,h2⟩:=hf (n,.free) List.mem_cons_self rfl
      have e:(NameKind.free == NameKind.free && env.scope.kind == .function && env.kindOf n == some .cell) = true:=by
        simp only [beq_self_eq_true,Bool.true_and,Bool.and_eq_true,beq_iff_eq]
        exact ⟨h1,h2⟩
      simp only [e,if_true]
      rw [List.lookup_cons]
      cases ex:x == n with
      | true => rw [ex] at h; cases h; rfl
      | false => rw [ex] at h; exact relabel_lookup (scope:=scope) (fun y hy => hf y (List.mem_cons_of_mem _ hy)) h
    · have e:(k' == NameKind.free && env.scope.kind == .function && env.kindOf n == some .cell) = false:=by simp [hk]
      simp only [e,Bool.false_eq_true,if_false]
      rw [List.lookup_cons]
      cases ex:x == n with
      | true => rw [ex] at h; cases h; simp [hk]
      | false => rw [ex] at h; exact relabel_lookup (scope:=scope) (fun y hy => hf y (List.mem_cons_of_mem _ hy)) h
theorem relabel_none {env:Env}:∀ {names:List (Str × NameKind)} {x:Str},names.lookup x = none →
    (names.map fun (n,k) => if (k == .free && env.scope.kind == .function && env.kindOf n == some .cell) then (n,NameKind.cell) else (n,k)).lookup x = none
  | [],_,_ => rfl
  | (n,k') :: r,x,h => by
    rw [List.lookup_cons] at h
    rw [List.map_cons]
    cases ex:x == n with
    | true => rw [ex] at h; cases h
    | false =>
      rw [ex] at h
      have ih:=relabel_none (env:=env) (names:=r) h
      by_cases hk:(k' == NameKind.free && env.scope.kind == .function && env.kindOf n == some .cell) = true
      · simp only [hk,if_true,List.lookup_cons,ex]; exact ih
      · simp only [hk,Bool.false_eq_true,if_false,List.lookup_cons,ex]; exact ih
theorem compOkC {X:Cx} {sc:Scope} {N0:List Str} {scope:Scope} {N:List Str} {k:Nat} {fr:List Nat} (hsc:X.env.scope = sc) (hN:X.N = N0) (h:compChk sc N0 scope N k fr = true) (hc:∀ x,X.env.scope.names.lookup x = some .cell→∃ c,X.env.cells.lookup x = some c) :
    CompOk X scope (clOf X.env.cells scope.names []) N k fr:=by
  subst hsc hN
  simp only [compChk,Bool.and_eq_true,decide_eq_true_eq,List.all_eq_true,Bool.or_eq_true,Bool.not_eq_true',decide_eq_false_iff_not] at h
  obtain ⟨⟨⟨⟨⟨⟨h1,h2⟩,h3⟩,h4⟩,h5⟩,h6⟩,h7⟩:=h
  have hfree:∀ y ∈ scope.names,y.2 = .free→X.env.scope.names.lookup y.1 = some .cell:=fun y hy e => (h5 y hy).elim (fun z => absurd e z) id
  have hcl:∀ y ∈ scope.names,y.2 = .free→∃ c,X.env.cells.lookup y.1 = some c:=fun y hy e => hc _ (hfree y hy e)
  have hmem:∀ x,(x,NameKind.free) ∈ scope.names→∃ c,(clOf X.env.cells scope.names []).lookup x = some c:=fun x hx => by
    obtain ⟨c,h⟩:=clOf_has (cells:=X.env.cells) (cs:=[]) hx
    exact lookup_some_of_mem h
  have lab:∀ x kd,scope.names.lookup x = some kd→(relabel scope X.env).names.lookup x = some (if kd = .free then .cell else kd):=fun x kd hx =>
    relabel_lookup (scope:=scope) (env:=X.env) (fun y hy e => ⟨h2,hfree y hy e⟩) hx
  refine ⟨h1,h3,fun y hy e => (h4 y hy).elim (fun z => absurd e z) id,closureFor_cl hcl,fun x c hx => ?_,fun x hx => ?_,h6,fun t j x ht hx => ?_⟩
  · rcases clOf_mem (lookup_mem hx) with h | ⟨h,e⟩
    · exact nomatch h
    · obtain ⟨c',hc'⟩:=hcl _ h rfl
      simp only at hc'
      rw [e,hc']; rfl
  · cases e:scope.names.lookup x with
    | none =>
      have:=relabel_none (env:=X.env) e
      rcases hx with hx | hx
      · rw [show (relabel scope X.env).names.lookup x = none from this] at hx; cases hx
      · rw [show (relabel scope X.env).names.lookup x = none from this] at hx; cases hx
    | some kd =>
      have hl:=lab x kd e
      have hm:=lookup_mem e
      by_cases hk:kd = .free
      · subst hk; exact hmem x hm
      · rw [if_neg hk] at hl
        have nc:=h3 _ hm
        rcases hx with hx | hx
        · rw [hl] at hx; cases hx; exact absurd rfl nc
        · rw [hl] at hx; cases hx; exact absurd rfl hk
  · have htl:t < fr.length:=(List.getElem?_eq_some_iff.mp ht).1
    have h8:=h7 t (List.mem_range.mpr htl)
    rw [ht,hx] at h8
    simp only [Bool.and_eq_true,decide_eq_true_eq] at h8
    obtain ⟨h9,h10⟩:=h8
    have hm:=lookup_mem h10
    have hcell:=hfree _ hm rfl
    simp only at hcell
    refine ⟨h9,.inr (.inl hcell),hmem x hm,.inl ?_,fun z => by rw [hcell] at z; cases z⟩
    have:=lab x _ h10
    rw [if_pos rfl] at this
    exact this
mutual
noncomputable def noList:D→Bool
  | .list _ => false
  | .dict _ => false
  | .tuple ds => noLists ds
  | _ => true
noncomputable def noLists:List D→Bool
  | [] => true
  | d :: ds => noList d && noLists ds
end
theorem Reps.off {K:PySem.W.Frag} {Z:Zt} {H:Hp} {A B:List Addr} (hB:∀ q ∈ B,∃ vs,H q = some (.lst vs)) {vs:List V} {ds:List D} (r:Reps K Z H A vs ds):noLists ds = true→Reps K Z H (A ++ B) vs ds :=
  Reps.rec (motive_1:=fun v d _ => noList d = true→Rep K Z H (A ++ B) v d) (motive_2:=fun vs ds _ => noLists ds = true→Reps K Z H (A ++ B) vs ds) (fun _ => .non) (fun b _ => .bl b) (fun i _ => .int i) (fun x _ => .str x)
    (fun h n z _ r e => .tup h (fun m => (List.mem_append.mp m).elim n fun m => by obtain ⟨vs,hv⟩:=hB _ m; rw [h] at hv; cases hv) z (r e)) (fun _ _ _ _ _ e => absurd e Bool.false_ne_true) (fun h _ r e => .mod h (r e)) (fun _ e => absurd e Bool.false_ne_true)
    (fun _ _ _ _ _ _ e => absurd e Bool.false_ne_true) (fun _ => .nil) (fun _ _ r t e => .cons (r ((Bool.and_eq_true _ _).mp e).1) (t ((Bool.and_eq_true _ _).mp e).2)) r
theorem Rep.off {K:PySem.W.Frag} {Z:Zt} {H:Hp} {A B:List Addr} (hB:∀ q ∈ B,∃ vs,H q = some (.lst vs)) {v:V} {d:D} (r:Rep K Z H A v d) (e:noList d = true):Rep K Z H (A ++ B) v d:=Reps.head (Reps.off hB (.cons r .nil) (by rw [noLists,e]; rfl))
inductive tDVK (K:PySem.W.Frag) (Z:Zt) (A:List Addr) (F:FE) (σ:L2.St) (H:Hp) (Q:VK):Prop
  | mk (B:Hp) (ow:Ow) (δ:Sl) (s:Sx) (d:D) (s':Sx) (h0:RepS K B Z A ow σ δ H) (h1:StateAt Z H s) (h2:F δ s = some (d,s')) (h3:∀ v H',Ext Z H H'→StateAt Z H' s'→Rep K Z H' A v d→Q v H')
noncomputable abbrev tDV (X:Cx) (Z:Zt) (A:List Addr) (F:FE):TE:=tDVK X.K Z A F
structure DV (X:Cx) (e:Expr) (F:FE):Prop where
  go:∀ Z A,PE X e (tDV X Z A F)
instance {X:Cx} {e:Expr} {F:FE}:CoeFun (DV X e F) (fun _ => ∀ Z A,PE X e (tDV X Z A F)):=⟨fun h => h.go⟩
inductive tDVAK (K:PySem.W.Frag) (Z:Zt) (A:List Addr) (F:FA) (σ:L2.St) (H:Hp) (Q:List V→Hp→Prop):Prop
  | mk (B:Hp) (ow:Ow) (δ:Sl) (s:Sx) (ds:List D) (s':Sx) (h0:RepS K B Z A ow σ δ H) (h1:StateAt Z H s) (h2:F δ s = some (ds,s')) (h3:∀ vs H',Ext Z H H'→StateAt Z H' s'→Reps K Z H' A vs ds→Q vs H')
noncomputable abbrev tDVA (X:Cx) (Z:Zt) (A:List Addr) (F:FA):TA:=tDVAK X.K Z A F
structure DVA (X:Cx) (es:List Expr) (F:FA):Prop where
  go:∀ Z A,PA X es (tDVA X Z A F)
instance {X:Cx} {es:List Expr} {F:FA}:CoeFun (DVA X es F) (fun _ => ∀ Z A,PA X es (tDVA X Z A F)):=⟨fun h => h.go⟩
section
variable {X:Cx} {e e2 ie:Expr} {es:List Expr} {F Fa Fi:FE} {FL:FA} {x:Str} {i:Nat} {p pos px tpos:Pos}
theorem DE.v (h:DE X e F):DV X e F:=⟨fun Z A => PE.imp (h Z A) fun σ H Q x__155 => (by obtain ⟨B,ow,δ,s,d,s',R,S,ee,q⟩:=x__155; exact ⟨B,ow,δ,s,d,s',R,S,ee,fun v H' a b c => q v H' a b (c.sub fun q hq => List.mem_append_left _ hq)⟩)⟩
noncomputable def fVarW (i:Nat):FE:=fun δ s => match δ[i]? with | some (.val d) => some (d,s) | some (.own xs) => some (.list xs,s) | _ => none
theorem dw_of {e:Expr} (h:PE X e (tVar i)):DW X e (fVarW i):=⟨fun Z A => PE.imp h fun σ H Q x__156 => by
  obtain ⟨B,ow,δ,s,d,s',R,S,ee,q⟩:=x__156
  unfold fVarW at ee
  split at ee
  · rename_i d' hd
    cases ee
    obtain ⟨v,h1,h2⟩:=R.val i _ hd
    exact ⟨v,h1,q v H (Ext.refl H) S h2.w⟩
  · rename_i xs hd
    cases ee
    obtain ⟨p,vs,h1,h2,h3,h4⟩:=R.own i xs hd
    exact ⟨_,h2,q _ H (Ext.refl H) S (.inr ⟨p,vs,_,rfl,rfl,h3,(R.ows i p h1).2.2.1,h4⟩)⟩
  · cases ee⟩
theorem dvw (i:Nat) {x:Str} (hN:X.N[i]? = some x:=by rfl) (hv:Vis X.env.scope x:=by first | exact Or.inl rfl | exact Or.inr (Or.inl rfl) | exact Or.inr (Or.inr rfl)) (hd:(x == ("__debug__":Str)) = false:=by decide)
    (hcd:(x == ("__classdict__":Str)) = false:=by decide):DW X (.Name x pos) (fVarW i):=dw_of (pv i hN hv hd hcd)
end
end L3

namespace L3
open PySem L2 PySem.Spec PyProof.Rows
mutual
inductive Cn:Expr→D→Prop
  | int {i:Int} {j:Nat} {p:Pos}:Cn (.Constant (.int i) j p) (.int i)
  | bl {b:Bool} {j:Nat} {p:Pos}:Cn (.Constant (.bool b) j p) (.bool b)
  | non {j:Nat} {p:Pos}:Cn (.Constant .none j p) .none
  | str {x:Str} {j:Nat} {p:Pos}:Cn (.Constant (.str x) j p) (.str x)
  | neg {a:Expr} {i:Int} {p:Pos}:Cn a (.int i)→Cn (.UnaryOp .USub a p) (.int (-i))
  | tup {es:List Expr} {ds:List D} {c:Nat} {p:Pos}:small ds = true→Cns es ds→Cn (.Tuple es c p) (.tuple ds)
  | lst {es:List Expr} {ds:List D} {p:Pos}:small ds = true→Cns es ds→Cn (.List es p) (.list ds)
inductive Cns:List Expr→List D→Prop
  | nil:Cns [] []
  | cons {e:Expr} {d:D} {es:List Expr} {ds:List D}:Cn e d→Cns es ds→Cns (e :: es) (d :: ds)
end
structure Cst (K:PySem.W.Frag) (mg:Str→Option Value) (x:Str) (d:D):Prop where
  de:∀ {X:Cx} {pos:Pos},X.K = K→X.mg = mg→Gl X x→DE X (.Name x pos) (fC d)
theorem star_cst {e:Expr} {d:D} {es:List Expr} {env:Env} (h:Cn e d):starEach (e :: es) env = (false,eval e env) :: starEach es env:=by
  cases h <;> rfl
section
variable {X:Cx}
theorem DE.as {e:Expr} {F G:FE} (h:DE X e F) (he:∀ δ s r,G δ s = some r→F δ s = some r):DE X e G:=⟨fun Z A => PE.imp (h Z A) fun σ H Q x__157 => (by obtain ⟨B,ow,δ,s,d,s',R,S,ee,q⟩:=x__157; exact ⟨B,ow,δ,s,d,s',R,S,he _ _ _ ee,q⟩)⟩
theorem de_cst {e:Expr} {d:D} (h:Cn e d):DE X e (fC d) :=
  Cn.rec (motive_1:=fun e d _ => DE X e (fC d)) (motive_2:=fun es ds _ => DA X es (fun _ s => some (ds,s))) de_int de_bl de_non de_str
    (fun _ h => (de_neg h.w).as fun δ s r hr => by cases hr; rfl) (fun hs _ h => (de_tup h).as fun δ s r hr => by cases hr; unfold eTup; simp [hs]) (fun hs _ h => (de_lst h).as fun δ s r hr => by cases hr; unfold eLst; simp [hs])
    da_nil (fun h _ d t => da_cons d t (star_cst h)) h
end
end L3

namespace L3
open PySem L2 PySem.Spec PyProof.Rows
theorem compD_pure {T:Tgt} {Ft:FT} {F:FE} {δc:Sl} {f:D→D} {s:Sx}:∀ (ds:List D),(∀ d ∈ ds,∃ δ1,T.run d δc = some δ1∧Ft δ1 s = some (true,s)∧F δ1 s = some (f d,s))→compD T Ft F δc ds s = some (ds.map f,s)
  | [],_ => rfl
  | d :: ds,h => by
    obtain ⟨δ1,e1,e2,e3⟩:=h d List.mem_cons_self
    have ih:=compD_pure ds fun d hd => h d (List.mem_cons_of_mem _ hd)
    unfold compD
    rw [e1]
    simp only [Option.bind_some,e2,if_true,e3,ih,Option.map_some,List.map_cons]
theorem compD_gen {T:Tgt} {Ft:FT} {F:FE} {δc:Sl} (P:D→Prop) (c:Nat) (step:∀ n s d,Good (n + c) s→∃ δ1 x s',T.run d δc = some δ1∧Ft δ1 s = some (true,s)∧F δ1 s = some (x,s')∧P x∧Good n s') :
    ∀ (ds:List D) (n:Nat) (s:Sx),Good (n + c * ds.length) s→∃ xs s',compD T Ft F δc ds s = some (xs,s')∧(∀ x ∈ xs,P x)∧xs.length = ds.length∧Good n s'
  | [],n,s,h => ⟨[],s,rfl,(fun _ z => nomatch z),rfl,by simpa using h⟩
  | d :: ds,n,s,h => by
    obtain ⟨δ1,x,s1,e1,e2,e3,hx,g1⟩:=step (n + c * ds.length) s d (h.mono (by rw [List.length_cons,Nat.mul_add]; omega))
    obtain ⟨xs,s2,e4,hxs,hl,g2⟩:=compD_gen P c step ds n s1 g1
    refine ⟨x :: xs,s2,?_,?_,by simp [hl],g2⟩
    · unfold compD
      rw [e1]
      simp only [Option.bind_some,e2,if_true,e3,e4,Option.map_some]
    · intro y hy
      rcases List.mem_cons.mp hy with rfl | hy
      · exact hx
      · exact hxs y hy
theorem small_le {l:List D} (h:l.length ≤ 1000):small l = true:=decide_eq_true (Nat.le_trans h (by decide))
theorem atI_nat {l:List D} {n:Nat} {d:D} (h:l[n]? = some d):L2.atI l (n:Int) = some d:=by
  have hl:=(List.getElem?_eq_some_iff.mp h).1
  unfold L2.atI ixN
  rw [if_pos (by omega),if_pos (by omega),Int.toNat_natCast]
  exact h
noncomputable def IsN (n:Nat) (d:D):Prop:=∃ p q,Num n d p q
theorem IsN.mono {n m:Nat} {d:D} (h:IsN n d) (hm:n ≤ m):IsN m d:=by obtain ⟨p,q,h⟩:=h; exact ⟨p,q,h.mono hm⟩
noncomputable def AllN (n:Nat) (l:List D):Prop:=∀ d ∈ l,IsN n d
theorem AllN.take {n:Nat} {l:List D} (h:AllN n l) (k:Nat):AllN n (l.take k):=fun d hd => h d (List.mem_of_mem_take hd)
theorem AllN.drop {n:Nat} {l:List D} (h:AllN n l) (k:Nat):AllN n (l.drop k):=fun d hd => h d (List.mem_of_mem_drop hd)
theorem AllN.mono {n m:Nat} {l:List D} (h:AllN n l) (hm:n ≤ m):AllN m l:=fun d hd => (h d hd).mono hm
end L3

namespace L3
open PySem L2 PySem.Spec PyProof.Rows
noncomputable def lookF (f:Str):List (D × D)→Option D
  | (.str n,d) :: r => if f = n then some d else lookF f r
  | _ => none
theorem Reps.field {K:PySem.W.Frag} {Z:Zt} {H:Hp} {A:List Addr} {f:Str} {d:D}:∀ {ns:List Str} {vs:List V} {ds:List D},Reps K Z H A vs ds→lookF f ((ns.map PyData.str).zip ds) = some d→∃ v,(ns.zip vs).lookup f = some v∧Rep K Z H A v d
  | [],_,_,_,h => by simp [lookF] at h
  | n :: ns,_,_,.nil,h => by simp [lookF] at h
  | n :: ns,_,_,.cons (v:=v) r t,h => by
    simp only [List.map_cons,List.zip_cons_cons,lookF] at h
    rw [List.zip_cons_cons,List.lookup_cons]
    split at h
    · rename_i e
      cases h
      subst e
      exact ⟨v,by simp,r⟩
    · rename_i e
      obtain ⟨v',h1,h2⟩:=Reps.field t h
      have:(f == n) = false:=by simpa using e
      exact ⟨v',by rw [this]; exact h1,h2⟩
theorem Reps.nofield {K:PySem.W.Frag} {Z:Zt} {H:Hp} {A:List Addr} {f:Str}:∀ {ns:List Str} {vs:List V} {ds:List D},Reps K Z H A vs ds→lookF f ((ns.map PyData.str).zip ds) = none→(ns.zip vs).lookup f = none
  | [],_,_,_,_ => rfl
  | n :: ns,_,_,.nil,_ => rfl
  | n :: ns,_,_,.cons r t,h => by
    simp only [List.map_cons,List.zip_cons_cons,lookF] at h
    rw [List.zip_cons_cons,List.lookup_cons]
    split at h
    · cases h
    · rename_i e
      have:(f == n) = false:=by simpa using e
      rw [this]
      exact Reps.nofield t h
theorem RepW.object {K:PySem.W.Frag} {Z:Zt} {H:Hp} {A:List Addr} {v:V} {e c:Str} {fs:List (D × D)} (r:RepW K Z H A v (.dict ((.str e,.str c) :: fs))) :
    ∃ (p C dx:Addr) (ns:List Str) (vs:List V) (ds:List D),v = .ref p∧PySem.W.nsIn K mainGlobals c = some (some (.ref C))∧H p = some (.ins C dx (ns.zip vs))∧Reps K Z H A vs ds∧fs = (ns.map PyData.str).zip ds:=by
  rcases r with r | ⟨_,_,_,_,e2,_⟩
  · cases r with
    | obj k h n z q => exact ⟨_,_,_,_,_,_,rfl,k,h,q,rfl⟩
  · cases e2
inductive CstV (K:PySem.W.Frag) (mg:Str→Option Value) (x:Str) (d:D):Prop
  | mk (v:V) (u:Value) (h0:mg x = some u) (h1:RelV v u) (h2:∀ Z H A,Rep K Z H A v d)
inductive IsM (K:PySem.W.Frag) (c m q:Str) (st:Stmt):Prop
  | mk (C:Addr) (f:Addr) (fd:FuncData) (h0:PySem.W.nsIn K mainGlobals c = some (some (.ref C))) (h1:Cls K C) (h2:Meth K C m f) (h3:Fun K m q st f fd)
inductive IsI (K:PySem.W.Frag) (mg:Str→Option Value) (c q:Str) (st:Stmt) (fs:List Str):Prop
  | mk (C:Addr) (f:Addr) (fd:FuncData) (h0:PySem.W.nsIn K mainGlobals c = some (some (.ref C))) (h1:mg c = some (.ref C)) (h2:Mk K C f) (h3:Cls K C) (h4:(∀ x ∈ fs,NoAttr K C x)) (h5:Fun K "__init__" q st f fd)
section
variable {X:Cx} {e o:Expr} {es:List Expr} {Fa Fo:FE} {FL:FA} {f x m:Str} {p pos apos:Pos}
inductive FCal (K:PySem.W.Frag) (c f:Str):Prop
  | mk (C:Addr) (h0:PySem.W.nsIn K mainGlobals c = some (some (.ref C))) (h1:Cls K C) (h2:NoAttr K C f)
noncomputable def gFld (cs:List Str) (f:Str):G1:=fun d => match d with | .dict ((.str _,.str c) :: fs) => if c ∈ cs then lookF f fs else none | _ => none
theorem de_fld {cs:List Str} (hc:∀ c ∈ cs,FCal X.K c f) (ha:DW X e Fa) (hb:attributeBase e f X.env (eval e X.env) = eval e X.env:=by rfl):DE X (.Attribute e f pos) (f1 (gFld cs f) Fa):=⟨fun Z A => PE.imp (pe_fld (ha Z A) hb) fun σ H Q x__158 => by
  obtain ⟨B,ow,δ,s,d,s',R,S,ee,q⟩:=x__158
  unfold f1 at ee
  first | refine bnd2 ee fun dx s1 e1 ee => ?_ | refine mpp2 ee fun dx s1 e1 ee => ?_
  replace ee:((gFld cs f dx).map fun d => (d,s1)) = some (d,s'):=ee
  cases e3:gFld cs f dx with
  | none => rw [e3] at ee; cases ee
  | some d' =>
    rw [e3] at ee
    cases ee
    refine ⟨B,ow,δ,s,dx,_,R,S,e1,fun v H1 x1 S1 r => ?_⟩
    unfold gFld at e3
    split at e3
    · rename_i e0 c fs
      split at e3
      · rename_i hin
        obtain ⟨p,C,dxx,ns,vs,ds,rfl,k,h,rs,rfl⟩:=r.object
        obtain ⟨C',k',cl,na⟩:=(hc c hin)
        rw [k] at k'
        cases k'
        obtain ⟨v',h1,h2⟩:=rs.field e3
        exact ⟨p,C,dxx,_,v',rfl,h,cl,na,h1,q v' H1 x1 S1 h2⟩
      · cases e3
    · cases e3⟩
inductive MCal (P:Program) (w:World) (K:PySem.W.Frag) (mg:Str→Option Value) (base:Heap) (c m:Str) (k:Nat) (g:GF):Prop
  | mk (C:Addr) (f:Addr) (fd:FuncData) (ps:List Str) (h0:PySem.W.nsIn K mainGlobals c = some (some (.ref C))) (h1:Cls K C) (h2:Meth K C m f) (h3:FnOk P w K mg base CX0 k f fd ps (spD K g)) (h4:Binds K fd ps [])
noncomputable def fMeth (tab:List (Str × GF)) (m:Str) (Fo:FE) (FL:FA):FE:=fun δ s => (Fo δ s).bind fun p => match p.1 with
  | .dict ((.str e,.str c) :: fs) => if (lookF m fs).isNone = true then (tab.lookup c).bind fun g => (FL δ p.2).bind fun q => g (.dict ((.str e,.str c) :: fs) :: q.1) q.2 else none
  | _ => none
theorem de_meth {tab:List (Str × GF)} {k':Nat} {pl:Sem Bool} (ht:∀ c g,tab.lookup c = some g→∃ k,k ≤ k'∧MCal X.prog X.w X.K X.mg X.base c m k g) (hr:Room k' X.A) (ho:DE X o Fo) (ha:DA X (e :: es) FL)
    (hst:starEach (e :: es) X.env = (false,eval e X.env) :: starEach es X.env:=by rfl) (hpl:(backTo pos (starEach es X.env)).any (·.1) = false:=by rfl)
    (hev:eval (.Call (.Attribute o m apos) (e :: es) [] pos) X.env = (do
      let ov ← eval o X.env
      standAt apos.atName
      let (f,first) ← holding [ov] (getMethod ov m pl)
      callWith pos f first (backTo pos (starEach (e :: es) X.env)) (backToKw pos (keywordEach [] X.env))):=by rfl) :
    DE X (.Call (.Attribute o m apos) (e :: es) [] pos) (fMeth tab m Fo FL):=⟨fun Z A pins s σ H Q I x__159 => by
  obtain ⟨B,ow,δ,st,d,st',R,S,ee,q⟩:=x__159
  unfold fMeth at ee
  first | refine bnd2 ee fun dx s1 e1 ee => ?_ | refine mpp2 ee fun dx s1 e1 ee => ?_
  try simp only [Option.bind_some] at ee
  split at ee
  · rename_i e0 c fs
    split at ee
    · rename_i hno
      first | refine bnd1 ee fun g e2 ee => ?_ | refine mpp1 ee fun g e2 ee => ?_
      try simp only [Option.bind_some] at ee
      first | refine bnd2 ee fun ds s2 e3 ee => ?_ | refine mpp2 ee fun ds s2 e3 ee => ?_
      try simp only [Option.bind_some] at ee
      obtain ⟨k,hk,mc⟩:=ht c g e2
      obtain ⟨C,f,fd,ps,kC,cl,me,G,hb⟩:=mc
      refine pe_meth (pl:=pl) (E:=E0) (ho Z A) cl me G (hr.mono hk) hb .nil pass0 (ha Z A) hst hpl hev pins s σ H Q I ⟨B,ow,δ,st,_,s1,R,S,e1,fun v H1 x1 S1 r => ?_⟩
      obtain ⟨p,C',dxx,ns,vs,fds,rfl,kC',h,rs,efs⟩:=r.w.object
      rw [kC] at kC'
      cases kC'
      have hnone:lookF m ((ns.map PyData.str).zip fds) = none:=by rw [← efs]; simpa using hno
      refine ⟨p,dxx,_,rfl,h,rs.nofield hnone,⟨B,ow,δ,s1,ds,s2,R.mono x1,S1,e3,fun us H2 x2 S2 rus => ?_⟩⟩
      show spD X.K g (V.ref p :: (us ++ [])) H2 Q E0
      rw [List.append_nil]
      refine ⟨Z,A ++ ow.map (·.2),_ :: ds,s2,d,st',.cons (r.ext x2) rus,fun q hq => ?_,S2,ee,fun v H' a b c => q v H' ((x1.trans x2).trans a) b c⟩
      refine ⟨(R.mono (x1.trans x2)).all q hq,?_⟩
      rcases List.mem_append.mp hq with h | h
      · exact (R.ok q h).2
      · obtain ⟨⟨i,p⟩,hp,rfl⟩:=List.mem_map.mp h
        exact (R.ows i p hp).2.2.1
    · cases ee
  · cases ee⟩
noncomputable def spI (K:PySem.W.Frag) (C:Addr) (ns:List Str) (gI:List D→Option (List D)):Sp:=fun vs H Q _ => ∃ Z A p dx ws ds fds,vs = .ref p :: ws∧H p = some (.ins C dx [])∧NotZ Z p∧Reps K Z H (p :: A) ws ds∧gI ds = some fds ∧
  ∀ fvs H',(∀ b o,H b = some o→b ≠ p→H' b = some o)→H' p = some (.ins C dx (ns.zip fvs))→Reps K Z H' (p :: A) fvs fds→Q .non H'
inductive KCal (P:Program) (w:World) (K:PySem.W.Frag) (mg:Str→Option Value) (base:Heap) (c:Str) (k:Nat) (ns:List Str) (gI:List D→Option (List D)):Prop
  | mk (C:Addr) (f:Addr) (fd:FuncData) (ps:List Str) (h0:PySem.W.nsIn K mainGlobals c = some (some (.ref C))) (h1:mg c = some (.ref C)) (h2:Mk K C f) (h3:FnOk P w K mg base CX0 k f fd ps (spI K C ns gI)) (h4:Binds K fd ps [])
noncomputable def fMake (c:Str) (ns:List Str) (gI:List D→Option (List D)) (FL:FA):FE:=fun δ s => (FL δ s).bind fun p => (gI p.1).map fun fds => (.dict ((.str "",.str c) :: (ns.map PyData.str).zip fds),p.2)
theorem read_make {C:Addr} {c:Str} {ns:List Str} {gI:List D→Option (List D)} {Z:Zt} {A:List Addr} {σ:L2.St} {H:Hp} {Q:VK} {E:XK} {FL:FA} (kC:PySem.W.nsIn X.K mainGlobals c = some (some (.ref C))) (h:tD X Z A (fMake c ns gI FL) σ H Q):tMake C (spI X.K C ns gI) [] E (tDA X Z A FL) σ H Q:=by
  obtain ⟨B,ow,δ,s,d,s',R,S,ee,q⟩:=h
  unfold fMake at ee
  first | refine bnd2 ee fun ds s1 e1 ee => ?_ | refine mpp2 ee fun ds s1 e1 ee => ?_
  replace ee:((gI ds).map fun fds => (PyData.dict ((.str "",.str c) :: (ns.map PyData.str).zip fds),s1)) = some (d,s'):=ee
  first | refine bnd1 ee fun fds e2 ee => ?_ | refine mpp1 ee fun fds e2 ee => ?_
  cases ee
  refine ⟨B,ow,δ,s,ds,_,R,S,e1,fun vs H1 x1 S1 rs => fun x dx nx ndx nex => ?_⟩
  rw [List.append_nil]
  have keep:∀ b o,H1 b = some o→(upd (upd H1 dx (.own x)) x (.ins C dx [])) b = some o:=fun b o e => by rw [upd_ne (ne_of_none e nx),upd_ne (ne_of_none e ndx)]; exact e
  have rs2:Reps X.K Z (upd (upd H1 dx (.own x)) x (.ins C dx [])) (x :: (A ++ ow.map (·.2))) vs ds:=((rs.fresh (o:=.own x) ndx).fresh (o:=.ins C dx []) (by rw [upd_ne (Ne.symm nex)]; exact nx)).sub fun q hq => by
    rcases List.mem_cons.mp hq with h | h
    · rw [h]; exact List.mem_cons_self
    · exact List.mem_cons_of_mem _ (List.mem_cons_of_mem _ h)
  refine ⟨Z,A ++ ow.map (·.2),x,dx,vs,ds,fds,rfl,upd_same,S1.notZ nx,rs2,e2,fun fvs H' hk hp rf => ⟨rfl,?_⟩⟩
  have xx:Ext Z H1 H':=fun b o e _ => hk b o (keep b o e) (ne_of_none e nx)
  exact q _ H' (x1.trans xx) (fun a c e => ⟨hk _ _ (keep _ _ (S1 a c e).1) (ne_of_none (S1 a c e).1 nx),hk _ _ (keep _ _ (S1 a c e).2) (ne_of_none (S1 a c e).2 nx)⟩) (.obj kC hp (fresh_not (R.mono x1).all nx) (S1.notZ nx) (rf.sub fun q hq => List.mem_cons_of_mem _ hq))
theorem de_make {c:Str} {k k':Nat} {ns:List Str} {gI:List D→Option (List D)} (K:KCal X.prog X.w X.K X.mg X.base c k ns gI) (hr:Room k' X.A) (ha:DA X (e :: es) FL) (hk:k + 1 ≤ k':=by decide) (hg:Gl X c:=by rfl) (hdb:(c == ("__debug__":Str)) = false:=by decide)
    (hst:starEach (e :: es) X.env = (false,eval e X.env) :: starEach es X.env:=by rfl) (hpl:(backTo pos (starEach es X.env)).any (·.1) = false:=by rfl):DE X (.Call (.Name c p) (e :: es) [] pos) (fMake c ns gI FL):=by
  obtain ⟨C,f,fd,ps,kC,hm,M,G,hb⟩:=K
  exact ⟨fun Z A => PE.imp (pe_make (E:=E0) M G (hr.mono hk) hg hm hb .nil pass0 (ha Z A) hdb hst hpl) fun σ H Q q => read_make kC q⟩
end
end L3

namespace L3
open PySem L2 PySem.Spec PyProof.Rows
section
variable {X:Cx} {e:Expr} {F:FE} {p pos:Pos}
noncomputable def enumD (xs:List D):List D:=xs.zipIdx.map fun z => .tuple [.int (z.2:Int),z.1]
noncomputable def iEnumF (F:FE):FI:=fun δ s => (F δ s).bind fun p => (seqOf p.1).map fun xs => (enumD xs,p.2)
theorem di_enum {elts:List Expr} {c:Nat} {tp:Pos} (hm:X.mg "enumerate" = none) (ha:DE X e F) (hg:Gl X "enumerate":=by rfl) (hs:starEach [e] X.env = [(false,eval e X.env)]:=by rfl) :
    DI X (.Tuple elts c tp) (.Call (.Name "enumerate" p) [e] [] pos) (iEnumF F) :=
  ⟨fun Z A => PI.imp (pi_enum hg hm (pa_cons (ha Z A) pa_nil (by rw [hs]; rfl)) hs) fun σ H R x__160 => by
    obtain ⟨B,ow,δ,s,ds,s',RS,S,ee,q⟩:=x__160
    unfold iEnumF at ee
    first | refine bnd2 ee fun d s1 e1 ee => ?_ | refine mpp2 ee fun d s1 e1 ee => ?_
    replace ee:((seqOf d).map fun xs => (enumD xs,s1)) = some (ds,s'):=ee
    first | refine bnd1 ee fun xs e3 ee => ?_ | refine mpp1 ee fun xs e3 ee => ?_
    cases ee
    refine ⟨B,ow,δ,s,d,s',RS,S,e1,fun v H1 x1 S1 r => ?_⟩
    obtain ⟨k1,a1,vs1,rfl,sq1,rs1,st1⟩:=rep_sq r e3
    refine ⟨k1,a1,vs1,rfl,sq1,q _ H1 x1 S1 ?_⟩
    intro ow' H' st f S' hA i
    have g1:=st1 ow' H' f
    refine ⟨fun dd hd => ?_,fun hi => ⟨vs1,g1,?_⟩⟩
    · unfold enumD at hd
      rw [List.getElem?_map,List.getElem?_zipIdx] at hd
      cases e5:xs[i]? with
      | none => rw [e5] at hd; cases hd
      | some z =>
        rw [e5] at hd
        cases hd
        obtain ⟨u1,h1,q1⟩:=(rs1.frm f).get e5
        refine ⟨⟨vs1,u1,g1,h1⟩,fun x H3 x__161 => ?_⟩
        obtain ⟨p,y1,ex,hp,eH,f1⟩:=x__161
        have z1:=f1 vs1 g1
        rw [h1] at z1
        cases z1
        subst ex eH
        refine ⟨Ext.upd hp,S'.upd hp,.tup upd_same (fresh_not hA hp) (S'.notZ hp) (.cons ?_ (.cons (q1.ext (Ext.upd hp)) .nil))⟩
        simp only [Nat.zero_add]
        exact .int _
    · rw [rs1.length]
      unfold enumD at hi
      rw [List.length_map,List.length_zipIdx] at hi
      exact hi⟩
end
end L3

namespace L3
open PySem L2 PySem.Spec PyProof.Rows
section
variable {X:Cx} {tg e:Expr} {F:FE} {p pos p2 pos2:Pos}
noncomputable def rngDn (n:Nat):List D:=(List.range n).map fun (k:Nat) => .int (0 + (n:Int) - 1 - (k:Int))
noncomputable def iRevRange (F:FE):FI:=fun δ s => (F δ s).bind fun p => match p.1 with | .int j => if rOk j = true then some (rngDn j.toNat,p.2) else none | _ => none
theorem src_dn {K:PySem.W.Frag} {Z:Zt} {A:List Addr} {ow:Ow} {H:Hp} (n:Nat):Src K Z A ow (Itd 0 n) (rngDn n) H:=fun ow' H' st f S hA i => by
  refine ⟨fun d hd => ?_,fun hi => (show n ≤ i by simpa [rngDn] using hi)⟩
  unfold rngDn at hd
  rw [List.getElem?_map] at hd
  first | refine bnd1 hd fun k e hd => ?_ | refine mpp1 hd fun k e hd => ?_
  cases hd
  have h1:=(List.getElem?_eq_some_iff.mp e).1
  rw [List.length_range] at h1
  rw [List.getElem?_range h1] at e
  cases e
  exact ⟨h1,fun x H3 x__162 => by obtain ⟨e1,e2⟩:=x__162; subst e1 e2; exact ⟨Ext.refl _,S,.int _⟩⟩
theorem di_revr (hm:X.mg "reversed" = none) (hm2:X.mg "range" = none) (ha:DE X e F) (hg:Gl X "reversed":=by rfl) (hg2:Gl X "range":=by rfl) (hs2:starEach [e] X.env = [(false,eval e X.env)]:=by rfl)
    (hs:starEach [.Call (.Name "range" p2) [e] [] pos2] X.env = (false,eval (.Call (.Name "range" p2) [e] [] pos2) X.env) :: starEach [] X.env:=by rfl):DI X tg (.Call (.Name "reversed" p) [.Call (.Name "range" p2) [e] [] pos2] [] pos) (iRevRange F) :=
  ⟨fun Z A => PI.imp (pi_revr hg hm hg2 hm2 (pa_cons (ha Z A) pa_nil hs2) hs2 hs) fun σ H R x__163 => by
    obtain ⟨B,ow,δ,s,ds,s',RS,S,ee,q⟩:=x__163
    unfold iRevRange at ee
    first | refine bnd2 ee fun d s1 e1 ee => ?_ | refine mpp2 ee fun d s1 e1 ee => ?_
    refine ⟨B,ow,δ,s,d,s1,RS,S,e1,fun v H1 x1 S1 r => ?_⟩
    cases r with
    | int j =>
      replace ee:(if rOk j = true then some (rngDn j.toNat,s1) else none) = some (ds,s'):=ee
      split at ee
      · rename_i hj
        cases ee
        unfold rOk at hj
        rw [Bool.and_eq_true] at hj
        exact ⟨j,rfl,of_decide_eq_true hj.1,of_decide_eq_true hj.2,q _ H1 x1 S1 (src_dn j.toNat)⟩
      · cases ee
    | _ => cases ee⟩
end
end L3

namespace L3
open PySem L2 PySem.Spec PyProof.Rows
section
variable {X:Cx} {e:Expr} {sts:List Stmt} {f x:Str} {p pos px ap:Pos}
noncomputable def SV (X:Cx) (e:Expr) (v:L2.St→Option V):Prop:=PE X e (fun σ H Q => ∃ y,v σ = some y∧Q y H)
theorem sv_int {i:Int} {j}:SV X (.Constant (.int i) j pos) (fun _ => some (.int i)):=PE.imp pe_int fun σ H Q x__164 => by obtain ⟨y,e,q⟩:=x__164; cases e; exact q
theorem sv_var {i:Nat} (h:PE X e (tVar i)):SV X e (fun σ => (σ[i]?).getD none):=PE.imp h fun σ H Q x__165 => by
  obtain ⟨y,e,q⟩:=x__165
  replace e:(σ[i]?).getD none = some y:=e
  cases e1:σ[i]? with
  | none => rw [e1] at e; cases e
  | some o =>
    rw [e1] at e
    cases o with
    | none => cases e
    | some y' => cases e; exact ⟨_,e1,q⟩
noncomputable def putAll (fs0:List (Str × V)):List Str→List V→List (Str × V)
  | n :: ns,v :: vs => putAll (putF n v fs0) ns vs
  | _,_ => fs0
noncomputable def vals? (σ:L2.St):List (L2.St→Option V)→Option (List V)
  | [] => some []
  | v :: r => (v σ).bind fun x => (vals? σ r).map fun xs => x :: xs
noncomputable def IS (X:Cx) (C:Addr) (sts:List Stmt) (ns:List Str) (vs:List (L2.St→Option V)):Prop:=PSs X sts (fun D σ H => ∃ p dx fs0 xs,σ[0]? = some (some (.ref p))∧H p = some (.ins C dx fs0)∧vals? σ vs = some xs∧fs0.length + ns.length ≤ 100 ∧
  ∀ H',(∀ b o,H b = some o→b ≠ p→H' b = some o)→H' p = some (.ins C dx (putAll fs0 ns xs))→D.nx σ H')
theorem is_nil {C:Addr}:IS X C [] [] []:=PSs.imp pss_nil fun D σ H x__166 => by
  obtain ⟨p,dx,fs0,xs,h1,h2,h3,h4,q⟩:=x__166
  cases h3
  exact q H (fun b o e _ => e) h2
theorem is_cons {C:Addr} {ns:List Str} {vs:List (L2.St→Option V)} {v:L2.St→Option V} (cl:Cls X.K C) (na:NoAttr X.K C f) (ho:PE X (.Name x px) (tVar 0)) (he:SV X e v) (hr:IS X C sts ns vs)
    (hs:swapsWith e (some (.Attribute (.Name x px) f ap)) pos.line X.env = pure false:=by rfl):IS X C (.Assign [.Attribute (.Name x px) f ap] e pos :: sts) (f :: ns) (v :: vs) :=
  PSs.imp (pss_cons (ps_fld ho he hs) hr) fun D σ H x__167 => by
    obtain ⟨p,dx,fs0,xs,h1,h2,h3,h4,q⟩:=x__167
    unfold vals? at h3
    first | refine bnd1 h3 fun y e1 h3 => ?_ | refine mpp1 h3 fun y e1 h3 => ?_
    try simp only [Option.bind_some] at h3
    first | refine bnd1 h3 fun ys e2 h3 => ?_ | refine mpp1 h3 fun ys e2 h3 => ?_
    cases h3
    rw [List.length_cons] at h4
    refine ⟨y,e1,_,h1,p,C,dx,fs0,rfl,h2,cl,na,by omega,?_⟩
    refine ⟨p,dx,putF f y fs0,ys,h1,upd_same,e2,?_,fun H' a b => q H' (fun b' o e hb => a b' o (by rw [upd_ne hb]; exact e) hb) b⟩
    have:=length_putF f y fs0
    omega
end
theorem Rep.past {K:PySem.W.Frag} {Z:Zt} {H H':Hp} {A:List Addr} {p:Addr} (hk:∀ b o,H b = some o→b ≠ p→H' b = some o) {v:V} {d:D} (r:Rep K Z H (p :: A) v d):Rep K Z H' (p :: A) v d:=r.move fun b o h n z => ⟨hk b o h fun e => n (by rw [e]; exact List.mem_cons_self),n⟩
theorem Reps.past {K:PySem.W.Frag} {Z:Zt} {H H':Hp} {A:List Addr} {p:Addr} (hk:∀ b o,H b = some o→b ≠ p→H' b = some o) {vs:List V} {ds:List D} (r:Reps K Z H (p :: A) vs ds):Reps K Z H' (p :: A) vs ds:=r.move fun b o h n z => ⟨hk b o h fun e => n (by rw [e]; exact List.mem_cons_self),n⟩
section
variable {P:Program} {w:World} {K:PySem.W.Frag} {mg:Str→Option Value} {base:Heap}
theorem initOk {c q:Str} {st:Stmt} {ps ns:List Str} {C f:Addr} {fd:FuncData} {vs:List (L2.St→Option V)} {gI:List D→Option (List D)} (kC:PySem.W.nsIn K mainGlobals c = some (some (.ref C))) (hm:mg c = some (.ref C)) (M:Mk K C f) (F:Fun K "__init__" q st f fd) (S:FnScope ps ps (defScope st)) (hb:Binds K fd ps [])
    (hns:ns.length ≤ 100) (hnd:∀ xs:List V,xs.length = ns.length→putAll [] ns xs = ns.zip xs)
    (hlen:∀ ds fds,gI ds = some fds→ds.length + 1 = ps.length)
    (hbody:∀ (cdv:Value) (A:Around) (outer:List Env) (s:Shared) (H:Hp) (E:XK),IS (cxOf CX0 P w K mg base ps q (defScope st) f cdv A outer s H E).nox C (defBody st) ns vs)
    (hv:∀ Z H A p ws ds fds,Reps K Z H A ws ds→gI ds = some fds→∃ xs,vals? (some (.ref p) :: ws.map some) vs = some xs∧xs.length = ns.length∧Reps K Z H A xs fds):KCal P w K mg base c 1 ns gI:=by
  refine ⟨C,f,fd,ps,kC,hm,M,F.ok S (fun vs H Q E h => ?_) (fun cdv A outer s H us Q E hr h => ?_),hb⟩
  · obtain ⟨Z,A,p,dx,ws,ds,fds,rfl,_,_,rs,e,_⟩:=h
    rw [List.length_cons,rs.length]
    exact hlen ds fds e
  · obtain ⟨Z,A0,p,dx,ws,ds,fds,rfl,hp,nz,rs,e,q⟩:=h
    obtain ⟨xs,h1,h2,h3⟩:=hv Z H (p :: A0) p ws ds fds rs e
    refine ⟨_,hbody cdv A outer s H E,?_⟩
    have hst:L2.start ps (.ref p :: ws) = some (.ref p) :: ws.map some:=by
      unfold L2.start
      rw [show ps.length - (V.ref p :: ws).length = 0 by rw [List.length_cons,rs.length,hlen ds fds e,Nat.sub_self]]
      simp
    rw [hst]
    refine ⟨p,dx,[],xs,rfl,hp,h1,by simpa using hns,fun H' a b => ?_⟩
    rw [hnd xs h2] at b
    exact q xs H' a b (h3.past a)
end
end L3
namespace L3
theorem tab_nil {Pm:PySem.Str→GF→Prop}:∀ c g,([]:List (PySem.Str × GF)).lookup c = some g→Pm c g:=fun _ _ h => nomatch h
theorem tab_cons {Pm:PySem.Str→GF→Prop} {n:PySem.Str} {g1:GF} {l:List (PySem.Str × GF)} (h:Pm n g1) (ht:∀ c g,l.lookup c = some g→Pm c g):∀ c g,((n,g1) :: l).lookup c = some g→Pm c g:=fun c g e => by
  rw [List.lookup_cons] at e
  split at e
  · rename_i hb
    cases e
    rw [eq_of_beq hb]
    exact h
  · exact ht c g e
end L3

namespace L3
open PySem L2 PySem.Spec PyProof.Rows
noncomputable def enc (r:Rat):D:=.tuple [.int r.num,.int (r.den:Int)]
theorem den_int (r:Rat):((r.den:Nat):Int) ≠ 0:=by have:=r.den_nz; omega
noncomputable def Sz (n:Nat) (r:Rat):Prop:=Bt n r.num∧Bt n (r.den:Int)
theorem Sz.mono {n m:Nat} {r:Rat} (h:Sz n r) (hm:n ≤ m):Sz m r:=⟨h.1.mono hm,h.2.mono hm⟩
theorem Sz.num {n:Nat} {r:Rat} (h:Sz n r):Num n (enc r) r.num r.den:=⟨rfl,by have:=r.den_nz; omega,r.reduced,h.1,h.2⟩
theorem IsN.enc {n:Nat} {d:D} (h:IsN n d):∃ r,d = L3.enc r∧Sz n r:=by
  obtain ⟨p,q,rfl,hq,hg,b1,b2⟩:=h
  have hqn:((q.toNat:Nat):Int) = q:=by omega
  refine ⟨⟨p,q.toNat,by omega,?_⟩,?_,?_⟩
  · have:q.toNat = q.natAbs:=by omega
    rw [this]; exact hg
  · show _ = PyData.tuple [.int p,.int ((q.toNat:Nat):Int)]
    rw [hqn]
  · exact ⟨b1,by show Bt n ((q.toNat:Nat):Int); rw [hqn]; exact b2⟩
noncomputable def Fit (M B:Nat) (r:Rat):Prop:=∃ z:Int,r * (M:Rat) = (z:Rat)∧z.natAbs ≤ B
theorem Fit.mono {M B B':Nat} {r:Rat} (h:Fit M B r) (hb:B ≤ B'):Fit M B' r:=by obtain ⟨z,e,l⟩:=h; exact ⟨z,e,Nat.le_trans l hb⟩
theorem Fit.zero (M B:Nat):Fit M B 0:=⟨0,by grind,Nat.zero_le _⟩
theorem Fit.add {M B B':Nat} {a b:Rat} (h:Fit M B a) (h':Fit M B' b):Fit M (B + B') (a + b):=by
  obtain ⟨z,e,l⟩:=h
  obtain ⟨y,e',l'⟩:=h'
  refine ⟨z + y,by rw [Rat.intCast_add]; grind,?_⟩
  have:=Int.natAbs_add_le z y
  omega
theorem Fit.neg {M B:Nat} {a:Rat} (h:Fit M B a):Fit M B (-a):=by
  obtain ⟨z,e,l⟩:=h
  exact ⟨-z,by rw [Rat.intCast_neg]; grind,by omega⟩
theorem Fit.sub {M B B':Nat} {a b:Rat} (h:Fit M B a) (h':Fit M B' b):Fit M (B + B') (a - b):=by
  rw [Rat.sub_eq_add_neg]; exact h.add h'.neg
theorem Fit.mul {M B M' B':Nat} {a b:Rat} (h:Fit M B a) (h':Fit M' B' b):Fit (M * M') (B * B') (a * b):=by
  obtain ⟨z,e,l⟩:=h
  obtain ⟨y,e',l'⟩:=h'
  refine ⟨z * y,by rw [Rat.intCast_mul,Rat.natCast_mul]; grind,?_⟩
  rw [Int.natAbs_mul]
  exact Nat.mul_le_mul l l'
theorem mul_den (r:Rat):r * (r.den:Rat) = (r.num:Rat):=by
  have h:(r.den:Rat) ≠ 0:=fun z => r.den_nz (Rat.natCast_eq_zero_iff.mp z)
  have e:r = (r.num:Rat) / (r.den:Rat):=by
    conv => lhs; rw [← Rat.num_divInt_den r,Rat.divInt_eq_div]
    rfl
  generalize (r.den:Rat) = d at *
  generalize (r.num:Rat) = n at *
  grind
theorem Fit.self (r:Rat):Fit r.den r.num.natAbs r:=⟨r.num,mul_den r,Nat.le_refl _⟩
theorem Fit.size {M B:Nat} {r:Rat} (h:Fit M B r) (hM:0 < M):r.den ≤ M∧r.num.natAbs ≤ B:=by
  obtain ⟨z,e,l⟩:=h
  have h1:r.num * (M:Int) = z * (r.den:Int):=by
    apply Rat.intCast_inj.mp
    rw [Rat.intCast_mul,Rat.intCast_mul,Rat.intCast_natCast,Rat.intCast_natCast,← mul_den r,← e]
    grind
  have hd:(r.den:Int) ∣ (M:Int):=dvd_of_cop (b:=r.num) ⟨z,by rw [h1,Int.mul_comm]⟩ (by rw [Int.gcd_comm]; exact r.reduced)
  have hdn:r.den ∣ M:=Int.ofNat_dvd.mp hd
  refine ⟨Nat.le_of_dvd hM hdn,Nat.le_trans ?_ l⟩
  obtain ⟨m,hm⟩:=hdn
  have hm0:0 < m:=by
    rcases Nat.eq_zero_or_pos m with z0 | z0
    · rw [z0,Nat.mul_zero] at hm; omega
    · exact z0
  have h2:r.num * (m:Int) = z:=by
    rw [hm,Int.natCast_mul] at h1
    have:(r.den:Int) * (r.num * (m:Int)) = (r.den:Int) * z:=by rw [Int.mul_left_comm,h1,Int.mul_comm]
    exact Int.eq_of_mul_eq_mul_left (den_int r) this
  rw [← h2,Int.natAbs_mul]
  exact Nat.le_mul_of_pos_right _ (by omega)
theorem Fit.sz {M B n:Nat} {r:Rat} (h:Fit M B r) (hM:0 < M) (h1:M < 2 ^ n) (h2:B < 2 ^ n):Sz n r:=by
  obtain ⟨a,b⟩:=h.size hM
  exact ⟨Nat.lt_of_le_of_lt b h2,Nat.lt_of_le_of_lt (by show (r.den:Int).natAbs ≤ M; omega) h1⟩
end L3

namespace L3
open PySem L2 PySem.Spec PyProof.Rows
noncomputable def co (l:List Rat) (i:Nat):Rat:=l.getD i 0
noncomputable def sh (i:Nat) (g:Nat→Rat) (k:Nat):Rat:=if i ≤ k then g (k - i) else 0
noncomputable def cv:Nat→(Nat→Rat)→(Nat→Rat)→Nat→Rat
  | 0,_,_,_ => 0
  | N + 1,q,g,k => cv N q g k + q N * sh N g k
theorem co_out {l:List Rat} {i:Nat} (h:l.length ≤ i):co l i = 0:=by
  unfold co; rw [List.getD_eq_getElem?_getD,List.getElem?_eq_none h]; rfl
theorem co_ext {l m:List Rat} (hl:l.length = m.length) (h:∀ i,co l i = co m i):l = m:=by
  refine List.ext_getElem hl fun i h1 h2 => ?_
  have:=h i
  unfold co at this
  rw [List.getD_eq_getElem?_getD,List.getD_eq_getElem?_getD,List.getElem?_eq_getElem h1,List.getElem?_eq_getElem h2] at this
  exact this
noncomputable def Trim (l:List Rat):Prop:=0 < l.length→co l (l.length - 1) ≠ 0
theorem Trim.ext {l m:List Rat} (hl:Trim l) (hm:Trim m) (h:∀ i,co l i = co m i):l = m:=by
  refine co_ext ?_ h
  rcases Nat.lt_trichotomy l.length m.length with z | z | z
  · exact absurd (by rw [← h]; exact co_out (by omega)) (hm (by omega))
  · exact z
  · exact absurd (by rw [h]; exact co_out (by omega)) (hl (by omega))
end L3

namespace L3
open PySem L2 PySem.Spec PyProof.Rows
theorem forD_off {T:Tgt} {G:GS} (I:Nat→Sl→Sx→Prop):∀ (ds:List D) (o:Nat) (δ:Sl) (s:Sx),I o δ s →
    (∀ j d δ s,ds[j]? = some d→I (o + j) δ s→∃ δ1 δ' s',T.run d δ = some δ1∧G δ1 s = some (.next δ',s')∧I (o + j + 1) δ' s')→∃ δ' s',forD T G ds δ s = some (.next δ',s')∧I (o + ds.length) δ' s'
  | [],o,δ,s,h,_ => ⟨δ,s,rfl,h⟩
  | d :: ds,o,δ,s,h,step => by
    obtain ⟨δ1,δ2,s2,e1,e2,h2⟩:=step 0 d δ s rfl h
    obtain ⟨δ3,s3,e3,h3⟩:=forD_off I ds (o + 1) δ2 s2 h2 fun j d' δ s hd hi => by
      obtain ⟨a,b,c,x,y,z⟩:=step (j + 1) d' δ s (by simpa using hd) (by rw [show o + (j + 1) = o + 1 + j by omega]; exact hi)
      exact ⟨a,b,c,x,y,by rw [show o + 1 + j + 1 = o + (j + 1) + 1 by omega]; exact z⟩
    refine ⟨δ3,s3,?_,by rw [List.length_cons,show o + (ds.length + 1) = o + 1 + ds.length by omega]; exact h3⟩
    show ((T.run d δ).bind fun δ1 => _) = _
    rw [e1]
    show (match G δ1 s with | some (.next δ',s') => forD T G ds δ' s' | some (.cnt δ',s') => forD T G ds δ' s' | some (.brk δ',s') => some (.next δ',s') | some (.ret r,s') => some (.ret r,s') | some (.own r,s') => some (.own r,s') | none => none) = _
    rw [e2]
    exact e3
theorem forD_at {T:Tgt} {G:GS} (I:Nat→Sl→Sx→Prop) (ds:List D) (δ:Sl) (s:Sx) (h:I 0 δ s)
    (step:∀ j d δ s,ds[j]? = some d→I j δ s→∃ δ1 δ' s',T.run d δ = some δ1∧G δ1 s = some (.next δ',s')∧I (j + 1) δ' s'):∃ δ' s',forD T G ds δ s = some (.next δ',s')∧I ds.length δ' s':=by
  obtain ⟨a,b,e,i⟩:=forD_off I ds 0 δ s h fun j d δ s hd hi => by
    rw [Nat.zero_add] at hi ⊢
    exact step j d δ s hd hi
  rw [Nat.zero_add] at i
  exact ⟨a,b,e,i⟩
theorem enumD_get {xs:List D} {j:Nat} {d:D} (h:(enumD xs)[j]? = some d):∃ x,xs[j]? = some x∧d = .tuple [.int (j:Int),x]:=by
  unfold enumD at h
  rw [List.getElem?_map,List.getElem?_zipIdx] at h
  cases e:xs[j]? with
  | none => rw [e] at h; simp at h
  | some x => rw [e] at h; simp at h; exact ⟨x,rfl,h.symm⟩
theorem enumD_len (xs:List D):(enumD xs).length = xs.length:=by simp [enumD]
theorem rngDn_get {n j:Nat} {d:D} (h:(rngDn n)[j]? = some d):j < n∧d = .int ((n - 1 - j:Nat):Int):=by
  unfold rngDn at h
  rw [List.getElem?_map] at h
  by_cases hj:j < n
  · rw [List.getElem?_range hj] at h
    simp only [Option.map_some,Option.some.injEq] at h
    refine ⟨hj,?_⟩
    rw [← h]
    congr 1
    omega
  · rw [List.getElem?_eq_none (by simpa using hj)] at h; simp at h
theorem rngDn_len (n:Nat):(rngDn n).length = n:=by simp [rngDn]
theorem ix_seq {d:D} {xs:List D} (h:seqOf d = some xs) (i:Int):gIx d (.int i) = L2.atI xs i:=by
  cases d with
  | list ys => cases h; rfl
  | tuple ys => cases h; rfl
  | _ => cases h
theorem len_seq {d:D} {xs:List D} (h:seqOf d = some xs):gLen d = some (.int xs.length):=by
  cases d with
  | list ys => cases h; rfl
  | tuple ys => cases h; rfl
  | _ => cases h
theorem aCons_run {F:FE} {FL:FA} {δ:Sl} {s s1 s2:Sx} {d:D} {ds:List D} (h:F δ s = some (d,s1)) (h':FL δ s1 = some (ds,s2)):aCons F FL δ s = some (d :: ds,s2):=by
  unfold aCons; rw [h]; simp only [Option.bind_some,h',Option.map_some]
theorem f2_run {g:G2} {Fa Fb:FE} {δ:Sl} {s s1 s2:Sx} {a b d:D} (h:Fa δ s = some (a,s1)) (h':Fb δ s1 = some (b,s2)) (e:g a b = some d):f2 g Fa Fb δ s = some (d,s2):=by
  unfold f2; rw [h]; simp only [Option.bind_some,h',Option.map_some,e]
theorem f1_run {g:G1} {Fa:FE} {δ:Sl} {s s1:Sx} {a d:D} (h:Fa δ s = some (a,s1)) (e:g a = some d):f1 g Fa δ s = some (d,s1):=by
  unfold f1; rw [h]; simp only [Option.bind_some,Option.map_some,e]
theorem sPut_run {i:Nat} {Fi F:FE} {δ:Sl} {s s1 s2:Sx} {v k:D} {xs ys:List D} (h:F δ s = some (v,s1)) (h':Fi δ s1 = some (k,s2)) (hi:δ[i]? = some (.own xs)) (e:putAt xs k v = some ys):sPut i Fi F δ s = some (.next (δ.set i (.own ys)),s2):=by
  unfold sPut; rw [h]; simp only [Option.bind_some,h',hi,e,Option.map_some]
theorem sSet_run {i:Nat} {F:FE} {δ:Sl} {s s1:Sx} {v:D} (h:F δ s = some (v,s1)):sSet i F δ s = some (.next (δ.set i (.val v)),s1):=by
  unfold sSet; rw [h]; rfl
theorem add_int (a b:Nat):gAdd (.int (a:Int)) (.int (b:Int)) = some (.int ((a + b:Nat):Int)):=by
  simp [gAdd,gAddI,gI]
end L3

namespace L3
open PySem L2 PySem.Spec PyProof.Rows
noncomputable def gAny:G1:=fun d => match d with | .list xs => (bools xs).map fun ks => .bool (ks.any (fun b => b)) | _ => none
theorem range_any (ks:List Bool):(List.range ks.length).any (fun i => ks.getD i false) = ks.any (fun b => b):=by
  induction ks with
  | nil => rfl
  | cons k r ih =>
    rw [List.length_cons,List.range_succ_eq_map,List.any_cons,List.any_map,List.any_cons,← ih]
    congr 1
section
variable {X:Cx}
theorem dc_any (hc:X.calm = true):CallR X (.builtin "any") (rD1 X.K gAny):=fun pins s σ H xs us Q I rv x__168 => by
  obtain ⟨Z,A,st,x,dx,d,e0,S,hA,rx,e,q⟩:=x__168
  subst e0
  obtain ⟨u,rfl,ru⟩:=vals1 rv
  cases dx with
  | list ds =>
    replace e:((bools ds).map fun ks => PyData.bool (ks.any (fun b => b))) = some d:=e
    first | refine bnd1 e fun ks e1 e => ?_ | refine mpp1 e fun ks e1 e => ?_
    cases e
    have eds:=bools_get e1
    subst eds
    obtain ⟨p,vs,ev,sq,_,rs⟩:=rx.list
    subst ev
    cases (show u = Value.ref p from ru)
    obtain ⟨its,r2,pl,_⟩:=I.list sq
    have hl:=pl.isList
    have lens:its.length = ks.length:=by rw [← r2.length,rs.length,List.length_map]
    refine call_any_walk (wpAny_pyIter_list hl ?_)
    have lt:LT.lt (α:=Nat) p s.heap.objs.size:=by obtain ⟨_,e,_⟩:=hl; exact Heap.lt_size e
    refine ⟨_,_,_,_,_,_,fun i => ks.getD i false,rfl,Walks.list (A:=X.A.in1) (show X.A.in1.handled = none from I.ok.hd hc) s.heap.objs.size p (Nat.ne_of_lt lt) its.toArray,⟨⟨_,Heap.get?_push_size _ rfl,rfl,rfl⟩,hl.push _⟩,?_,fun h' tk kp => ?_⟩
    · intro i v s' Q' E' hP hQ
      have hi:its[i]? = some v:=by simpa using hP
      obtain ⟨vv,h1,h2⟩:∃ vv,vs[i]? = some vv∧RelV vv v:=by
        cases e3:vs[i]? with
        | none => rw [r2.none_of e3] at hi; cases hi
        | some vv => obtain ⟨u',h3,h4⟩:=r2.get e3; rw [h3] at hi; cases hi; exact ⟨vv,rfl,h4⟩
      obtain ⟨dd,h3,h4⟩:=rs.at h1
      rw [List.getElem?_map] at h3
      cases e4:ks[i]? with
      | none => rw [e4] at h3; cases h3
      | some k =>
        rw [e4] at h3
        cases h3
        cases h4
        cases h2
        refine wpAny_truthy_bool ?_
        have eg:ks.getD i false = k:=by simp [e4]
        have hQ2:Q' (ks.getD i false) s':=hQ
        rw [eg] at hQ2
        exact hQ2
    · have e5:(List.range its.toArray.size).any (fun i => ks.getD i false) = ks.any (fun b => b):=by rw [List.size_toArray,lens]; exact range_any ks
      rw [e5]
      refine ⟨.bl _,H,?_,rfl,q _ H (Ext.refl H) S (.bl _)⟩
      refine I.kept (h':=h') (t':=tk) fun b o eb => kp b o ?_ (Heap.get?_push_of_some _ eb)
      intro z
      have z':b = s.heap.objs.size:=by simpa using z
      rw [z'] at eb
      exact Nat.lt_irrefl _ (Heap.lt_size eb)
  | _ => cases e
end
end L3

namespace L3
open PySem L2 PySem.Spec PyProof.Rows
noncomputable abbrev GC:=List D→Sx→Option (Ce × Sx)
noncomputable abbrev FC:=Sl→Sx→Option (Ce × Sx)
noncomputable def AftC (K:PySem.W.Frag) (Z:Zt) (A:List Addr) (H:Hp) (s':Sx) (Q:VK):Ce→Prop
  | .val d => ∀ v H',Ext Z H H'→StateAt Z H' s'→Rep K Z H' A v d→Q v H'
  | .own xs => ∀ p vs H',Ext Z H H'→StateAt Z H' s'→H p = none→H' p = some (.lst vs)→Reps K Z H' (p :: A) vs xs→Q (.ref p) H'
  | .non => False
inductive spC (K:PySem.W.Frag) (g:GC) (vs:List V) (H:Hp) (Q:VK) (_E:XK):Prop
  | mk (Z:Zt) (A:List Addr) (ds:List D) (s:Sx) (c:Ce) (s':Sx) (h0:Reps K Z H A vs ds) (h1:(∀ q ∈ A,(∃ o,H q = some o)∧NotZ Z q)) (h2:StateAt Z H s) (h3:g ds s = some (c,s')) (h4:AftC K Z A H s' Q c)
inductive CalC (P:Program) (w:World) (K:PySem.W.Frag) (mg:Str→Option Value) (base:Heap) (x:Str) (ps:List Str) (k:Nat) (g:GC):Prop
  | mk (f:Addr) (fd:FuncData) (h0:FnOk P w K mg base CX0 k f fd ps (spC K g)) (h1:mg x = some (.ref f)) (h2:PySem.W.keepIn K (.ref f) = true) (h3:Binds K fd ps [])
section
variable {X:Cx} {st:Stmt} {e:Expr} {es:List Expr} {F:FE} {Fo:FO} {Fc:FC} {FL:FA} {x y:Str} {i:Nat} {p pos pos':Pos}
inductive tDCK (K:PySem.W.Frag) (Z:Zt) (A:List Addr) (F:FC) (σ:L2.St) (H:Hp) (Q:VK):Prop
  | mk (B:Hp) (ow:Ow) (δ:Sl) (s:Sx) (c:Ce) (s':Sx) (h0:RepS K B Z A ow σ δ H) (h1:StateAt Z H s) (h2:F δ s = some (c,s')) (h3:AftC K Z (A ++ ow.map (·.2)) H s' Q c)
noncomputable abbrev tDC (X:Cx) (Z:Zt) (A:List Addr) (F:FC):TE:=tDCK X.K Z A F
structure DC (X:Cx) (e:Expr) (F:FC):Prop where
  go:∀ Z A,PE X e (tDC X Z A F)
noncomputable def cOwn (Fo:FO):FC:=fun δ s => (Fo δ s).map fun p => (.own p.1,p.2)
theorem DF.c (h:DF X e Fo):DC X e (cOwn Fo):=⟨fun Z A => PE.imp (h.go Z A) fun σ H Q h => by
  obtain ⟨B,ow,δ,s,c,s',R,S,ee,q⟩:=h
  unfold cOwn at ee
  first | refine bnd1 ee fun p e1 ee => ?_ | refine mpp1 ee fun p e1 ee => ?_
  cases ee
  exact ⟨B,ow,δ,s,p.1,p.2,R,S,e1,q⟩⟩
noncomputable def cVal (F:FE):FC:=fun δ s => (F δ s).map fun p => (.val p.1,p.2)
theorem DE.c (h:DE X e F):DC X e (cVal F):=⟨fun Z A => PE.imp (h.go Z A) fun σ H Q h => by
  obtain ⟨B,ow,δ,s,c,s',R,S,ee,q⟩:=h
  unfold cVal at ee
  first | refine bnd1 ee fun p e1 ee => ?_ | refine mpp1 ee fun p e1 ee => ?_
  cases ee
  exact ⟨B,ow,δ,s,p.1,p.2,R,S,e1,q⟩⟩
end
end L3

namespace L3
open PySem L2 PySem.Spec PyProof.Rows
theorem Reps.reverse {K:PySem.W.Frag} {Z:Zt} {H:Hp} {A:List Addr}:∀ {vs:List V} {ds:List D},Reps K Z H A vs ds→Reps K Z H A vs.reverse ds.reverse
  | _,_,.nil => .nil
  | _,_,.cons r t => by rw [List.reverse_cons,List.reverse_cons]; exact (Reps.reverse t).append (.cons r .nil)
section
variable {X:Cx} {e e2:Expr} {Fa Fb:FE} {st:Stmt} {p p2 pos pos2:Pos}
theorem ds_void:DS X st (fun _ _ => none):=⟨fun Z A pins s σ H D I h => by
  obtain ⟨ow,δ,s,o,s',R,S,e,q⟩:=h
  cases e⟩
noncomputable def sPar3 (i j k:Nat) (FL:FA):GS:=fun δ s => (FL δ s).bind fun p => match p.1 with | [x,y,z] => some (.next (((δ.set i (.val x)).set j (.val y)).set k (.val z)),p.2) | _ => none
theorem ds_par3 {i j k:Nat} {x y z:Str} {a b c:Expr} {FL:FA} {px py pz pt:Pos} {kt k2 pt2} (hN:X.N.Nodup) (hij:i ≠ j) (hik:i ≠ k) (hjk:j ≠ k) (ha:DA X [a,b,c] FL) (hw:swappedStores [.Tuple [.Name x px,.Name y py,.Name z pz] kt pt] (.Tuple [a,b,c] k2 pt2) X.env = pure (some [x,y,z]))
    (hi:X.N[i]? = some x:=by rfl) (hj:X.N[j]? = some y:=by rfl) (hk:X.N[k]? = some z:=by rfl) (hx:X.env.scope.names.lookup x = some .local:=by rfl) (hy:X.env.scope.names.lookup y = some .local:=by rfl) (hz:X.env.scope.names.lookup z = some .local:=by rfl) (hc:X.calm = true:=by rfl)
    (hs:swapsWithSole [.Tuple [.Name x px,.Name y py,.Name z pz] kt pt] (.Tuple [a,b,c] k2 pt2) pos.line X.env = pure false:=by rfl):DS X (.Assign [.Tuple [.Name x px,.Name y py,.Name z pz] kt pt] (.Tuple [a,b,c] k2 pt2) pos) (sPar3 i j k FL):=⟨fun Z A => PS.imp (ps_par3 hc hN hi hj hk hij hik hjk hx hy hz (ha Z A) hw hs) fun E σ H h => by
    obtain ⟨ow,δ,s,o,s',R,S,e,q⟩:=h
    unfold sPar3 at e
    cases e1:FL δ s with
    | none => rw [e1] at e; cases e
    | some p =>
      obtain ⟨ds,s1⟩:=p
      rw [e1] at e
      refine ⟨_,ow,δ,s,ds,s1,R,S,e1,fun vs H' x1 S1 rs => ?_⟩
      rcases ds with _ | ⟨dx,_ | ⟨dy,_ | ⟨dz,_ | _⟩⟩⟩
      · cases e
      · cases e
      · cases e
      · cases e
        cases rs with
        | cons r1 rs =>
          cases rs with
          | cons r2 rs =>
            cases rs with
            | cons r3 rs =>
              cases rs
              obtain ⟨R1,f1⟩:=(R.mono x1).set (i:=i) r1
              obtain ⟨R2,f2⟩:=R1.set (i:=j) (r2.frm f1)
              obtain ⟨R3,f3⟩:=R2.set (i:=k) ((r3.frm f1).frm f2)
              exact ⟨_,_,_,rfl,q _ _ H' R3 S1 ((((Frm.ext x1).trans f1).trans f2).trans f3)⟩
      · cases e⟩
end
end L3

namespace L3
open PySem L2 PySem.Spec PyProof.Rows
section
variable {X:Cx} {e e2 r t:Expr} {Fa Fb F Fr:FE} {Ft:FT} {T:Tgt} {x:Str} {px apos cpos pos pos2 pos3:Pos} {i:Nat}
theorem Tgt.keeps {T:Tgt} {d:D} {δ δ':Sl} (h:T.run d δ = some δ') {j:Nat} (hj:¬ j ∈ T.slots):δ'[j]? = δ[j]?:=by
  have all:∀ (is:List Nat) (ds:List D) (δ:Sl),¬ j ∈ is→(setD is ds δ)[j]? = δ[j]?:=fun is => by
    induction is with
    | nil => intro ds δ _; rfl
    | cons i is ih =>
      intro ds δ hn
      cases ds with
      | nil => rfl
      | cons d ds =>
        have hn':¬ j = i∧¬ j ∈ is:=by simpa using hn
        show (setD is ds (δ.set i (.val d)))[j]? = _
        rw [ih ds _ hn'.2,List.getElem?_set_ne (Ne.symm hn'.1)]
  unfold Tgt.run at h
  split at h
  · cases h
    exact List.getElem?_set_ne (Ne.symm (by simpa [Tgt.slots] using hj))
  · split at h
    · cases h; exact all _ _ _ hj
    · cases h
  · split at h
    · cases h; exact all _ _ _ hj
    · cases h
  · cases h
  · rename_i i js a b
    cases eb:seqOf b with
    | none => rw [eb] at h; cases h
    | some ys =>
      rw [eb] at h
      simp only [Option.bind_some] at h
      have hn':¬ j = i∧¬ j ∈ js:=by simpa [Tgt.slots] using hj
      split at h
      · cases h
        rw [all _ _ _ hn'.2,List.getElem?_set_ne (Ne.symm hn'.1)]
      · cases h
  · cases h
end
end L3

namespace L3
open PySem L2 PySem.Spec PyProof.Rows
noncomputable def intsOf:List D→Option (List Int)
  | [] => some []
  | .int k :: r => (intsOf r).map (k :: ·)
  | _ :: _ => none
theorem ints_get:∀ {ds:List D} {ks:List Int},intsOf ds = some ks→ds = ks.map .int
  | [],ks,h => by cases h; rfl
  | d :: r,ks,h => by
    cases d with
    | int k =>
      replace h:(intsOf r).map (k :: ·) = some ks:=h
      refine mpp1 h fun l e h => ?_
      subst h
      rw [ints_get e]; rfl
    | _ => cases h
theorem intsOf_map:∀ ks:List Int,intsOf (ks.map .int) = some ks
  | [] => rfl
  | k :: r => by
    show (intsOf (r.map .int)).map (k :: ·) = _
    rw [intsOf_map r]; rfl
section
variable {X:Cx}
end
end L3

namespace L3
open PySem L2 PySem.Spec PyProof.Rows
section
variable {X:Cx} {tg e:Expr} {F:FE} {p pos:Pos}
end
end L3

namespace L3
open PySem L2 PySem.Spec PyProof.Rows
theorem RepW.sq {K:PySem.W.Frag} {Z:Zt} {H:Hp} {A:List Addr} {v:V} {d:D} {xs:List D} (r:RepW K Z H A v d) (e:seqOf d = some xs):∃ k a vs,v = .ref a∧SqK k K H a vs∧Reps K Z H A vs xs:=by
  cases d with
  | list ys =>
    cases e
    obtain ⟨p,vs,ev,sq,_,rs⟩:=r.list
    exact ⟨true,p,vs,ev,sq,rs⟩
  | tuple ys =>
    cases e
    obtain ⟨p,vs,ev,sq,rs⟩:=r.tuple
    exact ⟨false,p,vs,ev,sq,rs⟩
  | _ => cases e
section
variable {X:Cx} {e e2:Expr} {Fa Fb:FE} {p pos p2 pos2:Pos}
end
inductive Al (K:PySem.W.Frag) (Z:Zt) (H:Hp) (A:List Addr):L2.St→Sl→Prop
  | nil:Al K Z H A [] []
  | non {o:Option V} {σ:L2.St} {δ:Sl}:Al K Z H A σ δ→Al K Z H A (o :: σ) (.non :: δ)
  | val {v:V} {d:D} {σ:L2.St} {δ:Sl}:Rep K Z H A v d→Al K Z H A σ δ→Al K Z H A (some v :: σ) (.val d :: δ)
theorem Al.len {K:PySem.W.Frag} {Z:Zt} {H:Hp} {A:List Addr} {σ:L2.St} {δ:Sl} (h:Al K Z H A σ δ):δ.length = σ.length:=by
  induction h with
  | nil => rfl
  | non _ ih => exact congrArg (· + 1) ih
  | val _ _ ih => exact congrArg (· + 1) ih
theorem Al.get {K:PySem.W.Frag} {Z:Zt} {H:Hp} {A:List Addr} {σ:L2.St} {δ:Sl} (h:Al K Z H A σ δ):∀ (i:Nat) (d:D),δ[i]? = some (.val d)→∃ v,σ[i]? = some (some v)∧Rep K Z H A v d:=by
  induction h with
  | nil => intro i d e; cases e
  | non _ ih =>
    intro i d e
    cases i with
    | zero => cases e
    | succ i => exact ih i d e
  | val r _ ih =>
    intro i d e
    cases i with
    | zero => cases e; exact ⟨_,rfl,r⟩
    | succ i => exact ih i d e
theorem Al.own {K:PySem.W.Frag} {Z:Zt} {H:Hp} {A:List Addr} {σ:L2.St} {δ:Sl} (h:Al K Z H A σ δ):∀ (i:Nat) (xs:List D),δ[i]? = some (.own xs)→False:=by
  induction h with
  | nil => intro i d e; cases e
  | non _ ih =>
    intro i d e
    cases i with
    | zero => cases e
    | succ i => exact ih i d e
  | val r _ ih =>
    intro i d e
    cases i with
    | zero => cases e
    | succ i => exact ih i d e
theorem Al.repS {K:PySem.W.Frag} {B:Hp} {Z:Zt} {H:Hp} {A:List Addr} {σ:L2.St} {δ:Sl} (h:Al K Z H A σ δ) (ok:∀ q ∈ A,(∃ o,H q = some o)∧NotZ Z q) (ext:Ext Z B H):RepS K B Z A [] σ δ H where
  ok:=ok
  ext:=ext
  len:=Al.len h
  val:=fun i d e => let ⟨v,a,b⟩:=Al.get h i d e; ⟨v,a,by show Rep K Z H (A ++ []) v d; rw [List.append_nil]; exact b⟩
  own:=fun i xs e => (Al.own h i xs e).elim
  ows:=fun _ _ e => nomatch e
  inj:=fun _ _ _ e => nomatch e
end L3

namespace L3
open PySem L2 PyProof.Rows
noncomputable def leastAt (ns:List Int):Nat:=argBest (fun i j => decide (ns.getD i 0 < ns.getD j 0)) (ns.length - 1)
noncomputable def gMinL:G1:=fun d => match d with | .list ds => (intsOf ds).bind fun ns => (ns[leastAt ns]?).map fun n => .int n | _ => none
section
variable {X:Cx}
theorem dc_minL (hc:X.calm = true):CallR X (.builtin "min") (rD1 X.K gMinL):=fun pins s σ H xs us Q I rv x__169 => by
  obtain ⟨Z,A,st,x,dx,d,e0,S,hA,rx,e,q⟩:=x__169
  subst e0
  obtain ⟨u,rfl,ru⟩:=vals1 rv
  cases dx with
  | list ds =>
    replace e:((intsOf ds).bind fun ns => (ns[leastAt ns]?).map fun n => PyData.int n) = some d:=e
    cases e1:intsOf ds with
    | none => rw [e1] at e; cases e
    | some ns =>
      rw [e1] at e
      replace e:((ns[leastAt ns]?).map fun n => PyData.int n) = some d:=e
      cases e2:ns[leastAt ns]? with
      | none => rw [e2] at e; cases e
      | some n =>
        rw [e2] at e
        cases e
        have eds:=ints_get e1
        subst eds
        obtain ⟨p,vs,ev,sq,_,rs⟩:=rx.list
        subst ev
        cases (show u = Value.ref p from ru)
        obtain ⟨its,r2,pl,_⟩:=I.list sq
        have hl:=pl.isList
        have lens:its.length = ns.length:=by rw [← r2.length,rs.length,List.length_map]
        have val:∀ i v,its.toArray[i]? = some v→∃ t,v = Value.int (ns.getD i 0) t:=fun i v hP => by
          have hi:its[i]? = some v:=by simpa using hP
          obtain ⟨vv,h1,h2⟩:∃ vv,vs[i]? = some vv∧RelV vv v:=by
            cases e3:vs[i]? with
            | none => rw [r2.none_of e3] at hi; cases hi
            | some vv => obtain ⟨u',h3,h4⟩:=r2.get e3; rw [h3] at hi; cases hi; exact ⟨vv,rfl,h4⟩
          obtain ⟨dd,h3,h4⟩:=rs.at h1
          rw [List.getElem?_map] at h3
          cases e4:ns[i]? with
          | none => rw [e4] at h3; cases h3
          | some k =>
            rw [e4] at h3
            cases h3
            cases h4
            obtain ⟨t,rfl⟩:=h2
            exact ⟨t,by simp [e4]⟩
        have hlt:LT.lt (α:=Nat) p s.heap.objs.size:=by obtain ⟨_,e,_⟩:=hl; exact Heap.lt_size e
        refine call_min_walk (wpAny_pyIter_list hl ?_)
        refine ⟨_,_,_,_,_,_,_,rfl,Walks.list (A:=X.A.in1) (show X.A.in1.handled = none from I.ok.hd hc) s.heap.objs.size p (Nat.ne_of_lt hlt) its.toArray,⟨⟨_,Heap.get?_push_size _ rfl,rfl,rfl⟩,hl.push _⟩,fun b hb => ?_,?_,CmpOf.ints_lt (fun i => ns.getD i 0) val,fun v h' tk hP kp => ?_⟩
        · show LT.lt (α:=Nat) b (s.heap.push _).objs.size
          rw [Heap.size_push]
          rcases List.mem_cons.mp hb with rfl | hb
          · exact Nat.lt_succ_self _
          · rcases List.mem_cons.mp hb with rfl | hb
            · exact Nat.lt_succ_of_lt hlt
            · cases hb
        · rw [List.size_toArray,lens]
          exact Nat.lt_of_le_of_lt (Nat.zero_le _) (List.getElem?_eq_some_iff.mp e2).1
        · obtain ⟨t,rfl⟩:=val _ v hP
          have ea:argBest (fun i j => decide (ns.getD i 0 < ns.getD j 0)) (its.toArray.size - 1) = leastAt ns:=by unfold leastAt; rw [List.size_toArray,lens]
          refine ⟨.int n,H,?_,⟨t,?_⟩,q _ H (Ext.refl H) S (.int _)⟩
          · refine I.kept (h':=h') (t':=tk) fun b o eb => kp b o ?_ (Heap.get?_push_of_some _ eb)
            intro z
            have z':b = s.heap.objs.size:=by simpa using z
            rw [z'] at eb
            exact Nat.lt_irrefl _ (Heap.lt_size eb)
          · rw [ea]
            congr 1
            simp [e2]
  | _ => cases e
end
end L3

namespace L3
open PySem L2 PySem.Spec PyProof.Rows
theorem noFill_tuple_mul:fillsNumberSlot (.type "tuple") "mul" = pure false :=
  PySem.fillsNumberSlot_seq (id:="tuple.__mul__") (r:=some (.builtin "tuple.__rmul__")) PySem.F.slot_tuple_mul.lookup (by decide +kernel) PySem.F.slot_tuple_rmul.lookup (by decide +kernel)
theorem repeat_tuple:seqRepeat? (.type "tuple") = pure (some (.builtin "tuple.__mul__")):=by
  unfold seqRepeat?
  rw [PySem.seqSlot_of (T:="tuple") (name:="__mul__") (id:="tuple.__mul__") PySem.F.slot_tuple_mul.lookup (by decide +kernel),PySem.seqSlot_of (T:="tuple") (name:="__rmul__") (id:="tuple.__rmul__") PySem.F.slot_tuple_rmul.lookup (by decide +kernel)]
  rfl
theorem int_rmul_tuple (a:Int) (t:Tok) (l:Addr) (items:Array Value) (n:Nat) (dd:Option Addr) (sl:Array (Option Value)) :
    Meets (Builtin.«int.__rmul__» ⟨[.int a t,.ref l],[]⟩) (fun _ R s => s.heap.get? l = some { cls:=.type "tuple",dict:=dd,data:=.seq items n,slots:=sl }∧R (.ok (.ret Value.notImplemented)) s) :=
  .of_wp fun prog w A R s h => by obtain ⟨hp,g,d,tk,os⟩:=s; obtain ⟨hl,h⟩:=h; wp_walk; exact ⟨_,rfl,h⟩
theorem tuple_mul_one (t:Tok) (l:Addr) (items:Array Value) (n:Nat) (dd:Option Addr) (sl:Array (Option Value)) :
    Meets (Builtin.«tuple.__mul__» ⟨[.ref l,.int 1 t],[]⟩) (fun _ R s => s.heap.get? l = some { cls:=.type "tuple",dict:=dd,data:=.seq items n,slots:=sl }∧R (.ok (.ret (.ref l))) s) :=
  .of_wp fun prog w A R s h => by obtain ⟨hp,g,d,tk,os⟩:=s; obtain ⟨hl,h⟩:=h; wp_walk; exact ⟨_,rfl,h⟩
theorem tuple_mul_zero (t:Tok) (l:Addr) (items:Array Value) (n:Nat) (dd:Option Addr) (sl:Array (Option Value)) (hne:items.isEmpty = false) :
    Meets (Builtin.«tuple.__mul__» ⟨[.ref l,.int 0 t],[]⟩) (fun _ R s => s.heap.get? l = some { cls:=.type "tuple",dict:=dd,data:=.seq items n,slots:=sl }∧R (.ok (.ret (.ref s.heap.objs.size))) { s with heap:=s.heap.push { cls:=.type "tuple",data:=.seq #[] } }) :=
  .of_wp fun prog w A R s h => by obtain ⟨hp,g,d,tk,os⟩:=s; obtain ⟨hl,h⟩:=h; wp_walk; exact ⟨_,rfl,h⟩
section
variable {X:Cx}
noncomputable def rRepT (K:PySem.W.Frag):R2:=fun x y H Q => ∃ a k xs,x = .ref a∧y = .int k∧SqT K H a xs∧xs ≠ []∧((k = 0∧∀ p,H p = none→Q (.ref p) (upd H p (.tup []))) ∨ (k = 1∧Q (.ref a) H))
theorem op_repT:OpR X (binaryOp .Mult) (rRepT X.K):=by
  intro pins s σ H x y v u Q I rx ry h
  obtain ⟨a,k,xs,rfl,rfl,ha,hne,h⟩:=h
  cases rx
  obtain ⟨t,rfl⟩:=ry
  obtain ⟨its,r1,p1,_⟩:=I.tuple ha
  obtain ⟨⟨cls,dd,data,sl⟩,ho,hc,n,hd⟩:=id p1
  simp only at hc hd
  subst hc hd
  refine wpAny_binaryOp_repeat_ref (T:="tuple") (U:="int") (by decide) ⟨_,ho,rfl⟩ (fun s' => typeIs_int s' k t) noFill_tuple_mul PySem.F.fills_int_mul PySem.F.slot_int_rmul repeat_tuple PySem.F.slot_int_index.lookup
    (call_meets PySem.F.slot_int_rmul (typeIs_int s k t) PySem.F.entry_int_rmul (PySem.F.args_int_rmul_2 _ _) (int_rmul_tuple k t a its.toArray n dd sl) ⟨ho,rfl,⟨_,ho,rfl⟩,?_⟩)
  rcases h with ⟨rfl,q⟩ | ⟨rfl,q⟩
  · refine call_meets PySem.F.slot_tuple_mul ⟨_,ho,rfl⟩ PySem.F.entry_tuple_mul (PySem.F.args_tuple_mul_2 _ _) (tuple_mul_zero t a its.toArray n dd sl ?_) ⟨ho,?_⟩
    · cases its with
      | nil => exact absurd (r1.nil_iff.mp rfl) hne
      | cons _ _ => rfl
    · exact ⟨.ref s.heap.objs.size,_,I.laid (t':=s.toks) (o:=.tup []) (fun b ob q => Heap.get?_push_of_some _ q) (Nat.le_refl _) ⟨Nat.zero_le _,_,.nil,IsTup.new _ _⟩,rfl,q _ (I.hok.fresh (Nat.le_refl _))⟩
  · exact call_meets PySem.F.slot_tuple_mul ⟨_,ho,rfl⟩ PySem.F.entry_tuple_mul (PySem.F.args_tuple_mul_2 _ _) (tuple_mul_one t a its.toArray n dd sl) ⟨ho,.ref a,H,I,rfl,q⟩
noncomputable def gMulT:G2:=fun a b => match a,b with
  | .tuple (x :: xs),.int k => if k = 0 then some (.tuple []) else if k = 1 then some (.tuple (x :: xs)) else none
  | _,_ => none
theorem dmulT:DOp X (binaryOp .Mult) gMulT:=DOp.of op_repT fun Z A H st x y dx dy d Q S hA rx ry e q => by
  unfold gMulT at e
  split at e
  · rename_i a as k
    obtain ⟨p1,v1,ev1,h1,r1⟩:=rx.tuple
    have ey:=ry.int
    have l1:=r1.length
    refine ⟨p1,k,v1,ev1,ey,h1,(fun z => by rw [z] at l1; cases l1),?_⟩
    split at e
    · rename_i h0
      cases e
      exact .inl ⟨h0,fun p hp => q _ _ (Ext.upd hp) (S.upd hp) (.tup upd_same (fresh_not hA hp) (S.notZ hp) .nil)⟩
    · split at e
      · rename_i h0
        cases e
        refine .inr ⟨h0,q _ H (Ext.refl H) S ?_⟩
        rw [← ev1]; exact rx.tup
      · cases e
  · cases e
end
end L3

namespace L3
open PySem L2 PyProof.Rows
noncomputable abbrev RS:=Sl→Sx→Option Sx
inductive tRX (X:Cx) (Z:Zt) (A:List Addr) (C:Addr) (R:RS) (E:Ends) (σ:L2.St) (H:Hp):Prop
  | mk (ow:Ow) (δ:Sl) (s:Sx) (s':Sx) (h0:RepS X.K X.H₀ Z A ow σ δ H) (h1:StateAt Z H s) (h2:R δ s = some s') (h3:∀ E' σ' H',Ext Z X.H₀ H'→StateAt Z H' s'→tRaise X C E' σ' H')
structure RX (X:Cx) (sts:List Stmt) (C:Addr) (R:RS):Prop where
  go:∀ Z A,PSs X sts (tRX X Z A C R)
theorem ps_nox {X:Cx} {st:Stmt} {t:TS} (h:PS X.nox st t):PS X st t:=fun pins s σ H D I hw =>
  wpAny_mono (h pins s σ H D (I.wish _) hw) (fun _ _ q => q.unwish) fun _ _ z => z.elim
noncomputable def rSeq (G:GS) (R:RS):RS:=fun δ s => match G δ s with
  | some (.next δ1,s1) => R δ1 s1
  | _ => none
noncomputable def rIf (Ft:FT) (R:RS):RS:=fun δ s => (Ft δ s).bind fun p => if p.1 = true then some p.2 else R δ p.2
noncomputable def rEnd:RS:=fun _ _ => none
section
variable {X:Cx} {st r:Stmt} {rest:List Stmt} {c:Expr} {C:Addr} {G:GS} {R:RS} {Ft:FT} {pos:Pos}
theorem rx_end {sts:List Stmt} {t:TS} (h:PSs X sts t):RX X sts C rEnd:=⟨fun Z A => PSs.imp h fun E σ H x__170 => (by obtain ⟨_,_,_,_,_,_,e,_⟩:=x__170; exact nomatch e)⟩
theorem rx_cons (h1:DS X.nox st G) (h2:RX X rest C R):RX X (st :: rest) C (rSeq G R):=⟨fun Z A => PSs.imp (pss_cons (ps_nox (h1.go Z A)) (h2.go Z A)) fun E σ H x__171 => by
  obtain ⟨ow,δ,s,s',Rs,S,e,q⟩:=x__171
  unfold rSeq at e
  split at e
  · rename_i δ1 s1 e1
    exact ⟨ow,δ,s,.next δ1,s1,Rs,S,e1,fun ow' σ' H' R' S' _ => ⟨ow',δ1,s1,s',R',S',e,q⟩⟩
  · cases e⟩
theorem rx_if (ht:DT X.nox c Ft) (hr:PS X r (tRaise X C)) (h2:RX X rest C R):RX X (.If c [r] [] pos :: rest) C (rIf Ft R):=⟨fun Z A => PSs.imp (pss_cons (ps_if (PT.nox (ht.go Z A)) (pss_one hr) pss_nil) (h2.go Z A)) fun E σ H x__172 => by
  obtain ⟨ow,δ,s,s',Rs,S,e,q⟩:=x__172
  unfold rIf at e
  cases e1:Ft δ s with
  | none => rw [e1] at e; cases e
  | some p =>
    obtain ⟨b,s1⟩:=p
    rw [e1] at e
    refine ⟨X.H₀,ow,δ,s,b,s1,Rs,S,e1,fun H' x S' => ?_⟩
    cases b with
    | true =>
      rw [if_pos rfl]
      cases (show some s1 = some s' from e)
      exact q _ _ _ (Rs.ext.trans x) S'
    | false =>
      rw [if_neg (by decide)]
      exact ⟨ow,δ,s1,s',Rs.mono x,S',e,q⟩⟩
end
inductive spX (K:PySem.W.Frag) (C:Addr) (h:List D→Sx→Option Sx) (vs:List V) (H:Hp) (_Q:VK) (E:XK):Prop
  | mk (Z:Zt) (A:List Addr) (ds:List D) (s:Sx) (s':Sx) (h0:Reps K Z H A vs ds) (h1:(∀ q ∈ A,(∃ o,H q = some o)∧NotZ Z q)) (h2:StateAt Z H s) (h3:h ds s = some s') (h4:∀ H',Ext Z H H'→StateAt Z H' s'→E (.ref C) none H')
noncomputable def mkX (n m:Nat) (R:RS):List D→Sx→Option Sx:=fun ds s => if ds.length = n then R (ds.map .val ++ List.replicate m .non) s else none
theorem fnX {P:Program} {w:World} {K:PySem.W.Frag} {mg:Str→Option Value} {base:Heap} {x qual:Str} {st:Stmt} {f C:Addr} {fd:FuncData} {N ps:List Str} {k m:Nat} {R:RS} (Fn:Fun K x qual st f fd) (S:FnScope N ps (defScope st)) (hN:N.length = ps.length + m)
    (hbody:∀ (cdv:Value) (A:Around) (outer:List Env) (s:Shared) (H:Hp) (E:XK),Room k (A.deeper (envOfC qual (defScope st) s.heap.objs.size f cdv))→RX (cxOf (CX1 P w base) P w K mg base N qual (defScope st) f cdv A outer s H E) (defBody st) C R) :
    FnOk P w K mg base (CX1 P w base) (k + 1) f fd ps (spX K C (mkX ps.length m R)):=by
  obtain ⟨oc,od,kV,doc,pm,an,cdv,ct,osl,rfl,lk,hcd⟩:=Fn.ex
  have len:∀ {ds:List D} {s s':Sx},mkX ps.length m R ds s = some s'→ds.length = ps.length:=fun {ds s s'} e => by
    unfold mkX at e
    split at e
    · assumption
    · cases e
  refine fn_of lk hcd S (fun vs H Q E x__173 => by obtain ⟨Z,A,ds,s,s',r,_,_,e,_⟩:=x__173; rw [r.length]; exact len e) (fun A outer s H vs Q E hr x__174 => ?_)
  obtain ⟨Z,A0,ds,st0,st1,r,hA,hS,e,q⟩:=x__174
  have hl:=len e
  refine ⟨_,(hbody cdv A outer s H E hr).go Z A0,?_⟩
  unfold mkX at e
  rw [if_pos hl] at e
  have hst:L2.start N vs = vs.map some ++ List.replicate m none:=by
    unfold L2.start
    rw [hN,r.length,hl,Nat.add_sub_cancel_left]
  rw [hst]
  refine ⟨[],ds.map .val ++ List.replicate m .non,st0,st1,?_,hS,e,fun E' σ' H' x S' => raise_reads (q H' x S')⟩
  exact {
    ok:=hA
    ext:=Ext.refl H
    len:=by simp [r.length]
    val:=fun i d h => by
      obtain ⟨v,h1,h2⟩:=reps_val r h
      exact ⟨v,h1,by rw [List.map_nil,List.append_nil]; exact h2⟩
    own:=fun i xs h => (reps_own h).elim
    ows:=fun i p h => nomatch h
    inj:=fun i j p h => nomatch h }
end L3

set_option maxHeartbeats 4000000
namespace Law
open PySem L2 L3 PyProof.Rows
noncomputable def top (i:Nat):Stmt:=PySem.Challenge.pw_farquotient_k51_quotients_by_a_prime.main.body.getD i (.Pass ⟨0,0,0,0⟩)
noncomputable abbrev s__wall:Stmt:=top 0
noncomputable abbrev s_inverse_by:Stmt:=top 3
noncomputable abbrev s_trimmed:Stmt:=top 4
noncomputable abbrev s_parted_in:Stmt:=top 5
noncomputable abbrev s_common_in:Stmt:=top 6
noncomputable abbrev s_quotient_by:Stmt:=top 14
noncomputable abbrev s_settled_by:Stmt:=top 15
noncomputable abbrev s__law_begin:Stmt:=top 17
noncomputable abbrev s__law_take:Stmt:=top 18
noncomputable abbrev s__law_same:Stmt:=top 19
noncomputable abbrev s__law_prime:Stmt:=top 20
noncomputable abbrev s__law_inverse:Stmt:=top 21
noncomputable abbrev s__law_cut:Stmt:=top 22
noncomputable abbrev s__law_times_by:Stmt:=top 23
noncomputable abbrev s__law_left_by:Stmt:=top 24
noncomputable abbrev s__law_factor_by:Stmt:=top 25
noncomputable abbrev s__law_poly_by:Stmt:=top 26
noncomputable abbrev s__law_is_quotient_by:Stmt:=top 27
noncomputable abbrev s__law_none:Stmt:=top 28
noncomputable abbrev s__law_noughts:Stmt:=top 29
noncomputable abbrev s__law_is_made:Stmt:=top 30
noncomputable abbrev s__law_right:Stmt:=top 31
noncomputable abbrev s_law:Stmt:=top 32
noncomputable abbrev s_PrimeField___init__:Stmt:=inClass (top 2) 0
noncomputable abbrev s_PrimeField_added:Stmt:=inClass (top 2) 1
noncomputable abbrev s_PrimeField_lessened:Stmt:=inClass (top 2) 2
noncomputable abbrev s_PrimeField_multiplied:Stmt:=inClass (top 2) 3
noncomputable abbrev s_PrimeField_divided:Stmt:=inClass (top 2) 4
noncomputable abbrev s_PrimeField_simplest:Stmt:=inClass (top 2) 5
section
variable {P:Program} {w:World} {K:PySem.W.Frag} {mg:Str→Option Value} {base:Heap}
inductive Is (K:PySem.W.Frag) (mg:Str→Option Value) (x:Str) (st:Stmt):Prop
  | mk (f:Addr) (fd:FuncData) (h0:Fun K x x st f fd) (h1:mg x = some (.ref f))
inductive FD (K:PySem.W.Frag) (x:Str) (st:Stmt):Prop
  | mk {f:Addr} {od an:Option Addr} {sl:Array (Option Value)} {oc kV dc pm cd ct:Value} (a:PySem.W.nsIn K mainGlobals x = some (some (.ref f))) (l:K.lookup f = some ⟨oc,od,.func (PySem.W.fnOf x x (defArgs st) (defBody st) (defScope st) .none kV dc pm an cd ct),sl⟩) (c:PySem.W.codeIn K cd x = true) (k:PySem.W.keepIn K (.ref f) = true):FD K x st
theorem FD.is {h:Heap} {x:Str} {st:Stmt} (X:K.In h) (G:h.Ns mainGlobals mg) (d:FD K x st):Is K mg x st:=by
  cases d with
  | mk a l c k => exact ⟨_,_,fun_mk (st:=st) l c k,PySem.W.mg_of X G a⟩
inductive MD (K:PySem.W.Frag) (C:Addr) (x q:Str) (st:Stmt):Prop
  | mk {f:Addr} {od an:Option Addr} {sl:Array (Option Value)} {oc kV dc pm cd ct:Value} (a:PySem.W.findIn K (.ref C) x = some (some (.ref f))) (i:PySem.W.isFn K (.ref f) = true) (l:K.lookup f = some ⟨oc,od,.func (PySem.W.fnOf x q (defArgs st) (defBody st) (defScope st) .none kV dc pm an cd ct),sl⟩) (c:PySem.W.codeIn K cd q = true) (k:PySem.W.keepIn K (.ref f) = true):MD K C x q st
theorem MD.is {C:Addr} {y x q:Str} {st:Stmt} (aC:PySem.W.nsIn K mainGlobals y = some (some (.ref C))) (cl:Cls K C) (d:MD K C x q st):IsM K y x q st:=by
  cases d with
  | mk a i l c k => exact ⟨C,_,_,aC,cl,⟨a,i,k⟩,fun_mk (st:=st) l c k⟩
theorem MD.init {h:Heap} {C:Addr} {y q:Str} {st:Stmt} {fs:List Str} (X:K.In h) (G:h.Ns mainGlobals mg) (aC:PySem.W.nsIn K mainGlobals y = some (some (.ref C))) (cl:Cls K C) (mk:PySem.W.makesIn K C = true) (kc:PySem.W.keepIn K (.ref C) = true) (na:∀ x ∈ fs,NoAttr K C x) (d:MD K C "__init__" q st):IsI K mg y q st fs:=by
  cases d with
  | mk a i l c k => exact ⟨C,_,_,aC,PySem.W.mg_of X G aC,⟨mk,a,i,kc⟩,cl,na,fun_mk (st:=st) l c k⟩
noncomputable def gI_PrimeField:List D→Option (List D):=fun ds => match ds with | [x1] => some [x1,(.int 0),(.int 1)] | _ => none
theorem sc_PrimeField___init__:FnScope ["self","prime"] ["self","prime"] (defScope s_PrimeField___init__):=⟨rfl,rfl,rfl,by decide +kernel,rfl,by decide +kernel,by decide +kernel⟩
theorem ok_PrimeField___init__ (hf:IsI K mg "PrimeField" "PrimeField.__init__" s_PrimeField___init__ ["prime","nought","unit"]):KCal P w K mg base "PrimeField" 1 ["prime","nought","unit"] gI_PrimeField:=by
  obtain ⟨C,f,fd,kC,hm,M,cl,na,F⟩:=hf
  refine initOk kC hm M F sc_PrimeField___init__ (F.binds fun _ _ _ _ _ _ us hl => by obtain ⟨a0,a1,rfl⟩:=len2 (show us.length = 2 from hl); rfl) (by decide) (fun xs hx => match xs,hx with | [_,_,_],_ => by first | rfl | with_unfolding_all rfl | simp +decide [putAll,putF]) (fun ds fds e => ?_) (fun cdv A outer s H E => (is_cons cl (na "prime" (by simp)) (pv 0) (sv_var (pv 1)) (is_cons cl (na "nought" (by simp)) (pv 0) sv_int (is_cons cl (na "unit" (by simp)) (pv 0) sv_int is_nil)))) (fun Z H A p ws ds fds rs e => ?_)
  · unfold gI_PrimeField at e
    split at e
    · rfl
    · cases e
  · unfold gI_PrimeField at e
    split at e
    · cases e
      cases rs with
      | @cons v1 _ _ _ r1 rs =>
        cases rs
        exact ⟨[v1,(.int 0),(.int 1)],rfl,rfl,(.cons r1 (.cons (.int _) (.cons (.int _) .nil)))⟩
    · cases e
noncomputable def g__wall:GF:=fun _ _ => none
theorem ok__wall (hf:Is K mg "_wall" s__wall):Cal P w K mg base "_wall" ["k"] 1 g__wall:=by
    obtain ⟨f,fd,F,hm⟩:=hf
    exact ⟨f,fd,⟨fun _ _ _ _ h => (spD_none h).elim,fun _ _ _ _ _ _ _ _ _ _ _ _ _ h => (spD_none h).elim⟩,hm,F.kp,F.binds fun _ _ _ _ _ _ us hl => by obtain ⟨a0,rfl⟩:=len1 (show us.length = 1 from hl); rfl⟩
theorem sc_PrimeField_added:FnScope ["self","one","other"] ["self","one","other"] (defScope s_PrimeField_added):=⟨rfl,rfl,rfl,by decide +kernel,rfl,by decide +kernel,by decide +kernel⟩
noncomputable def G_PrimeField_added:GS:=(sDrop (fCall g__wall (aCons (fC (.int 0)) aNil)))
noncomputable def g_PrimeField_added:GF:=mkFn 3 0 G_PrimeField_added
theorem ok_PrimeField_added (hf:IsM K "PrimeField" "added" "PrimeField.added" s_PrimeField_added) (h__wall:Cal P w K mg base "_wall" ["k"] 1 g__wall):MCal P w K mg base "PrimeField" "added" 2 g_PrimeField_added:=by
  obtain ⟨C,f,fd,kC,cl,me,F⟩:=hf
  have nd:=sc_PrimeField_added.nd
  exact ⟨C,f,fd,["self","one","other"],kC,cl,me,fnD F sc_PrimeField_added rfl (fun cdv A outer s H E hr => (dss_one (ds_expr (de_cal h__wall hr (da_cons de_int da_nil))))),F.binds fun _ _ _ _ _ _ us hl => by obtain ⟨a0,a1,a2,rfl⟩:=len3 (show us.length = 3 from hl); rfl⟩
theorem sc_PrimeField_lessened:FnScope ["self","one","other"] ["self","one","other"] (defScope s_PrimeField_lessened):=⟨rfl,rfl,rfl,by decide +kernel,rfl,by decide +kernel,by decide +kernel⟩
noncomputable def G_PrimeField_lessened:GS:=(sRet (f2 gModI (f2 gSubI (fVar 1) (fVar 2)) (f1 (gFld ["PrimeField"] "prime") (fVar 0))))
noncomputable def g_PrimeField_lessened:GF:=mkFn 3 0 G_PrimeField_lessened
theorem ok_PrimeField_lessened (hf:IsM K "PrimeField" "lessened" "PrimeField.lessened" s_PrimeField_lessened) (f_prime:∀ c ∈ (["PrimeField"]:List Str),FCal K c "prime"):MCal P w K mg base "PrimeField" "lessened" 1 g_PrimeField_lessened:=by
  obtain ⟨C,f,fd,kC,cl,me,F⟩:=hf
  have nd:=sc_PrimeField_lessened.nd
  exact ⟨C,f,fd,["self","one","other"],kC,cl,me,fnD F sc_PrimeField_lessened rfl (fun cdv A outer s H E hr => (dss_one (ds_ret (de_op dmod_int (de_op dsub_int (dv 1).w (dv 2).w).w (de_fld (cs:=["PrimeField"]) f_prime (dv 0).w).w)))),F.binds fun _ _ _ _ _ _ us hl => by obtain ⟨a0,a1,a2,rfl⟩:=len3 (show us.length = 3 from hl); rfl⟩
theorem sc_PrimeField_multiplied:FnScope ["self","one","other"] ["self","one","other"] (defScope s_PrimeField_multiplied):=⟨rfl,rfl,rfl,by decide +kernel,rfl,by decide +kernel,by decide +kernel⟩
noncomputable def G_PrimeField_multiplied:GS:=(sRet (f2 gModI (f2 gMulI (fVar 1) (fVar 2)) (f1 (gFld ["PrimeField"] "prime") (fVar 0))))
noncomputable def g_PrimeField_multiplied:GF:=mkFn 3 0 G_PrimeField_multiplied
theorem ok_PrimeField_multiplied (hf:IsM K "PrimeField" "multiplied" "PrimeField.multiplied" s_PrimeField_multiplied) (f_prime:∀ c ∈ (["PrimeField"]:List Str),FCal K c "prime"):MCal P w K mg base "PrimeField" "multiplied" 1 g_PrimeField_multiplied:=by
  obtain ⟨C,f,fd,kC,cl,me,F⟩:=hf
  have nd:=sc_PrimeField_multiplied.nd
  exact ⟨C,f,fd,["self","one","other"],kC,cl,me,fnD F sc_PrimeField_multiplied rfl (fun cdv A outer s H E hr => (dss_one (ds_ret (de_op dmod_int (de_op dmul_int (dv 1).w (dv 2).w).w (de_fld (cs:=["PrimeField"]) f_prime (dv 0).w).w)))),F.binds fun _ _ _ _ _ _ us hl => by obtain ⟨a0,a1,a2,rfl⟩:=len3 (show us.length = 3 from hl); rfl⟩
theorem sc_inverse_by:FnScope ["prime","one","high","low","far","near","often"] ["prime","one"] (defScope s_inverse_by):=⟨rfl,rfl,rfl,by decide +kernel,rfl,by decide +kernel,by decide +kernel⟩
noncomputable def W_inverse_by_1:GS:=sWhile (asT (fVar 3)) (sSeq (sSet 6 (f2 gDivI (fVar 2) (fVar 3)))
  (sSeq (sPar 2 3 (aCons (fVar 3) (aCons (f2 gSubI (fVar 2) (f2 gMulI (fVar 6) (fVar 3))) aNil)))
  (sPar 4 5 (aCons (fVar 5) (aCons (f2 gSubI (fVar 4) (f2 gMulI (fVar 6) (fVar 5))) aNil)))))
noncomputable def G_inverse_by:GS:=(sSeq (sPar 2 3 (aCons (fVar 0) (aCons (fVar 1) aNil)))
  (sSeq (sUnp (.tup [4,5]) (eTup (aCons (fC (.int 0)) (aCons (fC (.int 1)) aNil))))
  (sSeq W_inverse_by_1
  (sRet (f2 gModI (fVar 4) (fVar 0))))))
noncomputable def g_inverse_by:GF:=mkFn 2 5 G_inverse_by
theorem ok_inverse_by (hf:Is K mg "inverse_by" s_inverse_by):Cal P w K mg base "inverse_by" ["prime","one"] 1 g_inverse_by:=by
  obtain ⟨f,fd,F,hm⟩:=hf
  have nd:=sc_inverse_by.nd
  exact ⟨f,fd,fnD F sc_inverse_by rfl (fun cdv A outer s H E hr => (dss_cons (ds_par (i:=2) (j:=3) nd (by decide) (da_cons (dv 0) (da_cons (dv 1) da_nil)) (by first | rfl | with_unfolding_all rfl))
      (dss_cons (ds_asg (de_tup (da_cons de_int (da_cons de_int da_nil))) (dg_tup (pgn_cons (i:=4) nd (pgn_cons (i:=5) nd pgn_nil))))
      (dss_cons (ds_while (dt_tru (dv 3).w (fun _ => rfl)) (dss_cons (ds_set (i:=6) nd (de_op ddiv_int (dv 2).w (dv 3).w))
      (dss_cons (ds_par (i:=2) (j:=3) nd (by decide) (da_cons (dv 3) (da_cons (de_op dsub_int (dv 2).w (de_op dmul_int (dv 6).w (dv 3).w).w) da_nil)) (by first | rfl | with_unfolding_all rfl))
      (dss_one (ds_par (i:=4) (j:=5) nd (by decide) (da_cons (dv 5) (da_cons (de_op dsub_int (dv 4).w (de_op dmul_int (dv 6).w (dv 5).w).w) da_nil)) (by first | rfl | with_unfolding_all rfl))))))
      (dss_one (ds_ret (de_op dmod_int (dv 4).w (dv 0).w))))))),hm,F.kp,F.binds fun _ _ _ _ _ _ us hl => by obtain ⟨a0,a1,rfl⟩:=len2 (show us.length = 2 from hl); rfl⟩
theorem sc_PrimeField_divided:FnScope ["self","one","other"] ["self","one","other"] (defScope s_PrimeField_divided):=⟨rfl,rfl,rfl,by decide +kernel,rfl,by decide +kernel,by decide +kernel⟩
noncomputable def G_PrimeField_divided:GS:=(sRet (f2 gModI (f2 gMulI (fVar 1) (fCall g_inverse_by (aCons (f1 (gFld ["PrimeField"] "prime") (fVar 0)) (aCons (fVar 2) aNil)))) (f1 (gFld ["PrimeField"] "prime") (fVar 0))))
noncomputable def g_PrimeField_divided:GF:=mkFn 3 0 G_PrimeField_divided
theorem ok_PrimeField_divided (hf:IsM K "PrimeField" "divided" "PrimeField.divided" s_PrimeField_divided) (h_inverse_by:Cal P w K mg base "inverse_by" ["prime","one"] 1 g_inverse_by) (f_prime:∀ c ∈ (["PrimeField"]:List Str),FCal K c "prime"):MCal P w K mg base "PrimeField" "divided" 2 g_PrimeField_divided:=by
  obtain ⟨C,f,fd,kC,cl,me,F⟩:=hf
  have nd:=sc_PrimeField_divided.nd
  exact ⟨C,f,fd,["self","one","other"],kC,cl,me,fnD F sc_PrimeField_divided rfl (fun cdv A outer s H E hr => (dss_one (ds_ret (de_op dmod_int (de_op dmul_int (dv 1).w (de_cal h_inverse_by hr (da_cons (de_fld (cs:=["PrimeField"]) f_prime (dv 0).w) (da_cons (dv 2) da_nil))).w).w (de_fld (cs:=["PrimeField"]) f_prime (dv 0).w).w)))),F.binds fun _ _ _ _ _ _ us hl => by obtain ⟨a0,a1,a2,rfl⟩:=len3 (show us.length = 3 from hl); rfl⟩
theorem sc_PrimeField_simplest:FnScope ["self","numbers"] ["self","numbers"] (defScope s_PrimeField_simplest):=⟨rfl,rfl,rfl,by decide +kernel,rfl,by decide +kernel,by decide +kernel⟩
noncomputable def G_PrimeField_simplest:GS:=(sDrop (fCall g__wall (aCons (fC (.int 1)) aNil)))
noncomputable def g_PrimeField_simplest:GF:=mkFn 2 0 G_PrimeField_simplest
theorem ok_PrimeField_simplest (hf:IsM K "PrimeField" "simplest" "PrimeField.simplest" s_PrimeField_simplest) (h__wall:Cal P w K mg base "_wall" ["k"] 1 g__wall):MCal P w K mg base "PrimeField" "simplest" 2 g_PrimeField_simplest:=by
  obtain ⟨C,f,fd,kC,cl,me,F⟩:=hf
  have nd:=sc_PrimeField_simplest.nd
  exact ⟨C,f,fd,["self","numbers"],kC,cl,me,fnD F sc_PrimeField_simplest rfl (fun cdv A outer s H E hr => (dss_one (ds_expr (de_cal h__wall hr (da_cons de_int da_nil))))),F.binds fun _ _ _ _ _ _ us hl => by obtain ⟨a0,a1,rfl⟩:=len2 (show us.length = 2 from hl); rfl⟩
theorem sc_trimmed:FnScope ["nought","row","many"] ["nought","row"] (defScope s_trimmed):=⟨rfl,rfl,rfl,by decide +kernel,rfl,by decide +kernel,by decide +kernel⟩
noncomputable def W_trimmed_1:GS:=sWhile (tAndF (asB (f2 gGt (fVar 2) (fC (.int 0)))) (asB (f2 gEq (f2 gIx (fVar 1) (f2 gSubI (fVar 2) (fC (.int 1)))) (fVar 0)))) (sAug 2 gSubI (fC (.int 1)))
noncomputable def G_trimmed:GS:=(sSeq (sSet 2 (f1 gLen (fVar 1)))
  (sSeq W_trimmed_1
  (sRet (f1 gTuple (fSl (fVar 1) pNo (pInt (fVar 2)))))))
noncomputable def g_trimmed:GF:=mkFn 2 1 G_trimmed
theorem ok_trimmed (hf:Is K mg "trimmed" s_trimmed) (n_len:mg "len" = none) (n_tuple:mg "tuple" = none):Cal P w K mg base "trimmed" ["nought","row"] 1 g_trimmed:=by
  obtain ⟨f,fd,F,hm⟩:=hf
  have nd:=sc_trimmed.nd
  exact ⟨f,fd,fnD F sc_trimmed rfl (fun cdv A outer s H E hr => (dss_cons (ds_set (i:=2) nd (de_b1 dc_len (by first | rfl | decide +kernel) n_len (dv 1).w))
      (dss_cons (ds_while (dw_and (dt_cmp dgt (dv 2).w (de_int).w (nomark _)) (dw_and1 (dt_cmp (deq hr.units) (de_ix (dv 1).w (de_op dsub_int (dv 2).w (de_int).w).w (fun _ _ => rfl)).w (dv 0).w (nomark _)))).t (dss_one (ds_aug (i:=2) nd isub_d de_int)))
      (dss_one (ds_ret (de_t1 dc_tuple (by first | rfl | decide +kernel) n_tuple (de_slice (dv 1) dp_no (dp_int (dv 2).w)).w)))))),hm,F.kp,F.binds fun _ _ _ _ _ _ us hl => by obtain ⟨a0,a1,rfl⟩:=len2 (show us.length = 2 from hl); rfl⟩
theorem sc_parted_in:FnScope ["field","one","other","rest","steps","often","shift","weight","place","each"] ["field","one","other"] (defScope s_parted_in):=⟨rfl,rfl,rfl,by decide +kernel,rfl,by decide +kernel,by decide +kernel⟩
noncomputable def B_parted_in_1:GS:=(sPut 3 (f2 gAdd (fVar 6) (fVar 8)) (fMeth [("PrimeField",g_PrimeField_lessened)] "lessened" (fVar 0) (aCons (f2 gIx (fVarW 3) (f2 gAdd (fVar 6) (fVar 8))) (aCons (fMeth [("PrimeField",g_PrimeField_multiplied)] "multiplied" (fVar 0) (aCons (fVar 7) (aCons (fVar 9) aNil))) aNil))))
noncomputable def L_parted_in_2:GS:=sFor (iEnumF (fVar 2)) (.tup [8,9]) B_parted_in_1
noncomputable def B_parted_in_3:GS:=(sSeq (sSet 7 (fMeth [("PrimeField",g_PrimeField_divided)] "divided" (fVar 0) (aCons (f2 gIx (fVarW 3) (f2 gSubI (f2 gAdd (fVar 6) (f1 gLen (fVar 2))) (fC (.int 1)))) (aCons (f2 gIx (fVar 2) (f1 gNeg (fC (.int 1)))) aNil))))
  (sSeq (sPut 5 (fVar 6) (fVar 7))
  L_parted_in_2))
noncomputable def L_parted_in_4:GS:=sFor (iRevRange (fVar 4)) (.one 6) B_parted_in_3
noncomputable def G_parted_in:GS:=(sSeq (sSetO 3 (oList (fVar 1)))
  (sSeq (sSet 4 (f2 gMax (f2 gAdd (f2 gSubI (f1 gLen (fVar 1)) (f1 gLen (fVar 2))) (fC (.int 1))) (fC (.int 0))))
  (sSeq (sSetO 5 (o2 lRep (eLst (aCons (f1 (gFld ["PrimeField"] "nought") (fVar 0)) aNil)) (fVar 4)))
  (sSeq L_parted_in_4
  (sSeq (sFrz 3) (sSeq (sFrz 5) (sRet (eTup (aCons (fCall g_trimmed (aCons (f1 (gFld ["PrimeField"] "nought") (fVar 0)) (aCons (fVar 5) aNil))) (aCons (fCall g_trimmed (aCons (f1 (gFld ["PrimeField"] "nought") (fVar 0)) (aCons (fVar 3) aNil))) aNil))))))))))
noncomputable def g_parted_in:GF:=mkFn 3 7 G_parted_in
theorem ok_parted_in (hf:Is K mg "parted_in" s_parted_in) (h_trimmed:Cal P w K mg base "trimmed" ["nought","row"] 1 g_trimmed) (n_enumerate:mg "enumerate" = none) (n_len:mg "len" = none) (n_list:mg "list" = none) (n_max:mg "max" = none) (n_range:mg "range" = none) (n_reversed:mg "reversed" = none) (f_nought:∀ c ∈ (["PrimeField"]:List Str),FCal K c "nought") (m_divided:∀ c g,([("PrimeField",g_PrimeField_divided)]:List (Str × GF)).lookup c = some g→∃ k,k ≤ 2∧MCal P w K mg base c "divided" k g) (m_lessened:∀ c g,([("PrimeField",g_PrimeField_lessened)]:List (Str × GF)).lookup c = some g→∃ k,k ≤ 1∧MCal P w K mg base c "lessened" k g) (m_multiplied:∀ c g,([("PrimeField",g_PrimeField_multiplied)]:List (Str × GF)).lookup c = some g→∃ k,k ≤ 1∧MCal P w K mg base c "multiplied" k g):Cal P w K mg base "parted_in" ["field","one","other"] 3 g_parted_in:=by
  obtain ⟨f,fd,F,hm⟩:=hf
  have nd:=sc_parted_in.nd
  exact ⟨f,fd,fnD F sc_parted_in rfl (fun cdv A outer s H E hr => (dss_cons (ds_setO (i:=3) nd (df_list (by first | rfl | decide +kernel) n_list (dv 1).w))
      (dss_cons (ds_set (i:=4) nd (de_b2 (dc_max rfl) (by first | rfl | decide +kernel) n_max (de_op dadd (de_op dsub_int (de_b1 dc_len (by first | rfl | decide +kernel) n_len (dv 1).w).w (de_b1 dc_len (by first | rfl | decide +kernel) n_len (dv 2).w).w).w (de_int).w).w (de_int).w))
      (dss_cons (ds_setO (i:=5) nd (df_rep (de_lst (da_cons (de_fld (cs:=["PrimeField"]) f_nought (dv 0).w) da_nil)).w (dv 4).w))
      (dss_cons (ds_for (di_revr n_reversed n_range (dv 4)) (dg_name (i:=6) nd) (dss_cons (ds_set (i:=7) nd (de_meth (tab:=[("PrimeField",g_PrimeField_divided)]) m_divided (hr.mono (by decide)) (dv 0) (da_cons (de_ix (dvw 3) (de_op dsub_int (de_op dadd (dv 6).w (de_b1 dc_len (by first | rfl | decide +kernel) n_len (dv 2).w).w).w (de_int).w).w (fun _ _ => rfl)) (da_cons (de_ix (dv 2).w (de_neg (de_int).w).w (fun _ _ => rfl)) da_nil))))
      (dss_cons (ds_put (i:=5) (pv 5) (dv 6).w (dv 7))
      (dss_one (ds_for (di_enum n_enumerate (dv 2)) (dg_tup (pgn_cons (i:=8) nd (pgn_cons (i:=9) nd pgn_nil))) (dss_one (ds_put (i:=3) (pv 3) (de_op dadd (dv 6).w (dv 8).w).w (de_meth (tab:=[("PrimeField",g_PrimeField_lessened)]) m_lessened (hr.mono (by decide)) (dv 0) (da_cons (de_ix (dvw 3) (de_op dadd (dv 6).w (dv 8).w).w (fun _ _ => rfl)) (da_cons (de_meth (tab:=[("PrimeField",g_PrimeField_multiplied)]) m_multiplied (hr.mono (by decide)) (dv 0) (da_cons (dv 7) (da_cons (dv 9) da_nil))) da_nil))))))))))
      (dss_one (ds_frz 3 (ds_frz 5 (ds_ret (de_tup (da_cons (de_cal h_trimmed hr (da_cons (de_fld (cs:=["PrimeField"]) f_nought (dv 0).w) (da_cons (dv 5) da_nil))) (da_cons (de_cal h_trimmed hr (da_cons (de_fld (cs:=["PrimeField"]) f_nought (dv 0).w) (da_cons (dv 3) da_nil))) da_nil)))))))))))),hm,F.kp,F.binds fun _ _ _ _ _ _ us hl => by obtain ⟨a0,a1,a2,rfl⟩:=len3 (show us.length = 3 from hl); rfl⟩
theorem sc_common_in:FnScope ["field","one","other"] ["field","one","other"] (defScope s_common_in):=⟨rfl,rfl,rfl,by decide +kernel,rfl,by decide +kernel,by decide +kernel⟩
noncomputable def W_common_in_1:GS:=sWhile (asT (fVar 2)) (sUnp (.tup [1,2]) (eTup (aCons (fVar 2) (aCons (f2 gIx (fCall g_parted_in (aCons (fVar 0) (aCons (fVar 1) (aCons (fVar 2) aNil)))) (fC (.int 1))) aNil))))
noncomputable def C_common_in_2:FO:=fComp 1 [0,1] (iSeq (fVar 1)) (.one 0) fTrue (fMeth [("PrimeField",g_PrimeField_divided)] "divided" (fVar 1) (aCons (fVar 0) (aCons (f2 gIx (fVar 2) (f1 gNeg (fC (.int 1)))) aNil)))
noncomputable def G_common_in:GS:=(sSeq W_common_in_1
  (sRet (f1 gTuple (asL C_common_in_2))))
noncomputable def g_common_in:GF:=mkFn 3 0 G_common_in
theorem ok_common_in (hf:Is K mg "common_in" s_common_in) (h_parted_in:Cal P w K mg base "parted_in" ["field","one","other"] 3 g_parted_in) (n_tuple:mg "tuple" = none) (m_divided:∀ c g,([("PrimeField",g_PrimeField_divided)]:List (Str × GF)).lookup c = some g→∃ k,k ≤ 2∧MCal P w K mg base c "divided" k g):Cal P w K mg base "common_in" ["field","one","other"] 4 g_common_in:=by
  obtain ⟨f,fd,F,hm⟩:=hf
  have nd:=sc_common_in.nd
  exact ⟨f,fd,fnD F sc_common_in rfl (fun cdv A outer s H E hr => (dss_cons (ds_while (dt_tru (dv 2).w (fun _ => rfl)) (dss_one (ds_asg (de_tup (da_cons (dv 2) (da_cons (de_ix (de_cal h_parted_in hr (da_cons (dv 0) (da_cons (dv 1) (da_cons (dv 2) da_nil)))).w (de_int).w (fun _ _ => rfl)) da_nil))) (dg_tup (pgn_cons (i:=1) nd (pgn_cons (i:=2) nd pgn_nil))))))
      (dss_one (ds_ret (de_t1 dc_tuple (by first | rfl | decide +kernel) n_tuple (DF.de (df_comp (N:=["each","field","one"]) (k:=1) (fr:=[0,1]) (compOkC (sc:=defScope s_common_in) (N0:=["field","one","other"]) (by rfl) (by rfl) (by decide +kernel) (fun _ h => cell_has h)) (by decide) (di_seq (dv 1)) (fun _ _ _ _ => by exact (dg_name (i:=0) (show List.Nodup (α:=Str) ["each","field","one"] by decide +kernel))) (fun _ _ _ _ => difs_nil) (fun _ _ _ _ => by exact (de_meth (tab:=[("PrimeField",g_PrimeField_divided)]) m_divided (hr.mono (by decide)) (dv 1) (da_cons (dv 0) (da_cons (de_ix (dv 2).w (de_neg (de_int).w).w (fun _ _ => rfl)) da_nil)))))).w))))),hm,F.kp,F.binds fun _ _ _ _ _ _ us hl => by obtain ⟨a0,a1,a2,rfl⟩:=len3 (show us.length = 3 from hl); rfl⟩
theorem sc_settled_by:FnScope ["field","top","below","ahead","least"] ["field","top","below"] (defScope s_settled_by):=⟨rfl,rfl,rfl,by decide +kernel,rfl,by decide +kernel,by decide +kernel⟩
noncomputable def W_settled_by_1:GS:=sWhile (asB (f2 gEq (f2 gIx (fVar 2) (fVar 3)) (f1 (gFld ["PrimeField"] "nought") (fVar 0)))) (sAug 3 gAddI (fC (.int 1)))
noncomputable def C_settled_by_2:FO:=fComp 1 [4,0] (iSeq (fSl (fVar 1) (pInt (fVar 3)) pNo)) (.one 0) fTrue (fMeth [("PrimeField",g_PrimeField_divided)] "divided" (fVar 2) (aCons (fVar 0) (aCons (fVar 1) aNil)))
noncomputable def C_settled_by_3:FO:=fComp 1 [4,0] (iSeq (fSl (fVar 2) (pInt (fVar 3)) pNo)) (.one 0) fTrue (fMeth [("PrimeField",g_PrimeField_divided)] "divided" (fVar 2) (aCons (fVar 0) (aCons (fVar 1) aNil)))
noncomputable def G_settled_by:GS:=(sSeq (sSet 3 (fC (.int 0)))
  (sSeq W_settled_by_1
  (sSeq (sSet 4 (f2 gIx (fVar 2) (fVar 3)))
  (sRet (eTup (aCons (f1 gTuple (asL C_settled_by_2)) (aCons (f1 gTuple (asL C_settled_by_3)) aNil)))))))
noncomputable def g_settled_by:GF:=mkFn 3 2 G_settled_by
theorem ok_settled_by (hf:Is K mg "settled_by" s_settled_by) (n_tuple:mg "tuple" = none) (f_nought:∀ c ∈ (["PrimeField"]:List Str),FCal K c "nought") (m_divided:∀ c g,([("PrimeField",g_PrimeField_divided)]:List (Str × GF)).lookup c = some g→∃ k,k ≤ 2∧MCal P w K mg base c "divided" k g):Cal P w K mg base "settled_by" ["field","top","below"] 3 g_settled_by:=by
  obtain ⟨f,fd,F,hm⟩:=hf
  have nd:=sc_settled_by.nd
  exact ⟨f,fd,fnD F sc_settled_by rfl (fun cdv A outer s H E hr => (dss_cons (ds_set (i:=3) nd de_int)
      (dss_cons (ds_while (dt_cmp (deq hr.units) (de_ix (dv 2).w (dv 3).w (fun _ _ => rfl)).w (de_fld (cs:=["PrimeField"]) f_nought (dv 0).w).w (nomark _)) (dss_one (ds_aug (i:=3) nd iadd_d de_int)))
      (dss_cons (ds_set (i:=4) nd (de_ix (dv 2).w (dv 3).w (fun _ _ => rfl)))
      (dss_one (ds_ret (de_tup (da_cons (de_t1 dc_tuple (by first | rfl | decide +kernel) n_tuple (DF.de (df_comp (N:=["each","least","field"]) (k:=1) (fr:=[4,0]) (compOkC (sc:=defScope s_settled_by) (N0:=["field","top","below","ahead","least"]) (by rfl) (by rfl) (by decide +kernel) (fun _ h => cell_has h)) (by decide) (di_seq (de_slice (dv 1) (dp_int (dv 3).w) dp_no)) (fun _ _ _ _ => by exact (dg_name (i:=0) (show List.Nodup (α:=Str) ["each","least","field"] by decide +kernel))) (fun _ _ _ _ => difs_nil) (fun _ _ _ _ => by exact (de_meth (tab:=[("PrimeField",g_PrimeField_divided)]) m_divided (hr.mono (by decide)) (dv 2) (da_cons (dv 0) (da_cons (dv 1) da_nil)))))).w) (da_cons (de_t1 dc_tuple (by first | rfl | decide +kernel) n_tuple (DF.de (df_comp (N:=["each","least","field"]) (k:=1) (fr:=[4,0]) (compOkC (sc:=defScope s_settled_by) (N0:=["field","top","below","ahead","least"]) (by rfl) (by rfl) (by decide +kernel) (fun _ h => cell_has h)) (by decide) (di_seq (de_slice (dv 2) (dp_int (dv 3).w) dp_no)) (fun _ _ _ _ => by exact (dg_name (i:=0) (show List.Nodup (α:=Str) ["each","least","field"] by decide +kernel))) (fun _ _ _ _ => difs_nil) (fun _ _ _ _ => by exact (de_meth (tab:=[("PrimeField",g_PrimeField_divided)]) m_divided (hr.mono (by decide)) (dv 2) (da_cons (dv 0) (da_cons (dv 1) da_nil)))))).w) da_nil))))))))),hm,F.kp,F.binds fun _ _ _ _ _ _ us hl => by obtain ⟨a0,a1,a2,rfl⟩:=len3 (show us.length = 3 from hl); rfl⟩
theorem sc_quotient_by:FnScope ["p","top","below","field","factor"] ["p","top","below"] (defScope s_quotient_by):=⟨rfl,rfl,rfl,by decide +kernel,rfl,by decide +kernel,by decide +kernel⟩
noncomputable def G_quotient_by:GS:=(sSeq (sSet 3 (fMake "PrimeField" ["prime","nought","unit"] gI_PrimeField (aCons (fVar 0) aNil)))
  (sSeq (sIf (asB (f2 gEq (f1 gLen (fVar 2)) (fC (.int 0)))) (fun _ _ => none) sNext)
  (sSeq (sSet 4 (fCall g_common_in (aCons (fVar 3) (aCons (fVar 1) (aCons (fVar 2) aNil)))))
  (sSeq (sPar 1 2 (aCons (f2 gIx (fCall g_parted_in (aCons (fVar 3) (aCons (fVar 1) (aCons (fVar 4) aNil)))) (fC (.int 0))) (aCons (f2 gIx (fCall g_parted_in (aCons (fVar 3) (aCons (fVar 2) (aCons (fVar 4) aNil)))) (fC (.int 0))) aNil)))
  (sSeq (sIf (asB (f2 gEq (f2 gIx (fVar 2) (fC (.int 0))) (fC (.int 0)))) (fun _ _ => none) sNext)
  (sRet (fCall g_settled_by (aCons (fVar 3) (aCons (fVar 1) (aCons (fVar 2) aNil))))))))))
noncomputable def g_quotient_by:GF:=mkFn 3 2 G_quotient_by
theorem ok_quotient_by (hf:Is K mg "quotient_by" s_quotient_by) (h_parted_in:Cal P w K mg base "parted_in" ["field","one","other"] 3 g_parted_in) (h_common_in:Cal P w K mg base "common_in" ["field","one","other"] 4 g_common_in) (h_settled_by:Cal P w K mg base "settled_by" ["field","top","below"] 3 g_settled_by) (n_len:mg "len" = none) (k_PrimeField:KCal P w K mg base "PrimeField" 1 ["prime","nought","unit"] gI_PrimeField):Cal P w K mg base "quotient_by" ["p","top","below"] 5 g_quotient_by:=by
  obtain ⟨f,fd,F,hm⟩:=hf
  have nd:=sc_quotient_by.nd
  exact ⟨f,fd,fnD F sc_quotient_by rfl (fun cdv A outer s H E hr => (dss_cons (ds_set (i:=3) nd (de_make k_PrimeField hr (da_cons (dv 0) da_nil)))
      (dss_cons (ds_if (dt_cmp (deq hr.units) (de_b1 dc_len (by first | rfl | decide +kernel) n_len (dv 2).w).w (de_int).w (nomark _)) (dss_one ds_void) dss_nil)
      (dss_cons (ds_set (i:=4) nd (de_cal h_common_in hr (da_cons (dv 3) (da_cons (dv 1) (da_cons (dv 2) da_nil)))))
      (dss_cons (ds_par (i:=1) (j:=2) nd (by decide) (da_cons (de_ix (de_cal h_parted_in hr (da_cons (dv 3) (da_cons (dv 1) (da_cons (dv 4) da_nil)))).w (de_int).w (fun _ _ => rfl)) (da_cons (de_ix (de_cal h_parted_in hr (da_cons (dv 3) (da_cons (dv 2) (da_cons (dv 4) da_nil)))).w (de_int).w (fun _ _ => rfl)) da_nil)) (by first | rfl | with_unfolding_all rfl))
      (dss_cons (ds_if (dt_cmp (deq hr.units) (de_ix (dv 2).w (de_int).w (fun _ _ => rfl)).w (de_int).w (nomark _)) (dss_one ds_void) dss_nil)
      (dss_one (ds_ret (de_cal h_settled_by hr (da_cons (dv 3) (da_cons (dv 1) (da_cons (dv 2) da_nil)))))))))))),hm,F.kp,F.binds fun _ _ _ _ _ _ us hl => by obtain ⟨a0,a1,a2,rfl⟩:=len3 (show us.length = 3 from hl); rfl⟩
theorem sc__law_begin:FnScope ["_law_script","_law_cells"] ["_law_script"] (defScope s__law_begin):=⟨rfl,rfl,rfl,by decide +kernel,rfl,by decide +kernel,by decide +kernel⟩
theorem ok__law_begin (hf:Is K mg "_law_begin" s__law_begin) (n_list:mg "list" = none):∃ f fd,FnOk P w K mg base CX0 1 f fd ["_law_script"] (spBegin K)∧mg "_law_begin" = some (.ref f)∧PySem.W.keepIn K (.ref f) = true∧Binds K fd ["_law_script"] []:=by
  obtain ⟨f,fd,F,hm⟩:=hf
  refine ⟨f,fd,?_,hm,F.kp,F.binds fun _ _ _ _ _ _ us hl => by obtain ⟨a0,rfl⟩:=len1 (show us.length = 1 from hl); rfl⟩
  have nd:=sc__law_begin.nd
  refine F.ok sc__law_begin (fun vs H Q E x__175 => by obtain ⟨a,ns,e,_⟩:=x__175; subst e; rfl) (fun cdv A outer s H vs Q E hr x__176 => ?_)
  obtain ⟨a,ns,e,sq,hl,q⟩:=x__176
  subst e
  refine ⟨_,pss_cons (ps_set (i:=1) nd rfl (Or.inl rfl) (pe_callTy call_list_of rfl n_list (by first | rfl | decide +kernel) (pa_cons (pe_slice sl_list (pv 0) po_none (po_some pe_int)) pa_nil)))
    (pss_cons (DS.at0 (ds_if (dt_cmp (deq hr.units) (dv 1).w (de_lst da_nil).w (nomark _)) (dss_one (ds_set (i:=1) nd (de_lst (da_cons de_int da_nil)))) dss_nil:DS _ _ G_seven))
    (pss_one (ps_ret (pe_disp (pps_cons pe_str (pv 1) (pps_cons pe_str pe_int pps_nil)) rfl rfl (by simp) (by decide))))),?_⟩
  refine ⟨_,rfl,63,rfl,a,_,rfl,sq,fun p hp => ⟨p,_,rfl,.inl (SqL.of upd_same),fun l hl2 => ?_⟩⟩
  have ecut:cutV (ns.map V.int) none (some 63) = ns.map V.int:=by
    have e63:HT.sIx (ns.map V.int).length (ns.map V.int).length (some ((63:Nat):Int)) = min 63 (ns.map V.int).length:=HT.sIx_nat _ _ _
    unfold cutV
    rw [show (some (63:Int)) = some ((63:Nat):Int) from rfl,e63,HT.sIx_none,List.drop_zero]
    exact List.take_of_length_le (by rw [List.length_map]; omega)
  rw [ecut] at hl2 ⊢
  have hpl:p ≠ l:=fun z => by rw [← z,upd_same] at hl2; cases hl2
  have hHl:H l = none:=by rw [upd_ne (Ne.symm hpl)] at hl2; exact hl2
  generalize hH1:upd (upd H p (.lst (ns.map V.int))) l (.lst (ns.map V.int)) = H1
  have X1:Ext none H H1:=fun b o eb nb => by rw [← hH1,upd_ne (ne_of_none eb hHl),upd_ne (ne_of_none eb hp)]; exact eb
  have L1:H1 l = some (.lst (ns.map V.int)):=by rw [← hH1]; exact upd_same
  refine ⟨[],[.non,.val (.list (ns.map PyData.int))],([],0),_,_,Al.repS (.non (.val (.lst L1 (fun z => nomatch z) (fun a c z => nomatch z) (reps_ints _ _ _ _ ns)) .nil)) (fun q hq => nomatch hq) X1,(fun a c h => nomatch h),seven_run ns _ _,fun ow' σ' H2 R' S' fr => ?_⟩
  · obtain ⟨v,hv,rv⟩:=R'.val 1 _ rfl
    cases rv with
    | @lst c vs _ hc n1 n2 rs =>
      have evs:=ints_of_reps rs
      subst evs
      intro d hd
      refine ⟨_,hv,(show (upd H2 d (.dK [])) d = some (.dK []) from upd_same),[(Sum.inr ("cells":Str),V.ref c),(Sum.inr ("turn":Str),V.int 0)],rfl,(by show 2 ≤ 15; decide),?_⟩
      have X2:∀ b o,H b = some o→H2 b = some o:=fun b o eb => R'.ext b o eb (fun a c z => nomatch z)
      have hHd:H d = none:=by
        cases e9:H d with
        | none => rfl
        | some o => rw [X2 d o e9] at hd; cases hd
      refine q d c _ (fun b o eb => ?_) ?_ ?_
      · rw [upd_ne (ne_of_none eb hHd),upd_ne (ne_of_none eb hHd)]; exact X2 b o eb
      · rw [upd_same]; rfl
      · rw [upd_ne (ne_of_none hc hd),upd_ne (ne_of_none hc hd)]; exact hc

theorem take_cut {ds:List D} {st:Sx} {r:D × Sx} (e:g__law_take ds st = some r):∃ many,ds = [.dict [],.int many]∧takeOk st many = true∧takeF st many = r:=by
  unfold g__law_take at e
  split at e
  · split at e
    · next h => exact ⟨_,rfl,h,Option.some.inj e⟩
    · cases e
  · cases e
theorem rep_int {Z:Zt} {H:Hp} {A:List Addr} {v:V} {d:D} (r:Rep K Z H A v d):∀ {n:Int},d = .int n→v = .int n:=by
  cases r <;> intro n e <;> cases e
  rfl
theorem rep_st {Z:Zt} {H:Hp} {A:List Addr} {v:V} {d:D} (r:Rep K Z H A v d):d = .dict []→∃ a c,v = .ref a∧Z = some (a,c):=by
  cases r <;> intro e <;> cases e
  exact ⟨_,_,rfl,by assumption⟩
theorem take_vs {Z:Zt} {H:Hp} {A:List Addr} {vs:List V} {many:Int} (r:Reps K Z H A vs [.dict [],.int many]):∃ a c,vs = [.ref a,.int many]∧Z = some (a,c):=by
  obtain ⟨v0,v1,rfl⟩:=len2 (show vs.length = 2 from r.length)
  obtain ⟨a,c,rfl,hZ⟩:=rep_st r.head rfl
  cases r with
  | cons _ r => cases rep_int r.head rfl; exact ⟨a,c,rfl,hZ⟩
section
variable {u A:TS} {E:Ends} {σ:L2.St} {H:Hp} {a c:Addr} {t:Int}
theorem tk_turn (h0:σ[0]? = some (some (.ref a))) (hA:H a = some (.dK (stDict c t))) (q:u E (σ.set 2 (some (.int (t + 1)))) H) :
    tSeq (tAsg (tOp (rI0 fun i j => .int (i + j)) (tDGet (tVar 0) (tC (.str "turn"))) (tC (.int 1))) (gName 2)) u E σ H :=
  ⟨_,h0,a,_,rfl,(st_turn c t ▸ DGet.k (k:=Sum.inr "turn") hA),_,_,rfl,rfl,q⟩
theorem tk_put {v:Int} (h0:σ[0]? = some (some (.ref a))) (h2:σ[2]? = some (some (.int v))) (hA:H a = some (.dK (stDict c t))) (q:u E σ (upd H a (.dK (stDict c v)))) :
    tSeq (sDPut (tVar 0) (tC (.str "turn")) (tVar 2)) u E σ H :=
  ⟨_,h2,_,h0,a,_,rfl,st_put c t v ▸ DPut.k (k:=Sum.inr "turn") hA (small1000 (by show 2 ≤ 1000; decide)),q⟩
theorem tk_place {v:Int} {xs:List V} (h0:σ[0]? = some (some (.ref a))) (h2:σ[2]? = some (some (.int v))) (hA:H a = some (.dK (stDict c t))) (hc:H c = some (.lst xs)) (hn:(xs.length:Int) ≠ 0) (q:u E (σ.set 3 (some (.int (v.fmod xs.length)))) H) :
    tSeq (tAsg (tOp (rI (fun _ j => j ≠ 0) fun i j => .int (i.fmod j)) (tVar 2) (tCB (fun xs H Q => ∃ p ys,xs = [.ref p]∧(SqL K H p ys ∨ SqT K H p ys)∧Q (.int ys.length) H) (tCons (tDGet (tVar 0) (tC (.str "cells"))) tNil))) (gName 3)) u E σ H :=
  ⟨_,h2,_,h0,a,_,rfl,(st_cells c t ▸ DGet.k (k:=Sum.inr "cells") hA),c,_,rfl,.inl (SqL.of hc),_,_,rfl,rfl,hn,q⟩
theorem tk_cell {v:Int} {xs:List V} {x:V} (h0:σ[0]? = some (some (.ref a))) (h3:σ[3]? = some (some (.int v))) (hA:H a = some (.dK (stDict c t))) (hc:H c = some (.lst xs)) (hx:atI xs v = some x) (q:u E (σ.set 4 (some x)) H) :
    tSeq (tAsg (tOp (rIxL K) (tDGet (tVar 0) (tC (.str "cells"))) (tVar 3)) (gName 4)) u E σ H :=
  ⟨_,h0,a,_,rfl,(st_cells c t ▸ DGet.k (k:=Sum.inr "cells") hA),_,h3,c,_,_,x,rfl,rfl,SqL.of hc,hx,q⟩
theorem ten18:((10:Int) ^ (18:Int).toNat) = 1000000000000000000:=by decide
theorem tk_if {x:Int} (h4:σ[4]? = some (some (.int x))) (q1:1000000000000000000 ≤ x→A { E with nx:=u E } σ H) (q2:¬ 1000000000000000000 ≤ x→u E σ H) :
    tSeq (tIfS (tTest (tOp (rI0 fun i j => .bl (decide (j ≤ i))) (tVar 4) (tOp (rI CPow fun i j => .int (i ^ j.toNat)) (tC (.int 10)) (tC (.int 18))))) A tNext) u E σ H :=
  ⟨_,h4,_,_,rfl,rfl,⟨by decide,by decide,by decide⟩,_,_,rfl,rfl,_,rfl,ite2 (fun h => q1 (ten18 ▸ of_decide_eq_true h)) (fun h => q2 fun z => h (decide_eq_true (ten18.symm ▸ z)))⟩
theorem tk_share {x m v:Int} {xs:List V} {j:Nat} (h0:σ[0]? = some (some (.ref a))) (h1:σ[1]? = some (some (.int m))) (h3:σ[3]? = some (some (.int v))) (h4:σ[4]? = some (some (.int x))) (h5:5 < σ.length) (hA:H a = some (.dK (stDict c t))) (hc:H c = some (.lst xs)) (hd:divOk x m = true) (hj:ixN xs.length v = some j)
    (q:∀ p,H p = none→E.rt (.int (x.fmod m)) (upd (upd H p (.tup [.int (x.fdiv m),.int (x.fmod m)])) c (.lst (xs.set j (.int (x.fdiv m)))))) :
    tSeq (tAsg (tCB (fun xs H Q => ∃ i j,xs = [.int i,.int j]∧divOk i j = true∧∀ p,H p = none→Q (.ref p) (upd H p (.tup [.int (i.fdiv j),.int (i.fmod j)]))) (tCons (tVar 4) (tCons (tVar 1) tNil))) (gTup K 2 (gCons (gSub (tDGet (tVar 0) (tC (.str "cells"))) (tVar 3) rSetL) (gCons (gName 5) gNil)))) (tRet (tVar 5)) E σ H :=
  ⟨_,h4,_,h1,_,_,rfl,hd,fun p hp => ⟨p,_,rfl,SqT.of upd_same,rfl,_,_,rfl,_,h0,a,_,rfl,(st_cells c t ▸ DGet.k (k:=Sum.inr "cells") (by rw [upd_ne (ne_of_none hA hp)]; exact hA)),_,h3,c,_,_,j,rfl,rfl,(by rw [upd_ne (ne_of_none hc hp)]; exact hc),hj,_,_,rfl,rfl,_,List.getElem?_set_self h5,q p hp⟩⟩
end
theorem sc__law_take:FnScope ["_law_state","_law_many","_law_turn","_law_place","_law_cell","_law_digit","_law_mixed"] ["_law_state","_law_many"] (defScope s__law_take):=⟨rfl,rfl,rfl,by decide +kernel,rfl,by decide +kernel,by decide +kernel⟩
theorem ok__law_take (hf:Is K mg "_law_take" s__law_take) (n_len:mg "len" = none) (n_divmod:mg "divmod" = none):Cal P w K mg base "_law_take" ["_law_state","_law_many"] 1 g__law_take:=by
  obtain ⟨f,fd,F,hm⟩:=hf
  refine ⟨f,fd,?_,hm,F.kp,F.binds fun _ _ _ _ _ _ us hl => by obtain ⟨a0,a1,rfl⟩:=len2 (show us.length = 2 from hl); rfl⟩
  have nd:=sc__law_take.nd
  refine F.ok sc__law_take (fun vs H Q E x__177 => ?_) (fun cdv A outer s H vs Q E hr x__178 => ?_)
  · obtain ⟨Z,A0,ds,st,d,st',r,_,_,e,_⟩:=x__177
    obtain ⟨m,rfl,_⟩:=take_cut e
    exact r.length
  · obtain ⟨Z,A0,ds,st,d,st',r,hA,S,e,q⟩:=x__178
    obtain ⟨many,rfl,hok,e⟩:=take_cut e
    obtain ⟨a,c,rfl,hZ⟩:=take_vs r
    obtain ⟨cells,turn⟩:=st
    obtain ⟨S1,S2⟩:=S a c hZ
    have ac:a ≠ c:=ne_of S1 S2 (by intro z; cases z)
    simp only [takeOk,Bool.and_eq_true,decide_eq_true_eq] at hok
    obtain ⟨⟨⟨⟨⟨k1,k2⟩,k3⟩,k4⟩,k5⟩,k6⟩:=hok
    have hu:=hu_of hr
    have pl0:0 ≤ (turn + 1).fmod (cells.length:Int):=by rw [Int.fmod_eq_emod_of_nonneg _ (by omega)]; exact Int.emod_nonneg _ (by omega)
    have pl1:(turn + 1).fmod (cells.length:Int) < (cells.length:Int):=by rw [Int.fmod_eq_emod_of_nonneg _ (by omega)]; exact Int.emod_lt_of_pos _ (by omega)
    have plc:plcOf (cells,turn) < cells.length:=by unfold plcOf; dsimp only; omega
    have ecell:cells[plcOf (cells,turn)]? = some (celOf (cells,turn)):=by
      unfold celOf
      rw [List.getD_eq_getElem?_getD,List.getElem?_eq_getElem plc]; rfl
    refine ⟨_,pss_cons (ps_set (i:=2) nd rfl (Or.inl rfl) (pe_op op_add (pe_dget hu (pv 0) pe_str (fun _ _ => rfl)) pe_int))
      (pss_cons (ps_dput hu (pv 0) pe_str (pv 2) rfl)
      (pss_cons (ps_set (i:=3) nd rfl (Or.inl rfl) (pe_op op_modN (pv 2) (pe_callB call_len_seq rfl n_len PySem.boot_len (pa_cons (pe_dget hu (pv 0) pe_str (fun _ _ => rfl)) pa_nil))))
      (pss_cons (ps_set (i:=4) nd rfl (Or.inl rfl) (pe_ix ix_list (pe_dget hu (pv 0) pe_str (fun _ _ => rfl)) (pv 3) (fun _ _ => rfl)))
      (pss_cons (ps_if (pt_cmpR op_ge (pv 4) (pe_op op_pow pe_int pe_int) (nomark _))
        (pss_cons (ps_asg (pe_callB call_divmodB rfl n_divmod (by first | rfl | decide +kernel) (pa_cons (pv 4) (pa_cons (pv 1) pa_nil))) (pg_tup rfl (pgs_cons (pg_sub (pe_dget hu (pv 0) pe_str (fun _ _ => rfl)) (pv 3) set_list) (pgs_cons (pg_name (i:=5) nd rfl (Or.inl rfl)) pgs_nil))))
        (pss_one (ps_ret (pv 5)))) pss_nil)
      ((dss_cons (ds_set (i:=6) nd (de_op dmod_int (de_op dmul_int (de_op dadd_int (de_op dadd_int (de_op dmod_int (dv 4).w de_int.w).w (de_op dmul_int (de_op dmul_int (dv 2).w (dv 2).w).w de_int.w).w).w de_int.w).w de_int.w).w de_int.w))
        (dss_cons (ds_set (i:=6) nd (de_op dmod_int (de_op dmul_int (dv 6).w (dv 6).w).w de_int.w))
        (dss_one (ds_ret (de_op dmod_int (de_op ddiv_int (de_op dmod_int (de_op dmul_int (de_op dadd_int (dv 6).w (de_op dmul_int (dv 2).w de_int.w).w).w de_int.w).w de_int.w).w de_int.w).w (dv 1).w)))):DSs _ _ G_mixed) Z A0))))),?_⟩
    refine tk_turn rfl S1 ?_
    refine tk_put rfl rfl S1 ?_
    have A1:(upd H a (.dK (stDict c (turn + 1)))) a = some (.dK (stDict c (turn + 1))):=upd_same
    have A2:(upd H a (.dK (stDict c (turn + 1)))) c = some (.lst (cells.map V.int)):=by rw [upd_ne (Ne.symm ac)]; exact S2
    have X1:Ext Z H (upd H a (.dK (stDict c (turn + 1)))):=fun b o eb nb => by rw [upd_ne (nb a c hZ).1]; exact eb
    generalize upd H a (.dK (stDict c (turn + 1))) = H1 at *
    have el:((cells.map V.int).length:Int) = cells.length:=by rw [List.length_map]
    refine tk_place (xs:=cells.map V.int) rfl rfl A1 A2 (by omega) ?_
    refine tk_cell (x:=.int (celOf (cells,turn))) rfl rfl A1 A2 ?_ ?_
    rotate_left
    refine tk_if rfl (fun hc => ?_) (fun hc => ?_)
    rotate_left 2
    · rw [el,show (turn + 1).fmod (cells.length:Int) = ((plcOf (cells,turn):Nat):Int) from by unfold plcOf; dsimp only; omega]
      exact atI_nat (by rw [List.getElem?_map,ecell]; rfl)
    · have et:takeF (cells,turn) many = (.int ((celOf (cells,turn)).fmod many),(cells.set (plcOf (cells,turn)) ((celOf (cells,turn)).fdiv many),turn + 1)):=by unfold takeF; rw [if_pos hc]
      rw [et] at e
      cases e
      refine tk_share (j:=plcOf (cells,turn)) rfl rfl rfl rfl (Nat.le_of_ble_eq_true rfl) A1 A2 (by unfold divOk; simp only [Bool.and_eq_true,decide_eq_true_eq]; exact ⟨by omega,k2⟩) ?_ fun p hp => q _ _ (fun b o eb nb => ?_) (fun a' c' h' => ?_) (.int _)
      · rw [List.length_map]
        unfold ixN plcOf
        rw [if_pos pl0,if_pos pl1]
      · have eb1:=X1 b o eb nb
        rw [upd_ne (nb a c hZ).2,upd_ne (ne_of_none eb1 hp)]; exact eb1
      · rw [hZ] at h'
        cases h'
        refine ⟨?_,?_⟩
        · rw [upd_ne ac,upd_ne (ne_of_none A1 hp)]; exact A1
        · rw [upd_same,List.map_set]
    · have et:takeF (cells,turn) many = (.int (mix (celOf (cells,turn)) (turn + 1) many),(cells,turn + 1)):=by unfold takeF; rw [if_neg hc]
      rw [et] at e
      cases e
      refine ⟨[],[.non,.val (.int many),.val (.int (turn + 1)),.non,.val (.int (celOf (cells,turn))),.non,.non],(cells,turn + 1),.ret (.int (mix (celOf (cells,turn)) (turn + 1) many)),(cells,turn + 1),?_,fun a' c' h' => by rw [hZ] at h'; cases h'; exact ⟨A1,A2⟩,mixed_run (by omega) (by omega) k1,fun v H' x1 S1 r => q v H' x1 S1 r⟩
      exact Al.repS (.non (.val (.int _) (.val (.int _) (.non (.val (.int _) (.non (.non .nil))))))) (fun q hq => ⟨let ⟨o,ho⟩:=(hA q hq).1; ⟨o,X1 q o ho (hA q hq).2⟩,(hA q hq).2⟩) X1

theorem sc__law_same:FnScope ["_law_found","_law_due"] ["_law_found","_law_due"] (defScope s__law_same):=⟨rfl,rfl,rfl,by decide +kernel,rfl,by decide +kernel,by decide +kernel⟩
noncomputable def G__law_same (g__law_same:GF):GS:=(sSeq (sIf (asB (f2 gIs (fVar 1) (fC .none))) (sRet (f2 gIs (fVar 0) (fC .none))) sNext)
  (sSeq (sIf (tOrF (asT (f1 (gInst "list") (fVar 1))) (asT (f1 (gInst "tuple") (fVar 1)))) (sSeq (sIf (asB (f2 gNe (f1 (gInst "list") (fVar 0)) (f1 (gInst "list") (fVar 1)))) (sRet (fC (.bool false))) sNext)
  (sSeq (sIf (tOrF (asB (f2 gNe (f1 (gInst "tuple") (fVar 0)) (f1 (gInst "tuple") (fVar 1)))) (asB (f2 gNe (f1 gLen (fVar 0)) (f1 gLen (fVar 1))))) (sRet (fC (.bool false))) sNext)
  (sRet (f1 gAll (asL (fComp 2 [] (iZipF (fVar 0) (fVar 1)) (.tup [0,1]) fTrue (fCall g__law_same (aCons (fVar 0) (aCons (fVar 1) aNil))))))))) sNext)
  (sSeq (sIf (asT (f1 (gInst "str") (fVar 1))) (sRet (eAnd (f1 (gInst "str") (fVar 0)) (f2 gEq (fVar 0) (fVar 1)))) sNext)
  (sRet (eAnd (f1 (gInst "int") (fVar 0)) (eAnd (f1 gNot (f1 (gInst "bool") (fVar 0))) (f2 gEq (fVar 0) (fVar 1))))))))
noncomputable def r__law_same:Nat→GF
  | 0 => fun _ _ => none
  | n + 1 => mkFn 2 0 (G__law_same (r__law_same n))
theorem rec__law_same (hf:Is K mg "_law_same" s__law_same) (n_all:mg "all" = none) (n_bool:mg "bool" = none) (n_int:mg "int" = none) (n_isinstance:mg "isinstance" = none) (n_len:mg "len" = none) (n_list:mg "list" = none) (n_str:mg "str" = none) (n_tuple:mg "tuple" = none) (n_zip:mg "zip" = none):∀ n,Cal P w K mg base "_law_same" ["_law_found","_law_due"] (1 + n) (r__law_same n)
  | 0 => by
    obtain ⟨f,fd,F,hm⟩:=hf
    exact ⟨f,fd,⟨fun _ _ _ _ h => (spD_none h).elim,fun _ _ _ _ _ _ _ _ _ _ _ _ _ h => (spD_none h).elim⟩,hm,F.kp,F.binds fun _ _ _ _ _ _ us hl => by obtain ⟨a0,a1,rfl⟩:=len2 (show us.length = 2 from hl); rfl⟩
  | n + 1 => by
    have ih:=rec__law_same hf n_all n_bool n_int n_isinstance n_len n_list n_str n_tuple n_zip n
    obtain ⟨f,fd,F,hm⟩:=hf
    have nd:=sc__law_same.nd
    exact ⟨f,fd,fnD (k:=1 + n) F sc__law_same rfl (fun cdv A outer s H E hr => (dss_cons (ds_if (dt_cmp dis (dv 1).w (de_non).w (nomark _)) (dss_one (ds_ret (de_cmp dis (dv 0).w (de_non).w (nomark _)))) dss_nil)
      (dss_cons (ds_if (dw_or (dt_tru (de_inst (T:="list") (by decide) (by first | rfl | decide +kernel) n_isinstance n_list (dv 1).w).w (fun _ => rfl)) (dw_or1 (dt_tru (de_inst (T:="tuple") (by decide) (by first | rfl | decide +kernel) n_isinstance n_tuple (dv 1).w).w (fun _ => rfl)))).t (dss_cons (ds_if (dt_cmp (dne hr.units) (de_inst (T:="list") (by decide) (by first | rfl | decide +kernel) n_isinstance n_list (dv 0).w).w (de_inst (T:="list") (by decide) (by first | rfl | decide +kernel) n_isinstance n_list (dv 1).w).w (nomark _)) (dss_one (ds_ret de_bl)) dss_nil)
      (dss_cons (ds_if (dw_or (dt_cmp (dne hr.units) (de_inst (T:="tuple") (by decide) (by first | rfl | decide +kernel) n_isinstance n_tuple (dv 0).w).w (de_inst (T:="tuple") (by decide) (by first | rfl | decide +kernel) n_isinstance n_tuple (dv 1).w).w (nomark _)) (dw_or1 (dt_cmp (dne hr.units) (de_b1 dc_len (by first | rfl | decide +kernel) n_len (dv 0).w).w (de_b1 dc_len (by first | rfl | decide +kernel) n_len (dv 1).w).w (nomark _)))).t (dss_one (ds_ret de_bl)) dss_nil)
      (dss_one (ds_ret (de_b1 (dc_all rfl) (by first | rfl | decide +kernel) n_all (DF.de (df_comp (N:=["_law_one","_law_other"]) (k:=2) (fr:=[]) (compOk0 rfl (by decide +kernel) (by decide +kernel) (by decide +kernel) rfl) (by decide) (di_zip n_zip (dv 0) (dv 1)) (fun _ _ _ _ => by exact (dg_tup (pgn_cons (i:=0) (show List.Nodup (α:=Str) ["_law_one","_law_other"] by decide +kernel) (pgn_cons (i:=1) (show List.Nodup (α:=Str) ["_law_one","_law_other"] by decide +kernel) pgn_nil)))) (fun _ _ _ _ => difs_nil) (fun _ _ _ _ => by exact (de_cal ih hr (da_cons (dv 0) (da_cons (dv 1) da_nil)) (Nat.le_refl _))))).w))))) dss_nil)
      (dss_cons (ds_if (dt_tru (de_inst (T:="str") (by decide) (by first | rfl | decide +kernel) n_isinstance n_str (dv 1).w).w (fun _ => rfl)) (dss_one (ds_ret (de_and (de_inst (T:="str") (by decide) (by first | rfl | decide +kernel) n_isinstance n_str (dv 0).w) (de_one (de_cmp (deq hr.units) (dv 0).w (dv 1).w (nomark _)))))) dss_nil)
      (dss_one (ds_ret (de_and (de_inst (T:="int") (by decide) (by first | rfl | decide +kernel) n_isinstance n_int (dv 0).w) (de_and (de_not (de_inst (T:="bool") (by decide) (by first | rfl | decide +kernel) n_isinstance n_bool (dv 0).w)) (de_one (de_cmp (deq hr.units) (dv 0).w (dv 1).w (nomark _))))))))))),hm,F.kp,F.binds fun _ _ _ _ _ _ us hl => by obtain ⟨a0,a1,rfl⟩:=len2 (show us.length = 2 from hl); rfl⟩
noncomputable def g__law_same:GF:=r__law_same 6
theorem sc__law_prime:FnScope ["_law_state"] ["_law_state"] (defScope s__law_prime):=⟨rfl,rfl,rfl,by decide +kernel,rfl,by decide +kernel,by decide +kernel⟩
noncomputable def G__law_prime:GS:=(sRet (f2 gIx (fC (.list [(.int 2),(.int 3),(.int 5),(.int 7),(.int 11),(.int 13),(.int 101),(.int 997)])) (fCall g__law_take (aCons (fVar 0) (aCons (fC (.int 8)) aNil)))))
noncomputable def g__law_prime:GF:=mkFn 1 0 G__law_prime
theorem ok__law_prime (hf:Is K mg "_law_prime" s__law_prime) (h__law_take:Cal P w K mg base "_law_take" ["_law_state","_law_many"] 1 g__law_take):Cal P w K mg base "_law_prime" ["_law_state"] 2 g__law_prime:=by
  obtain ⟨f,fd,F,hm⟩:=hf
  have nd:=sc__law_prime.nd
  exact ⟨f,fd,fnD F sc__law_prime rfl (fun cdv A outer s H E hr => (dss_one (ds_ret (de_ix (de_cst (.lst (by decide) (.cons .int (.cons .int (.cons .int (.cons .int (.cons .int (.cons .int (.cons .int (.cons .int .nil)))))))))).w (de_cal h__law_take hr (da_cons (dv 0) (da_cons de_int da_nil))).w (fun _ _ => rfl))))),hm,F.kp,F.binds fun _ _ _ _ _ _ us hl => by obtain ⟨a0,rfl⟩:=len1 (show us.length = 1 from hl); rfl⟩
theorem sc__law_inverse:FnScope ["_law_p","_law_one","_law_found","_law_base","_law_left"] ["_law_p","_law_one"] (defScope s__law_inverse):=⟨rfl,rfl,rfl,by decide +kernel,rfl,by decide +kernel,by decide +kernel⟩
noncomputable def W__law_inverse_1:GS:=sWhile (asB (f2 gGt (fVar 4) (fC (.int 0)))) (sSeq (sIf (asB (f2 gEq (f2 gModI (fVar 4) (fC (.int 2))) (fC (.int 1)))) (sSet 2 (f2 gModI (f2 gMulI (fVar 2) (fVar 3)) (fVar 0))) sNext)
  (sSeq (sSet 3 (f2 gModI (f2 gMulI (fVar 3) (fVar 3)) (fVar 0)))
  (sSet 4 (f2 gDivI (fVar 4) (fC (.int 2))))))
noncomputable def G__law_inverse:GS:=(sSeq (sPar3 2 3 4 (aCons (fC (.int 1)) (aCons (f2 gModI (fVar 1) (fVar 0)) (aCons (f2 gSubI (fVar 0) (fC (.int 2))) aNil))))
  (sSeq W__law_inverse_1
  (sRet (fVar 2))))
noncomputable def g__law_inverse:GF:=mkFn 2 3 G__law_inverse
theorem ok__law_inverse (hf:Is K mg "_law_inverse" s__law_inverse):Cal P w K mg base "_law_inverse" ["_law_p","_law_one"] 1 g__law_inverse:=by
  obtain ⟨f,fd,F,hm⟩:=hf
  have nd:=sc__law_inverse.nd
  exact ⟨f,fd,fnD F sc__law_inverse rfl (fun cdv A outer s H E hr => (dss_cons (ds_par3 (i:=2) (j:=3) (k:=4) nd (by decide) (by decide) (by decide) (da_cons de_int (da_cons (de_op dmod_int (dv 1).w (dv 0).w) (da_cons (de_op dsub_int (dv 0).w (de_int).w) da_nil))) (by first | rfl | with_unfolding_all rfl))
      (dss_cons (ds_while (dt_cmp dgt (dv 4).w (de_int).w (nomark _)) (dss_cons (ds_if (dt_cmp (deq hr.units) (de_op dmod_int (dv 4).w (de_int).w).w (de_int).w (nomark _)) (dss_one (ds_set (i:=2) nd (de_op dmod_int (de_op dmul_int (dv 2).w (dv 3).w).w (dv 0).w))) dss_nil)
      (dss_cons (ds_set (i:=3) nd (de_op dmod_int (de_op dmul_int (dv 3).w (dv 3).w).w (dv 0).w))
      (dss_one (ds_set (i:=4) nd (de_op ddiv_int (dv 4).w (de_int).w))))))
      (dss_one (ds_ret (dv 2)))))),hm,F.kp,F.binds fun _ _ _ _ _ _ us hl => by obtain ⟨a0,a1,rfl⟩:=len2 (show us.length = 2 from hl); rfl⟩
theorem sc__law_cut:FnScope ["_law_numbers","_law_found"] ["_law_numbers"] (defScope s__law_cut):=⟨rfl,rfl,rfl,by decide +kernel,rfl,by decide +kernel,by decide +kernel⟩
noncomputable def W__law_cut_1:GS:=sWhile (tAndF (asB (f2 gNe (fVarW 1) (eLst aNil))) (asB (f2 gEq (f2 gIx (fVarW 1) (f1 gNeg (fC (.int 1)))) (fC (.int 0))))) (sPop 1)
noncomputable def G__law_cut:GS:=(sSeq (sSetO 1 (oList (fVar 0)))
  (sSeq W__law_cut_1
  (sRet (f1 gTuple (fVarW 1)))))
noncomputable def g__law_cut:GF:=mkFn 1 1 G__law_cut
theorem ok__law_cut (hf:Is K mg "_law_cut" s__law_cut) (n_list:mg "list" = none) (n_tuple:mg "tuple" = none):Cal P w K mg base "_law_cut" ["_law_numbers"] 1 g__law_cut:=by
  obtain ⟨f,fd,F,hm⟩:=hf
  have nd:=sc__law_cut.nd
  exact ⟨f,fd,fnD F sc__law_cut rfl (fun cdv A outer s H E hr => (dss_cons (ds_setO (i:=1) nd (df_list (by first | rfl | decide +kernel) n_list (dv 0).w))
      (dss_cons (ds_while (dw_and (dt_cmp (dne hr.units) (dvw 1) (de_lst da_nil).w (nomark _)) (dw_and1 (dt_cmp (deq hr.units) (de_ix (dvw 1) (de_neg (de_int).w).w (fun _ _ => rfl)).w (de_int).w (nomark _)))).t (dss_one (ds_pop (i:=1) (pv 1))))
      (dss_one (ds_ret (de_t1 dc_tuple (by first | rfl | decide +kernel) n_tuple (dvw 1))))))),hm,F.kp,F.binds fun _ _ _ _ _ _ us hl => by obtain ⟨a0,rfl⟩:=len1 (show us.length = 1 from hl); rfl⟩
theorem sc__law_times_by:FnScope ["_law_p","_law_one","_law_other","_law_found","_law_i","_law_left","_law_j","_law_right_here"] ["_law_p","_law_one","_law_other"] (defScope s__law_times_by):=⟨rfl,rfl,rfl,by decide +kernel,rfl,by decide +kernel,by decide +kernel⟩
noncomputable def B__law_times_by_1:GS:=(sPut 3 (f2 gAdd (fVar 4) (fVar 6)) (f2 gModI (f2 gAdd (f2 gIx (fVarW 3) (f2 gAdd (fVar 4) (fVar 6))) (f2 gMulI (fVar 5) (fVar 7))) (fVar 0)))
noncomputable def L__law_times_by_2:GS:=sFor (iEnumF (fVar 2)) (.tup [6,7]) B__law_times_by_1
noncomputable def B__law_times_by_3:GS:=L__law_times_by_2
noncomputable def L__law_times_by_4:GS:=sFor (iEnumF (fVar 1)) (.tup [4,5]) B__law_times_by_3
noncomputable def G__law_times_by:GS:=(sSeq (sSetO 3 (o2 lRep (eLst (aCons (fC (.int 0)) aNil)) (f2 gMax (fC (.int 0)) (f2 gSubI (f2 gAdd (f1 gLen (fVar 1)) (f1 gLen (fVar 2))) (fC (.int 1))))))
  (sSeq L__law_times_by_4
  (sSeq (sFrz 3) (sRet (fCall g__law_cut (aCons (fVar 3) aNil))))))
noncomputable def g__law_times_by:GF:=mkFn 3 5 G__law_times_by
theorem ok__law_times_by (hf:Is K mg "_law_times_by" s__law_times_by) (h__law_cut:Cal P w K mg base "_law_cut" ["_law_numbers"] 1 g__law_cut) (n_enumerate:mg "enumerate" = none) (n_len:mg "len" = none) (n_max:mg "max" = none):Cal P w K mg base "_law_times_by" ["_law_p","_law_one","_law_other"] 2 g__law_times_by:=by
  obtain ⟨f,fd,F,hm⟩:=hf
  have nd:=sc__law_times_by.nd
  exact ⟨f,fd,fnD F sc__law_times_by rfl (fun cdv A outer s H E hr => (dss_cons (ds_setO (i:=3) nd (df_rep (de_lst (da_cons de_int da_nil)).w (de_b2 (dc_max rfl) (by first | rfl | decide +kernel) n_max (de_int).w (de_op dsub_int (de_op dadd (de_b1 dc_len (by first | rfl | decide +kernel) n_len (dv 1).w).w (de_b1 dc_len (by first | rfl | decide +kernel) n_len (dv 2).w).w).w (de_int).w).w).w))
      (dss_cons (ds_for (di_enum n_enumerate (dv 1)) (dg_tup (pgn_cons (i:=4) nd (pgn_cons (i:=5) nd pgn_nil))) (dss_one (ds_for (di_enum n_enumerate (dv 2)) (dg_tup (pgn_cons (i:=6) nd (pgn_cons (i:=7) nd pgn_nil))) (dss_one (ds_put (i:=3) (pv 3) (de_op dadd (dv 4).w (dv 6).w).w (de_op dmod_int (de_op dadd (de_ix (dvw 3) (de_op dadd (dv 4).w (dv 6).w).w (fun _ _ => rfl)).w (de_op dmul_int (dv 5).w (dv 7).w).w).w (dv 0).w))))))
      (dss_one (ds_frz 3 (ds_ret (de_cal h__law_cut hr (da_cons (dv 3) da_nil)))))))),hm,F.kp,F.binds fun _ _ _ _ _ _ us hl => by obtain ⟨a0,a1,a2,rfl⟩:=len3 (show us.length = 3 from hl); rfl⟩
theorem sc__law_left_by:FnScope ["_law_p","_law_one","_law_other","_law_found","_law_share","_law_k"] ["_law_p","_law_one","_law_other"] (defScope s__law_left_by):=⟨rfl,rfl,rfl,by decide +kernel,rfl,by decide +kernel,by decide +kernel⟩
noncomputable def B__law_left_by_1:GS:=(sPut 3 (f1 gNeg (fVar 5)) (f2 gModI (f2 gSubI (f2 gIx (fVarW 3) (f1 gNeg (fVar 5))) (f2 gMulI (fVar 4) (f2 gIx (fVar 2) (f1 gNeg (fVar 5))))) (fVar 0)))
noncomputable def L__law_left_by_2:GS:=sFor (iRange2 (fC (.int 1)) (f2 gAdd (f1 gLen (fVar 2)) (fC (.int 1)))) (.one 5) B__law_left_by_1
noncomputable def W__law_left_by_3:GS:=sWhile (asB (f2 gGe (f1 gLen (fVarW 3)) (f1 gLen (fVar 2)))) (sSeq (sSet 4 (f2 gModI (f2 gMulI (f2 gIx (fVarW 3) (f1 gNeg (fC (.int 1)))) (fCall g__law_inverse (aCons (fVar 0) (aCons (f2 gIx (fVar 2) (f1 gNeg (fC (.int 1)))) aNil)))) (fVar 0)))
  (sSeq L__law_left_by_2
  (sSeq (sFrz 3) (sSetO 3 (oList (fCall g__law_cut (aCons (fSl (fVar 3) pNo (pInt (f1 gNeg (fC (.int 1))))) aNil)))))))
noncomputable def G__law_left_by:GS:=(sSeq (sSetO 3 (oList (fVar 1)))
  (sSeq W__law_left_by_3
  (sRet (f1 gTuple (fVarW 3)))))
noncomputable def g__law_left_by:GF:=mkFn 3 3 G__law_left_by
theorem ok__law_left_by (hf:Is K mg "_law_left_by" s__law_left_by) (h__law_inverse:Cal P w K mg base "_law_inverse" ["_law_p","_law_one"] 1 g__law_inverse) (h__law_cut:Cal P w K mg base "_law_cut" ["_law_numbers"] 1 g__law_cut) (n_len:mg "len" = none) (n_list:mg "list" = none) (n_range:mg "range" = none) (n_tuple:mg "tuple" = none):Cal P w K mg base "_law_left_by" ["_law_p","_law_one","_law_other"] 2 g__law_left_by:=by
  obtain ⟨f,fd,F,hm⟩:=hf
  have nd:=sc__law_left_by.nd
  exact ⟨f,fd,fnD F sc__law_left_by rfl (fun cdv A outer s H E hr => (dss_cons (ds_setO (i:=3) nd (df_list (by first | rfl | decide +kernel) n_list (dv 1).w))
      (dss_cons (ds_while (dt_cmp dge (de_b1 dc_len (by first | rfl | decide +kernel) n_len (dvw 3)).w (de_b1 dc_len (by first | rfl | decide +kernel) n_len (dv 2).w).w (nomark _)) (dss_cons (ds_set (i:=4) nd (de_op dmod_int (de_op dmul_int (de_ix (dvw 3) (de_neg (de_int).w).w (fun _ _ => rfl)).w (de_cal h__law_inverse hr (da_cons (dv 0) (da_cons (de_ix (dv 2).w (de_neg (de_int).w).w (fun _ _ => rfl)) da_nil))).w).w (dv 0).w))
      (dss_cons (ds_for (di_range2 n_range de_int (de_op dadd (de_b1 dc_len (by first | rfl | decide +kernel) n_len (dv 2).w).w (de_int).w)) (dg_name (i:=5) nd) (dss_one (ds_put (i:=3) (pv 3) (de_neg (dv 5).w).w (de_op dmod_int (de_op dsub_int (de_ix (dvw 3) (de_neg (dv 5).w).w (fun _ _ => rfl)).w (de_op dmul_int (dv 4).w (de_ix (dv 2).w (de_neg (dv 5).w).w (fun _ _ => rfl)).w).w).w (dv 0).w))))
      (dss_one (ds_frz 3 (ds_setO (i:=3) nd (df_list (by first | rfl | decide +kernel) n_list (de_cal h__law_cut hr (da_cons (de_slice (dv 3) dp_no (dp_int (de_neg (de_int).w).w)) da_nil)).w)))))))
      (dss_one (ds_ret (de_t1 dc_tuple (by first | rfl | decide +kernel) n_tuple (dvw 3))))))),hm,F.kp,F.binds fun _ _ _ _ _ _ us hl => by obtain ⟨a0,a1,a2,rfl⟩:=len3 (show us.length = 3 from hl); rfl⟩
theorem sc__law_factor_by:FnScope ["_law_p","_law_one","_law_other"] ["_law_p","_law_one","_law_other"] (defScope s__law_factor_by):=⟨rfl,rfl,rfl,by decide +kernel,rfl,by decide +kernel,by decide +kernel⟩
noncomputable def W__law_factor_by_1:GS:=sWhile (asB (f2 gNe (fVar 2) (eTup aNil))) (sPar 1 2 (aCons (fVar 2) (aCons (fCall g__law_left_by (aCons (fVar 0) (aCons (fVar 1) (aCons (fVar 2) aNil)))) aNil)))
noncomputable def G__law_factor_by:GS:=(sSeq W__law_factor_by_1
  (sRet (fVar 1)))
noncomputable def g__law_factor_by:GF:=mkFn 3 0 G__law_factor_by
theorem ok__law_factor_by (hf:Is K mg "_law_factor_by" s__law_factor_by) (h__law_left_by:Cal P w K mg base "_law_left_by" ["_law_p","_law_one","_law_other"] 2 g__law_left_by):Cal P w K mg base "_law_factor_by" ["_law_p","_law_one","_law_other"] 3 g__law_factor_by:=by
  obtain ⟨f,fd,F,hm⟩:=hf
  have nd:=sc__law_factor_by.nd
  exact ⟨f,fd,fnD F sc__law_factor_by rfl (fun cdv A outer s H E hr => (dss_cons (ds_while (dt_cmp (dne hr.units) (dv 2).w (de_tup da_nil).w (nomark _)) (dss_one (ds_par (i:=1) (j:=2) nd (by decide) (da_cons (dv 2) (da_cons (de_cal h__law_left_by hr (da_cons (dv 0) (da_cons (dv 1) (da_cons (dv 2) da_nil)))) da_nil)) (by first | rfl | with_unfolding_all rfl))))
      (dss_one (ds_ret (dv 1))))),hm,F.kp,F.binds fun _ _ _ _ _ _ us hl => by obtain ⟨a0,a1,a2,rfl⟩:=len3 (show us.length = 3 from hl); rfl⟩
theorem sc__law_poly_by:FnScope ["_law_state","_law_p","_law_most","_law_sparse","_law_numbers"] ["_law_state","_law_p","_law_most"] (defScope s__law_poly_by):=⟨rfl,rfl,rfl,by decide +kernel,rfl,by decide +kernel,by decide +kernel⟩
noncomputable def C__law_poly_by_1:FO:=fComp 1 [0,1] (iRange1 (fCall g__law_take (aCons (fVar 0) (aCons (f2 gAdd (fVar 2) (fC (.int 2))) aNil)))) (.one 0) fTrue (fCall g__law_take (aCons (fVar 1) (aCons (fVar 2) aNil)))
noncomputable def C__law_poly_by_2:FO:=fComp 1 [0] (iSeq (fVar 4)) (.one 0) fTrue (f2 gMulI (fVar 0) (f1 gInt (f2 gEq (fCall g__law_take (aCons (fVar 1) (aCons (fC (.int 3)) aNil))) (fC (.int 0)))))
noncomputable def G__law_poly_by:GS:=(sSeq (sSet 3 (f2 gEq (fCall g__law_take (aCons (fVar 0) (aCons (fC (.int 3)) aNil))) (fC (.int 0))))
  (sSeq (sSetL 4 C__law_poly_by_1)
  (sSeq (sIf (asT (fVar 3)) (sSetL 4 C__law_poly_by_2) sNext)
  (sRet (fCall g__law_cut (aCons (fVar 4) aNil))))))
noncomputable def g__law_poly_by:GF:=mkFn 3 2 G__law_poly_by
theorem ok__law_poly_by (hf:Is K mg "_law_poly_by" s__law_poly_by) (h__law_take:Cal P w K mg base "_law_take" ["_law_state","_law_many"] 1 g__law_take) (h__law_cut:Cal P w K mg base "_law_cut" ["_law_numbers"] 1 g__law_cut) (n_int:mg "int" = none) (n_range:mg "range" = none):Cal P w K mg base "_law_poly_by" ["_law_state","_law_p","_law_most"] 2 g__law_poly_by:=by
  obtain ⟨f,fd,F,hm⟩:=hf
  have nd:=sc__law_poly_by.nd
  exact ⟨f,fd,fnD F sc__law_poly_by rfl (fun cdv A outer s H E hr => (dss_cons (ds_set (i:=3) nd (de_cmp (deq hr.units) (de_cal h__law_take hr (da_cons (dv 0) (da_cons de_int da_nil))).w (de_int).w (nomark _)))
      (dss_cons (ds_comp (i:=4) nd (N:=["_law_k","_law_state","_law_p"]) (k:=1) (fr:=[0,1]) (compOkC (sc:=defScope s__law_poly_by) (N0:=["_law_state","_law_p","_law_most","_law_sparse","_law_numbers"]) (by rfl) (by rfl) (by decide +kernel) (fun _ h => cell_has h)) (by decide) (di_range1 n_range (de_cal h__law_take hr (da_cons (dv 0) (da_cons (de_op dadd (dv 2).w (de_int).w) da_nil)))) (fun _ _ _ _ => by exact (dg_name (i:=0) (show List.Nodup (α:=Str) ["_law_k","_law_state","_law_p"] by decide +kernel))) (fun _ _ _ _ => difs_nil) (fun _ _ _ _ => by exact (de_cal h__law_take hr (da_cons (dv 1) (da_cons (dv 2) da_nil)))) (by first | rfl | with_unfolding_all rfl))
      (dss_cons (ds_if (dt_tru (dv 3).w (fun _ => rfl)) (dss_one (ds_comp (i:=4) nd (N:=["_law_one","_law_state"]) (k:=1) (fr:=[0]) (compOkC (sc:=defScope s__law_poly_by) (N0:=["_law_state","_law_p","_law_most","_law_sparse","_law_numbers"]) (by rfl) (by rfl) (by decide +kernel) (fun _ h => cell_has h)) (by decide) (di_seq (dv 4)) (fun _ _ _ _ => by exact (dg_name (i:=0) (show List.Nodup (α:=Str) ["_law_one","_law_state"] by decide +kernel))) (fun _ _ _ _ => difs_nil) (fun _ _ _ _ => by exact (de_op dmul_int (dv 0).w (de_t1 dc_int (by first | rfl | decide +kernel) n_int (de_cmp (deq hr.units) (de_cal h__law_take hr (da_cons (dv 1) (da_cons de_int da_nil))).w (de_int).w (nomark _)).w).w)) (by first | rfl | with_unfolding_all rfl))) dss_nil)
      (dss_one (ds_ret (de_cal h__law_cut hr (da_cons (dv 4) da_nil)))))))),hm,F.kp,F.binds fun _ _ _ _ _ _ us hl => by obtain ⟨a0,a1,a2,rfl⟩:=len3 (show us.length = 3 from hl); rfl⟩
theorem sc__law_is_quotient_by:FnScope ["_law_p","_law_thing","_law_one"] ["_law_p","_law_thing"] (defScope s__law_is_quotient_by):=⟨rfl,rfl,rfl,by decide +kernel,rfl,by decide +kernel,by decide +kernel⟩
noncomputable def C__law_is_quotient_by_1:FO:=fComp 1 [0] (iSeq (fVar 2)) (.one 0) fTrue (eAnd (f1 (gInst "int") (fVar 0)) (eAnd (f1 gNot (f1 (gInst "bool") (fVar 0))) (fChain gLe gLt (fC (.int 0)) (fVar 0) (fVar 1))))
noncomputable def B__law_is_quotient_by_2:GS:=(sSeq (sIf (tOrF (tNotF (asT (f1 (gInst "tuple") (fVar 2)))) (tAndF (asB (f2 gNe (fVar 2) (eTup aNil))) (asB (f2 gEq (f2 gIx (fVar 2) (f1 gNeg (fC (.int 1)))) (fC (.int 0)))))) (sRet (fC (.bool false))) sNext)
  (sIf (tNotF (asT (f1 gAll (asL C__law_is_quotient_by_1)))) (sRet (fC (.bool false))) sNext))
noncomputable def L__law_is_quotient_by_3:GS:=sFor (iSeq (fVar 1)) (.one 2) B__law_is_quotient_by_2
noncomputable def G__law_is_quotient_by:GS:=(sSeq (sIf (tOrF (tNotF (asT (f1 (gInst "tuple") (fVar 1)))) (asB (f2 gNe (f1 gLen (fVar 1)) (fC (.int 2))))) (sRet (fC (.bool false))) sNext)
  (sSeq L__law_is_quotient_by_3
  (sRet (eAnd (f2 gNe (f2 gIx (fVar 1) (fC (.int 1))) (eTup aNil)) (eAnd (f2 gEq (f2 gIx (f2 gIx (fVar 1) (fC (.int 1))) (fC (.int 0))) (fC (.int 1))) (f2 gEq (f1 gLen (fCall g__law_factor_by (aCons (fVar 0) (aCons (f2 gIx (fVar 1) (fC (.int 1))) (aCons (f2 gIx (fVar 1) (fC (.int 0))) aNil))))) (fC (.int 1))))))))
noncomputable def g__law_is_quotient_by:GF:=mkFn 2 1 G__law_is_quotient_by
theorem ok__law_is_quotient_by (hf:Is K mg "_law_is_quotient_by" s__law_is_quotient_by) (h__law_factor_by:Cal P w K mg base "_law_factor_by" ["_law_p","_law_one","_law_other"] 3 g__law_factor_by) (n_all:mg "all" = none) (n_bool:mg "bool" = none) (n_int:mg "int" = none) (n_isinstance:mg "isinstance" = none) (n_len:mg "len" = none) (n_tuple:mg "tuple" = none):Cal P w K mg base "_law_is_quotient_by" ["_law_p","_law_thing"] 4 g__law_is_quotient_by:=by
  obtain ⟨f,fd,F,hm⟩:=hf
  have nd:=sc__law_is_quotient_by.nd
  exact ⟨f,fd,fnD F sc__law_is_quotient_by rfl (fun cdv A outer s H E hr => (dss_cons (ds_if (dw_or (dt_not (dt_tru (de_inst (T:="tuple") (by decide) (by first | rfl | decide +kernel) n_isinstance n_tuple (dv 1).w).w (fun _ => rfl))) (dw_or1 (dt_cmp (dne hr.units) (de_b1 dc_len (by first | rfl | decide +kernel) n_len (dv 1).w).w (de_int).w (nomark _)))).t (dss_one (ds_ret de_bl)) dss_nil)
      (dss_cons (ds_for (di_seq (dv 1)) (dg_name (i:=2) nd) (dss_cons (ds_if (dw_or (dt_not (dt_tru (de_inst (T:="tuple") (by decide) (by first | rfl | decide +kernel) n_isinstance n_tuple (dv 2).w).w (fun _ => rfl))) (dw_or1 (dw_and (dt_cmp (dne hr.units) (dv 2).w (de_tup da_nil).w (nomark _)) (dw_and1 (dt_cmp (deq hr.units) (de_ix (dv 2).w (de_neg (de_int).w).w (fun _ _ => rfl)).w (de_int).w (nomark _)))).t)).t (dss_one (ds_ret de_bl)) dss_nil)
      (dss_one (ds_if (dt_not (dt_tru (de_b1 (dc_all rfl) (by first | rfl | decide +kernel) n_all (DF.de (df_comp (N:=["_law_k","_law_p"]) (k:=1) (fr:=[0]) (compOkC (sc:=defScope s__law_is_quotient_by) (N0:=["_law_p","_law_thing","_law_one"]) (by rfl) (by rfl) (by decide +kernel) (fun _ h => cell_has h)) (by decide) (di_seq (dv 2)) (fun _ _ _ _ => by exact (dg_name (i:=0) (show List.Nodup (α:=Str) ["_law_k","_law_p"] by decide +kernel))) (fun _ _ _ _ => difs_nil) (fun _ _ _ _ => by exact (de_and (de_inst (T:="int") (by decide) (by first | rfl | decide +kernel) n_isinstance n_int (dv 0).w) (de_and (de_not (de_inst (T:="bool") (by decide) (by first | rfl | decide +kernel) n_isinstance n_bool (dv 0).w)) (de_one (de_chain dle dlt (de_int).w (dv 0).w (dv 1).w))))))).w).w (fun _ => rfl))) (dss_one (ds_ret de_bl)) dss_nil))))
      (dss_one (ds_ret (de_and (de_cmp (dne hr.units) (de_ix (dv 1).w (de_int).w (fun _ _ => rfl)).w (de_tup da_nil).w (nomark _)) (de_and (de_cmp (deq hr.units) (de_ix (de_ix (dv 1).w (de_int).w (fun _ _ => rfl)).w (de_int).w (fun _ _ => rfl)).w (de_int).w (nomark _)) (de_one (de_cmp (deq hr.units) (de_b1 dc_len (by first | rfl | decide +kernel) n_len (de_cal h__law_factor_by hr (da_cons (dv 0) (da_cons (de_ix (dv 1).w (de_int).w (fun _ _ => rfl)) (da_cons (de_ix (dv 1).w (de_int).w (fun _ _ => rfl)) da_nil)))).w).w (de_int).w (nomark _)))))))))),hm,F.kp,F.binds fun _ _ _ _ _ _ us hl => by obtain ⟨a0,a1,rfl⟩:=len2 (show us.length = 2 from hl); rfl⟩
end
noncomputable def R_quotient_by:RS:=rSeq (sSet 3 (fMake "PrimeField" ["prime","nought","unit"] gI_PrimeField (aCons (fVar 0) aNil)))
  (rIf (asB (f2 gEq (f1 gLen (fVar 2)) (fC (.int 0))))
  (rSeq (sSet 4 (fCall g_common_in (aCons (fVar 3) (aCons (fVar 1) (aCons (fVar 2) aNil)))))
  (rSeq (sPar 1 2 (aCons (f2 gIx (fCall g_parted_in (aCons (fVar 3) (aCons (fVar 1) (aCons (fVar 4) aNil)))) (fC (.int 0))) (aCons (f2 gIx (fCall g_parted_in (aCons (fVar 3) (aCons (fVar 2) (aCons (fVar 4) aNil)))) (fC (.int 0))) aNil)))
  (rIf (asB (f2 gEq (f2 gIx (fVar 2) (fC (.int 0))) (fC (.int 0)))) rEnd))))
noncomputable def hX_quotient_by:List D→Sx→Option Sx:=mkX 3 2 R_quotient_by
section
variable {P:Program} {w:World} {K:PySem.W.Frag} {mg:Str→Option Value} {base:Heap}
theorem okX_quotient_by {C:Addr} (hf:Is K mg "quotient_by" s_quotient_by) (h_parted_in:Cal P w K mg base "parted_in" ["field","one","other"] 3 g_parted_in) (h_common_in:Cal P w K mg base "common_in" ["field","one","other"] 4 g_common_in) (h_settled_by:Cal P w K mg base "settled_by" ["field","top","below"] 3 g_settled_by) (n_len:mg "len" = none) (k_PrimeField:KCal P w K mg base "PrimeField" 1 ["prime","nought","unit"] gI_PrimeField)
    (x_NoQuotient:PySem.W.excIn K C [.type "ValueError",.type "Exception",.type "BaseException",.type "object"] "ValueError.__new__" = true) (m_NoQuotient:mg "NoQuotient" = some (.ref C)) :
    ∃ f fd,FnOk P w K mg base (CX1 P w base) 5 f fd ["p","top","below"] (spX K C hX_quotient_by)∧mg "quotient_by" = some (.ref f)∧PySem.W.keepIn K (.ref f) = true∧Binds K fd ["p","top","below"] []:=by
  obtain ⟨f,fd,F,hm⟩:=hf
  have nd:=sc_quotient_by.nd
  refine ⟨f,fd,fnX (m:=2) F sc_quotient_by rfl (fun cdv A outer s H E hr => ?_),hm,F.kp,F.binds fun _ _ _ _ _ _ us hl => by obtain ⟨a0,a1,a2,rfl⟩:=len3 (show us.length = 3 from hl); rfl⟩
  exact rx_cons (ds_set (i:=3) nd (de_make k_PrimeField hr (da_cons (dv 0) da_nil)))
      (rx_if (dt_cmp (deq hr.units) (de_b1 dc_len (by first | rfl | decide +kernel) n_len (dv 2).w).w (de_int).w (nomark _)) (ps_raise rfl PySem.F.excBase_ValueError x_NoQuotient rfl m_NoQuotient)
      (rx_cons (ds_set (i:=4) nd (de_cal h_common_in hr (da_cons (dv 3) (da_cons (dv 1) (da_cons (dv 2) da_nil)))))
      (rx_cons (ds_par (i:=1) (j:=2) nd (by decide) (da_cons (de_ix (de_cal h_parted_in hr (da_cons (dv 3) (da_cons (dv 1) (da_cons (dv 4) da_nil)))).w (de_int).w (fun _ _ => rfl)) (da_cons (de_ix (de_cal h_parted_in hr (da_cons (dv 3) (da_cons (dv 2) (da_cons (dv 4) da_nil)))).w (de_int).w (fun _ _ => rfl)) da_nil)) (by first | rfl | with_unfolding_all rfl))
      (rx_if (dt_cmp (deq hr.units) (de_ix (dv 2).w (de_int).w (fun _ _ => rfl)).w (de_int).w (nomark _)) (ps_raise rfl PySem.F.excBase_ValueError x_NoQuotient rfl m_NoQuotient)
      (rx_end (PSs.nox (DSs.go (dss_one (ds_ret (de_cal h_settled_by hr (da_cons (dv 3) (da_cons (dv 1) (da_cons (dv 2) da_nil)))))) none [])))))))
end

theorem sc__law_none:FnScope ["_law_p","_law_top","_law_below","_law_caught","e","_law_others"] ["_law_p","_law_top","_law_below"] (defScope s__law_none):=⟨rfl,rfl,rfl,by decide +kernel,rfl,by decide +kernel,by decide +kernel⟩
noncomputable def gN__law_none:GF:=fun ds s => (hX_quotient_by ds s).map fun s' => (.bool true,s')
section
variable {P:Program} {w:World} {K:PySem.W.Frag} {mg:Str→Option Value} {base:Heap}
theorem okN__law_none {C CF CS CP CB:Addr} (hf:Is K mg "_law_none" s__law_none)
    (hq:∃ f fd,FnOk P w K mg base (CX1 P w base) 5 f fd ["p","top","below"] (spX K C hX_quotient_by)∧mg "quotient_by" = some (.ref f)∧PySem.W.keepIn K (.ref f) = true∧Binds K fd ["p","top","below"] [])
    (ek:ExcK K C) (m_FarError:mg "FarError" = some (.ref CF)) (m_TooShort:mg "TooShort" = some (.ref CS)) (m_Pole:mg "Pole" = some (.ref CP)) (m_BadRow:mg "BadRow" = some (.ref CB)) (m_NoQuotient:mg "NoQuotient" = some (.ref C)) (n_ValueError:mg "ValueError" = none) (n_isinstance:mg "isinstance" = none) (n_any:mg "any" = none)
    (xm:PySem.W.exmOne K (.ref C) (.ref CF) = some true) (k1:PySem.W.kitOne K (.ref C) (.ref CS) = some false) (k2:PySem.W.kitOne K (.ref C) (.ref CP) = some false) (k3:PySem.W.kitOne K (.ref C) (.ref CB) = some false) (k4:PySem.W.kitOne K (.ref C) (.ref C) = some true) (k5:PySem.W.kitOne K (.ref C) (.type "ValueError") = some true) :
    Cal P w K mg base "_law_none" ["_law_p","_law_top","_law_below"] 6 gN__law_none:=by
  obtain ⟨f,fd,F,hm⟩:=hf
  obtain ⟨fq,fdq,Fq,mq,kq,bq⟩:=hq
  refine ⟨f,fd,?_,hm,F.kp,F.binds fun _ _ _ _ _ _ us hl => by obtain ⟨a0,a1,a2,rfl⟩:=len3 (show us.length = 3 from hl); rfl⟩
  have nd:=sc__law_none.nd
  have cut:∀ {ds:List D} {s:Sx} {r:D × Sx},gN__law_none ds s = some r→∃ s',hX_quotient_by ds s = some s'∧r = (.bool true,s'):=fun {ds s r} e => by
    unfold gN__law_none at e
    cases e1:hX_quotient_by ds s with
    | none => rw [e1] at e; cases e
    | some s' => rw [e1] at e; cases e; exact ⟨s',rfl,rfl⟩
  have ln:∀ {ds:List D} {s s':Sx},hX_quotient_by ds s = some s'→ds.length = 3:=fun {ds s s'} e => by
    unfold hX_quotient_by mkX at e
    split at e
    · assumption
    · cases e
  have rr:∀ {D:Addr} (u:Value),RelV (.ref D) u→u = .ref D:=fun u r => r
  refine F.ok sc__law_none (fun vs H Q E x__179 => ?_) (fun cdv A outer s H vs Q E hr x__180 => ?_)
  · obtain ⟨Z,A0,ds,st,d,st',r,_,_,e,_⟩:=x__179
    obtain ⟨s',e1,_⟩:=cut e
    rw [r.length]; exact ln e1
  · obtain ⟨Z,A0,ds,st,d,st',r,hA,S,e,q⟩:=x__180
    obtain ⟨s',e1,e2⟩:=cut e
    cases e2
    obtain ⟨v0,v1,v2,rfl⟩:=len3 (show vs.length = 3 by rw [r.length]; exact ln e1)
    refine ⟨_,pss_cons (ps_set (i:=3) nd rfl (Or.inl rfl) pe_non)
      (pss_cons (ps_try (C:=C) (C':=CF) (ie:=4) (iy:=3) rfl rfl Fq (hr.mono (by decide)) rfl mq kq bq (pa_cons (pv 0) (pa_cons (pv 1) (pa_cons (pv 2) pa_nil))) xm rfl m_FarError nd rfl rfl (Or.inl rfl) (Or.inl rfl) (fun a => ps_set (i:=3) nd rfl (Or.inl rfl) (pv 4)))
      (pss_cons (ps_set (i:=5) nd rfl (Or.inl rfl) (pe_lst (pa_cons (pe_callB (call_isexc (C:=C) (v:=.ref CS) rfl rr ek k1) rfl n_isinstance (by first | rfl | decide +kernel) (pa_cons (pv 3) (pa_cons (pe_glob (v:=.ref CS) rfl m_TooShort rfl) pa_nil)))
        (pa_cons (pe_callB (call_isexc (C:=C) (v:=.ref CP) rfl rr ek k2) rfl n_isinstance (by first | rfl | decide +kernel) (pa_cons (pv 3) (pa_cons (pe_glob (v:=.ref CP) rfl m_Pole rfl) pa_nil)))
        (pa_cons (pe_callB (call_isexc (C:=C) (v:=.ref CB) rfl rr ek k3) rfl n_isinstance (by first | rfl | decide +kernel) (pa_cons (pv 3) (pa_cons (pe_glob (v:=.ref CB) rfl m_BadRow rfl) pa_nil))) pa_nil)))))
      (pss_one (ps_ret (pe_and (pe_callB (call_isexc (C:=C) (v:=.ref C) rfl rr ek k4) rfl n_isinstance (by first | rfl | decide +kernel) (pa_cons (pv 3) (pa_cons (pe_glob (v:=.ref C) rfl m_NoQuotient rfl) pa_nil)))
        (pe_and (pe_callB (call_isexc (C:=C) (v:=.ty "ValueError") (c:=.type "ValueError") rfl (fun u r => r) ek k5) rfl n_isinstance (by first | rfl | decide +kernel) (pa_cons (pv 3) (pa_cons (pe_bltn (v:=.ty "ValueError") rfl n_ValueError (by first | rfl | decide +kernel) rfl) pa_nil)))
        (pe_one (pe_not (pe_callB (dc_any rfl) rfl n_any (by first | rfl | decide +kernel) (pa_cons (pv 5) pa_nil)))))))))),?_⟩
    refine ⟨_,rfl,_,rfl,_,rfl,?_⟩
    refine .mk Z A0 ds st st' r hA S e1 fun H' x S' => ⟨rfl,fun a ha => ?_⟩
    have h2:(upd H' a (.ext (IsExc C a))) a = some (.ext (IsExc C a)):=upd_same
    refine ⟨_,rfl,a,rfl,h2,_,rfl,a,rfl,h2,_,rfl,a,rfl,h2,(by show 3 ≤ sizeLine; decide),fun p hp => ?_⟩
    have pa:a ≠ p:=ne_of_none h2 hp
    have h3:(upd (upd H' a (.ext (IsExc C a))) p (.lst [.bl false,.bl false,.bl false])) a = some (.ext (IsExc C a)):=by rw [upd_ne pa]; exact h2
    have up:∀ b o,H' b = some o→(upd (upd H' a (.ext (IsExc C a))) p (.lst [.bl false,.bl false,.bl false])) b = some o:=fun b o eb => by
      have b1:(upd H' a (.ext (IsExc C a))) b = some o:=by rw [upd_ne (ne_of_none eb ha)]; exact eb
      rw [upd_ne (ne_of_none b1 hp)]; exact b1
    refine ⟨_,rfl,a,rfl,h3,true,rfl,?_⟩
    rw [if_pos rfl]
    refine ⟨_,rfl,a,rfl,h3,true,rfl,?_⟩
    rw [if_pos rfl]
    refine ⟨_,rfl,.mk none [] ([],0) _ (.list [.bool false,.bool false,.bool false]) (.bool false) rfl (fun a c z => nomatch z) (fun q z => nomatch z) (.inl (.lst upd_same (fun z => nomatch z) (fun a c z => nomatch z) (.cons (.bl _) (.cons (.bl _) (.cons (.bl _) .nil))))) rfl fun v' Hn xn _ rn => ?_⟩
    have ev:v' = .bl false:=by cases rn; rfl
    subst ev
    refine ⟨false,rfl,q _ _ (fun b o eb nb => xn b o (up b o (x b o eb nb)) (fun a c z => nomatch z)) (fun a0 c0 z => ?_) (.bl true)⟩
    obtain ⟨s1,s2⟩:=S' a0 c0 z
    exact ⟨xn _ _ (up _ _ s1) (fun a c z => nomatch z),xn _ _ (up _ _ s2) (fun a c z => nomatch z)⟩
end

noncomputable def g__law_none:GF:=gN__law_none
section
variable {P:Program} {w:World} {K:PySem.W.Frag} {mg:Str→Option Value} {base:Heap}
theorem sc__law_noughts:FnScope ["_law_one"] ["_law_one"] (defScope s__law_noughts):=⟨rfl,rfl,rfl,by decide +kernel,rfl,by decide +kernel,by decide +kernel⟩
noncomputable def C__law_noughts_1:FO:=fComp 1 [0] (iRange1 (f1 gLen (fVar 0))) (.one 0) (asB (f2 gNe (f2 gIx (fVar 1) (fVar 0)) (fC (.int 0)))) (fVar 0)
noncomputable def G__law_noughts:GS:=(sRet (f1 gMinL (f2 gAdd (asL C__law_noughts_1) (eLst (aCons (f1 gLen (fVar 0)) aNil)))))
noncomputable def g__law_noughts:GF:=mkFn 1 0 G__law_noughts
theorem ok__law_noughts (hf:Is K mg "_law_noughts" s__law_noughts) (n_len:mg "len" = none) (n_min:mg "min" = none) (n_range:mg "range" = none):Cal P w K mg base "_law_noughts" ["_law_one"] 1 g__law_noughts:=by
  obtain ⟨f,fd,F,hm⟩:=hf
  have nd:=sc__law_noughts.nd
  exact ⟨f,fd,fnD F sc__law_noughts rfl (fun cdv A outer s H E hr => (dss_one (ds_ret (de_b1 (dc_minL rfl) (by first | rfl | decide +kernel) n_min (de_op dadd (DF.de (df_comp (N:=["_law_k","_law_one"]) (k:=1) (fr:=[0]) (compOkC (sc:=defScope s__law_noughts) (N0:=["_law_one"]) (by rfl) (by rfl) (by decide +kernel) (fun _ h => cell_has h)) (by decide) (di_range1 n_range (de_b1 dc_len (by first | rfl | decide +kernel) n_len (dv 0).w)) (fun _ _ _ _ => by exact (dg_name (i:=0) (show List.Nodup (α:=Str) ["_law_k","_law_one"] by decide +kernel))) (fun _ _ _ _ => by exact difs_one (dt_cmp (dne hr.units) (de_ix (dv 1).w (dv 0).w (fun _ _ => rfl)).w (de_int).w (nomark _))) (fun _ _ _ _ => by exact (dv 0)))).w (de_lst (da_cons (de_b1 dc_len (by first | rfl | decide +kernel) n_len (dv 0).w) da_nil)).w).w)))),hm,F.kp,F.binds fun _ _ _ _ _ _ us hl => by obtain ⟨a0,rfl⟩:=len1 (show us.length = 1 from hl); rfl⟩
theorem sc__law_is_made:FnScope ["_law_p","_law_top","_law_below"] ["_law_p","_law_top","_law_below"] (defScope s__law_is_made):=⟨rfl,rfl,rfl,by decide +kernel,rfl,by decide +kernel,by decide +kernel⟩
noncomputable def G__law_is_made:GS:=(sRet (eAnd (f2 gNe (fVar 2) (eTup aNil)) (eOr (f2 gEq (fVar 1) (eTup aNil)) (f2 gLe (fCall g__law_noughts (aCons (fVar 2) aNil)) (fCall g__law_noughts (aCons (fVar 1) aNil))))))
noncomputable def g__law_is_made:GF:=mkFn 3 0 G__law_is_made
theorem ok__law_is_made (hf:Is K mg "_law_is_made" s__law_is_made) (h__law_noughts:Cal P w K mg base "_law_noughts" ["_law_one"] 1 g__law_noughts):Cal P w K mg base "_law_is_made" ["_law_p","_law_top","_law_below"] 2 g__law_is_made:=by
  obtain ⟨f,fd,F,hm⟩:=hf
  have nd:=sc__law_is_made.nd
  exact ⟨f,fd,fnD F sc__law_is_made rfl (fun cdv A outer s H E hr => (dss_one (ds_ret (de_and (de_cmp (dne hr.units) (dv 2).w (de_tup da_nil).w (nomark _)) (de_one (de_or (de_cmp (deq hr.units) (dv 1).w (de_tup da_nil).w (nomark _)) (de_one (de_cmp dle (de_cal h__law_noughts hr (da_cons (dv 2) da_nil)).w (de_cal h__law_noughts hr (da_cons (dv 1) da_nil)).w (nomark _))))))))),hm,F.kp,F.binds fun _ _ _ _ _ _ us hl => by obtain ⟨a0,a1,a2,rfl⟩:=len3 (show us.length = 3 from hl); rfl⟩
theorem sc__law_right:FnScope ["_law_p","_law_top","_law_below","_law_found","_law_handed"] ["_law_p","_law_top","_law_below"] (defScope s__law_right):=⟨rfl,rfl,rfl,by decide +kernel,rfl,by decide +kernel,by decide +kernel⟩
noncomputable def G__law_right:GS:=(sSeq (sIf (tNotF (asT (fCall g__law_is_made (aCons (fVar 0) (aCons (fVar 1) (aCons (fVar 2) aNil)))))) (sRet (eAnd (fCall g__law_none (aCons (fVar 0) (aCons (fVar 1) (aCons (fVar 2) aNil)))) (fCall g__law_none (aCons (fVar 0) (aCons (f1 gList (fVar 1)) (aCons (f1 gList (fVar 2)) aNil)))))) sNext)
  (sSeq (sSet 3 (fCall g_quotient_by (aCons (fVar 0) (aCons (fVar 1) (aCons (fVar 2) aNil)))))
  (sSeq (sIf (tNotF (asT (fCall g__law_is_quotient_by (aCons (fVar 0) (aCons (fVar 3) aNil))))) (sRet (fC (.bool false))) sNext)
  (sSeq (sIf (asB (f2 gNe (fCall g__law_times_by (aCons (fVar 0) (aCons (f2 gIx (fVar 3) (fC (.int 0))) (aCons (fVar 2) aNil)))) (fCall g__law_times_by (aCons (fVar 0) (aCons (f2 gIx (fVar 3) (fC (.int 1))) (aCons (fVar 1) aNil)))))) (sRet (fC (.bool false))) sNext)
  (sSeq (sSet 4 (eLst (aCons (f1 gList (fVar 1)) (aCons (f1 gList (fVar 2)) aNil))))
  (sRet (eAnd (fCall g__law_same (aCons (fCall g_quotient_by (aCons (fVar 0) (aCons (f2 gIx (fVar 4) (fC (.int 0))) (aCons (f2 gIx (fVar 4) (fC (.int 1))) aNil)))) (aCons (fVar 3) aNil))) (f2 gEq (fVar 4) (eLst (aCons (f1 gList (fVar 1)) (aCons (f1 gList (fVar 2)) aNil)))))))))))
noncomputable def g__law_right:GF:=mkFn 3 2 G__law_right
theorem ok__law_right (hf:Is K mg "_law_right" s__law_right) (h_quotient_by:Cal P w K mg base "quotient_by" ["p","top","below"] 5 g_quotient_by) (h__law_same:Cal P w K mg base "_law_same" ["_law_found","_law_due"] 7 g__law_same) (h__law_times_by:Cal P w K mg base "_law_times_by" ["_law_p","_law_one","_law_other"] 2 g__law_times_by) (h__law_is_quotient_by:Cal P w K mg base "_law_is_quotient_by" ["_law_p","_law_thing"] 4 g__law_is_quotient_by) (h__law_none:Cal P w K mg base "_law_none" ["_law_p","_law_top","_law_below"] 6 g__law_none) (h__law_is_made:Cal P w K mg base "_law_is_made" ["_law_p","_law_top","_law_below"] 2 g__law_is_made) (n_list:mg "list" = none):Cal P w K mg base "_law_right" ["_law_p","_law_top","_law_below"] 8 g__law_right:=by
  obtain ⟨f,fd,F,hm⟩:=hf
  have nd:=sc__law_right.nd
  exact ⟨f,fd,fnD F sc__law_right rfl (fun cdv A outer s H E hr => (dss_cons (ds_if (dt_not (dt_tru (de_cal h__law_is_made hr (da_cons (dv 0) (da_cons (dv 1) (da_cons (dv 2) da_nil)))).w (fun _ => rfl))) (dss_one (ds_ret (de_and (de_cal h__law_none hr (da_cons (dv 0) (da_cons (dv 1) (da_cons (dv 2) da_nil)))) (de_one (de_cal h__law_none hr (da_cons (dv 0) (da_cons (de_t1 dc_list (by first | rfl | decide +kernel) n_list (dv 1).w) (da_cons (de_t1 dc_list (by first | rfl | decide +kernel) n_list (dv 2).w) da_nil)))))))) dss_nil)
      (dss_cons (ds_set (i:=3) nd (de_cal h_quotient_by hr (da_cons (dv 0) (da_cons (dv 1) (da_cons (dv 2) da_nil)))))
      (dss_cons (ds_if (dt_not (dt_tru (de_cal h__law_is_quotient_by hr (da_cons (dv 0) (da_cons (dv 3) da_nil))).w (fun _ => rfl))) (dss_one (ds_ret de_bl)) dss_nil)
      (dss_cons (ds_if (dt_cmp (dne hr.units) (de_cal h__law_times_by hr (da_cons (dv 0) (da_cons (de_ix (dv 3).w (de_int).w (fun _ _ => rfl)) (da_cons (dv 2) da_nil)))).w (de_cal h__law_times_by hr (da_cons (dv 0) (da_cons (de_ix (dv 3).w (de_int).w (fun _ _ => rfl)) (da_cons (dv 1) da_nil)))).w (nomark _)) (dss_one (ds_ret de_bl)) dss_nil)
      (dss_cons (ds_set (i:=4) nd (de_lst (da_cons (de_t1 dc_list (by first | rfl | decide +kernel) n_list (dv 1).w) (da_cons (de_t1 dc_list (by first | rfl | decide +kernel) n_list (dv 2).w) da_nil))))
      (dss_one (ds_ret (de_and (de_cal h__law_same hr (da_cons (de_cal h_quotient_by hr (da_cons (dv 0) (da_cons (de_ix (dv 4).w (de_int).w (fun _ _ => rfl)) (da_cons (de_ix (dv 4).w (de_int).w (fun _ _ => rfl)) da_nil)))) (da_cons (dv 3) da_nil))) (de_one (de_cmp (deq hr.units) (dv 4).w (de_lst (da_cons (de_t1 dc_list (by first | rfl | decide +kernel) n_list (dv 1).w) (da_cons (de_t1 dc_list (by first | rfl | decide +kernel) n_list (dv 2).w) da_nil))).w (nomark _)))))))))))),hm,F.kp,F.binds fun _ _ _ _ _ _ us hl => by obtain ⟨a0,a1,a2,rfl⟩:=len3 (show us.length = 3 from hl); rfl⟩
theorem sc_law:FnScope ["_law_script","_law_state","_law_turn","_law_p","_law_most","_law_top","_law_below","_law_both","_law_moved"] ["_law_script"] (defScope s_law):=⟨rfl,rfl,rfl,by decide +kernel,rfl,by decide +kernel,by decide +kernel⟩
noncomputable def B_law_1:GS:=(sSeq (sSet 3 (fCall g__law_prime (aCons (fVar 1) aNil)))
  (sSeq (sSet 4 (f2 gIx (eLst (aCons (fC (.int 5)) (aCons (fC (.int 12)) aNil))) (f1 gInt (f2 gEq (fCall g__law_take (aCons (fVar 1) (aCons (fC (.int 8)) aNil))) (fC (.int 0))))))
  (sSeq (sPar 5 6 (aCons (fCall g__law_poly_by (aCons (fVar 1) (aCons (fVar 3) (aCons (f2 gDivI (fVar 4) (fC (.int 2))) aNil)))) (aCons (fCall g__law_poly_by (aCons (fVar 1) (aCons (fVar 3) (aCons (f2 gDivI (fVar 4) (fC (.int 2))) aNil)))) aNil)))
  (sSeq (sSet 7 (fCall g__law_poly_by (aCons (fVar 1) (aCons (fVar 3) (aCons (f2 gDivI (fVar 4) (fC (.int 2))) aNil)))))
  (sSeq (sSet 8 (f2 gAddA (f2 gMulT (eTup (aCons (fC (.int 0)) aNil)) (fCall g__law_take (aCons (fVar 1) (aCons (fC (.int 2)) aNil)))) (eTup (aCons (fC (.int 1)) aNil))))
  (sSeq (sIf (tOrF (tNotF (asT (fCall g__law_right (aCons (fVar 3) (aCons (fVar 5) (aCons (fVar 6) aNil)))))) (tNotF (asT (fCall g__law_right (aCons (fVar 3) (aCons (fVar 5) (aCons (f2 gAddA (eTup (aCons (fC (.int 1)) aNil)) (fVar 6)) aNil))))))) (sRet (fC (.bool false))) sNext)
  (sSeq (sIf (tNotF (asT (fCall g__law_right (aCons (fVar 3) (aCons (fCall g__law_times_by (aCons (fVar 3) (aCons (fVar 5) (aCons (fVar 7) aNil)))) (aCons (fCall g__law_times_by (aCons (fVar 3) (aCons (fVar 6) (aCons (fVar 7) aNil)))) aNil)))))) (sRet (fC (.bool false))) sNext)
  (sIf (tOrF (tNotF (asT (fCall g__law_right (aCons (fVar 3) (aCons (fCall g__law_times_by (aCons (fVar 3) (aCons (fVar 5) (aCons (fVar 8) aNil)))) (aCons (fVar 6) aNil)))))) (tNotF (asT (fCall g__law_right (aCons (fVar 3) (aCons (fVar 5) (aCons (fCall g__law_cut (aCons (f2 gAddA (eTup (aCons (fC (.int 0)) aNil)) (fVar 6)) aNil)) aNil))))))) (sRet (fC (.bool false))) sNext))))))))
noncomputable def L_law_2:GS:=sFor (iRange1 (fC (.int 4))) (.one 2) B_law_1
noncomputable def d_law:Sl:=[.non,.val (.dict []),.non,.non,.non,.non,.non,.non,.non]
noncomputable def G_law:GS:=(sSeq L_law_2
  (sRet (eAnd (fCall g__law_right (aCons (fC (.int 2)) (aCons (eTup aNil) (aCons (eTup aNil) aNil)))) (eAnd (fCall g__law_right (aCons (fC (.int 2)) (aCons (eTup aNil) (aCons (eTup (aCons (fC (.int 0)) (aCons (fC (.int 1)) aNil))) aNil)))) (fCall g__law_right (aCons (fC (.int 3)) (aCons (eTup (aCons (fC (.int 0)) (aCons (fC (.int 2)) aNil))) (aCons (eTup (aCons (fC (.int 0)) (aCons (fC (.int 0)) (aCons (fC (.int 1)) aNil)))) aNil))))))))
theorem draw {n:Nat} {s:Sx} (h:Good (n + 1) s) (many:Int) (h1:0 < many) (h2:many < 2 ^ 100):∃ r s',g__law_take [.dict [],.int many] s = some (.int r,s')∧0 ≤ r∧r < many∧Good n s':=take_spec h h1 h2

theorem same_int (n:Nat) (a:Int) (s:Sx):r__law_same (n + 1) [.int a,.int a] s = some (.bool true,s):=by
  simp [r__law_same,mkFn,G__law_same,sSeq,sIf,asB,asT,tOrF,f1,f2,fVar,fC,gIs,sNext,gInst,tyN,tru,sRet,eAnd,gNot,gEq_int]
theorem rOk_le {z:Int} (h0:0 ≤ z) (h1:z ≤ 1000):rOk z = true:=by
  unfold rOk
  simp only [Bool.and_eq_true,decide_eq_true_eq]
  exact ⟨by omega,by omega⟩
theorem rep_run {z:Int} {d:D} (h0:0 ≤ z) (h1:z ≤ 1000):lRep (.list [d]) (.int z) = some (List.replicate z.toNat d):=by
  have e:[d].length * z.toNat ≤ sizeLine:=by
    have:[d].length * z.toNat ≤ 1000:=by simp; omega
    exact Nat.le_trans this (by decide)
  have c:(decide (-(2 ^ 63) ≤ z) && decide (z < 2 ^ 63) && decide ([d].length * z.toNat ≤ sizeLine)) = true:=by
    simp only [Bool.and_eq_true,decide_eq_true_eq]; exact ⟨⟨by omega,by omega⟩,e⟩
  unfold lRep
  simp only
  rw [if_pos c]
  simp
theorem o2_run {g:D→D→Option (List D)} {Fa Fb:FE} {δ:Sl} {s s1 s2:Sx} {a b:D} {xs:List D} (h:Fa δ s = some (a,s1)) (h':Fb δ s1 = some (b,s2)) (e:g a b = some xs):o2 g Fa Fb δ s = some (xs,s2):=by
  unfold o2; rw [h]; simp only [Option.bind_some,h',Option.map_some,e]
theorem sSetO_run {i:Nat} {F:FO} {δ:Sl} {s s1:Sx} {xs:List D} (h:F δ s = some (xs,s1)):sSetO i F δ s = some (.next (δ.set i (.own xs)),s1):=by
  unfold sSetO; rw [h]; rfl
theorem eLst_run {FL:FA} {δ:Sl} {s s1:Sx} {ds:List D} (h:FL δ s = some (ds,s1)) (hs:small ds = true):eLst FL δ s = some (.list ds,s1):=by
  unfold eLst; rw [h]; simp only [Option.bind_some,hs,if_true]
theorem rep_nat {n:Nat} {d:D} (h:n ≤ 1000):lRep (.list [d]) (.int (n:Int)) = some (List.replicate n d):=by
  have r:=rep_run (z:=(n:Int)) (d:=d) (Int.natCast_nonneg _) (by omega)
  rwa [Int.toNat_natCast] at r
theorem iRange1_r {F:FE} {δ:Sl} {s s':Sx} {z:Int} (e:F δ s = some (.int z,s')) (h0:0 ≤ z) (h1:z ≤ 1000):iRange1 F δ s = some (rng 0 z.toNat,s'):=by
  have r1:=rOk_le h0 h1
  unfold iRange1
  rw [e]
  simp only [Option.bind_some,r1,if_true]
theorem iRange1_nat {F:FE} {δ:Sl} {s s':Sx} {n:Nat} (e:F δ s = some (.int (n:Int),s')) (h1:n ≤ 1000):iRange1 F δ s = some (rng 0 n,s'):=by
  have:=iRange1_r e (Int.natCast_nonneg _) (by omega)
  rwa [Int.toNat_natCast] at this
theorem rng_len (n:Nat):(rng 0 n).length = n:=by simp [rng]
theorem fCall_run {g:GF} {FL:FA} {δ:Sl} {s s1:Sx} {ds:List D} {r:Option (D × Sx)} (h:FL δ s = some (ds,s1)) (e:g ds s1 = r):fCall g FL δ s = r:=by
  unfold fCall; rw [h]; exact e
theorem fn_run {n m:Nat} {G:GS} {ds:List D} {s s':Sx} {d:D} (hl:ds.length = n) (h:G (ds.map .val ++ List.replicate m .non) s = some (.ret d,s')):mkFn n m G ds s = some (d,s'):=by
  unfold mkFn; rw [if_pos hl,h]

theorem catL {a b:List D} (h:a.length + b.length ≤ 1000):gAdd (.list a) (.list b) = some (.list (a ++ b)):=by
  have sm:small (a ++ b) = true:=small_le (by rw [List.length_append]; exact h)
  simp [gAdd,gAddI,gI,gCatL,sm]
theorem sub_one {n:Nat} (h:1 ≤ n):gSubI (.int (n:Int)) (.int 1) = some (.int ((n - 1:Nat):Int)):=by
  simp only [gSubI,gI,if_true]; congr 2; omega
theorem sIf_t {Ft:FT} {G1 G2:GS} {δ:Sl} {s s':Sx} {r:Option (Out × Sx)} (h:Ft δ s = some (true,s')) (g:G1 δ s' = r):sIf Ft G1 G2 δ s = r:=by
  unfold sIf; rw [h]; exact g
theorem sIf_f {Ft:FT} {G1 G2:GS} {δ:Sl} {s s':Sx} {r:Option (Out × Sx)} (h:Ft δ s = some (false,s')) (g:G2 δ s' = r):sIf Ft G1 G2 δ s = r:=by
  unfold sIf; rw [h]; exact g
theorem draw_le {n:Nat} {s:Sx} {M:Int} (h:Good (n + 1) s) (h1:0 < M) (h2:M ≤ 1000):∃ r s',g__law_take [.dict [],.int M] s = some (.int r,s')∧0 ≤ r∧r < M∧Good n s':=draw h M h1 (by omega)
theorem draw_nat {n m:Nat} {s:Sx} (h:Good (n + 1) s) (h1:0 < m) (h2:m ≤ 1000):∃ (j:Nat) (s':Sx),g__law_take [.dict [],.int (m:Int)] s = some (.int (j:Int),s')∧j < m∧Good n s':=by
  obtain ⟨r,s',e,r0,r1,g⟩:=draw_le (M:=(m:Int)) h (by omega) (by omega)
  obtain ⟨j,hj⟩:∃ j:Nat,r = (j:Int):=⟨r.toNat,by omega⟩
  subst hj
  exact ⟨j,s',e,by omega,g⟩
theorem put_at {xs:List D} {j:Nat} {v:D} (h:j < xs.length):L3.putAt xs (.int (j:Int)) v = some (xs.set j v):=by
  unfold L3.putAt ixN
  dsimp only
  rw [if_pos (by omega),if_pos (by omega)]
  simp

theorem forD_cons {T:Tgt} {G:GS} {d:D} {ds:List D} {δ δ1 δ2:Sl} {s s1:Sx} {r:Option (Out × Sx)} (h:T.run d δ = some δ1) (g:G δ1 s = some (.next δ2,s1)) (w:forD T G ds δ2 s1 = r):forD T G (d :: ds) δ s = r:=by
  show ((T.run d δ).bind fun δ1 => _) = _
  rw [h]
  simp only [Option.bind_some,g]
  exact w

theorem while_step2 {Ft:FT} {G:GS} {δ δ':Sl} {s s':Sx} {k:Nat} {r:Option (Out × Sx)} (h:Ft δ s = some (true,s)) (g:G δ s = some (.next δ',s')) (w:whileN Ft G k δ' s' = r):whileN Ft G (k + 1) δ s = r:=by
  rw [whileN.eq_2,h]
  simp only [Option.bind_some,if_true,g]
  exact w
theorem while_stop {Ft:FT} {G:GS} {δ:Sl} {s:Sx} {k:Nat} (h:Ft δ s = some (false,s)):whileN Ft G (k + 1) δ s = some (.next δ,s):=by
  rw [whileN.eq_2,h]; rfl

noncomputable def IsSeq (d:D) (l:List D):Prop:=d = .list l ∨ d = .tuple l
theorem IsSeq.seq {d:D} {l:List D} (h:IsSeq d l):seqOf d = some l:=by rcases h with rfl | rfl <;> rfl
theorem IsSeq.lst {d:D} {l:List D} (h:IsSeq d l):gList d = some (.list l):=by rcases h with rfl | rfl <;> rfl
theorem IsSeq.tup {d:D} {l:List D} (h:IsSeq d l):gTuple d = some (.tuple l):=by rcases h with rfl | rfl <;> rfl
theorem eTup_run {FL:FA} {δ:Sl} {s s1:Sx} {ds:List D} (h:FL δ s = some (ds,s1)) (hs:small ds = true):eTup FL δ s = some (.tuple ds,s1):=by
  unfold eTup; rw [h]; simp only [Option.bind_some,hs,if_true]
theorem gNe_int' (i:Int):gNe (.int i) (.int i) = some (.bool false):=by rw [gNe_int]; simp
theorem tOrF_f {Ga Gb:FT} {δ:Sl} {s s1:Sx} {r:Option (Bool × Sx)} (h:Ga δ s = some (false,s1)) (g:Gb δ s1 = r):tOrF Ga Gb δ s = r:=by
  unfold tOrF; rw [h]; exact g
theorem tAndF_t {Ga Gb:FT} {δ:Sl} {s s1:Sx} {r:Option (Bool × Sx)} (h:Ga δ s = some (true,s1)) (g:Gb δ s1 = r):tAndF Ga Gb δ s = r:=by
  unfold tAndF; rw [h]; exact g
theorem tNotF_r {Ga:FT} {δ:Sl} {s s1:Sx} {b:Bool} (h:Ga δ s = some (b,s1)):tNotF Ga δ s = some (!b,s1):=by
  unfold tNotF; rw [h]; rfl
theorem asT_r {F:FE} {δ:Sl} {s s1:Sx} {b:Bool} (h:F δ s = some (.bool b,s1)):asT F δ s = some (b,s1):=by
  unfold asT; rw [h]; rfl
theorem asB_r {F:FE} {δ:Sl} {s s1:Sx} {b:Bool} (h:F δ s = some (.bool b,s1)):asB F δ s = some (b,s1):=by
  unfold asB; rw [h]; rfl
structure InvI (p a h l f n:Int):Prop where
  l0:0 ≤ l
  lh:l < h
  hp:h ≤ p
  sg:∃ e:Int,(e = 1 ∨ e = -1)∧0 ≤ n * e∧f * e ≤ 0∧(n * e) * h - (f * e) * l = p
  cf:∃ k:Int,f * a = h + k * p
  cn:∃ k:Int,n * a = l + k * p
  gc:Int.gcd h l = Int.gcd p a
theorem InvI.step {p a h l f n:Int} (I:InvI p a h l f n) (hl:0 < l):InvI p a l (h - h.fdiv l * l) n (f - h.fdiv l * n) where
  l0:=by
    rw [Int.fdiv_eq_ediv_of_nonneg _ (by omega)]
    have:=Int.emod_nonneg h (show l ≠ 0 by omega)
    rw [Int.emod_def,Int.mul_comm] at this
    omega
  lh:=by
    rw [Int.fdiv_eq_ediv_of_nonneg _ (by omega)]
    have:=Int.emod_lt_of_pos h hl
    rw [Int.emod_def,Int.mul_comm] at this
    omega
  hp:=by have:=I.lh; have:=I.hp; omega
  sg:=by
    obtain ⟨e,he,h1,h2,h3⟩:=I.sg
    have q0:0 ≤ h.fdiv l:=by
      rw [Int.fdiv_eq_ediv_of_nonneg _ (by omega)]
      exact Int.ediv_nonneg (by have:=I.lh; omega) (by omega)
    generalize h.fdiv l = q at q0
    have hq:0 ≤ q * (n * e):=Int.mul_nonneg q0 h1
    refine ⟨-e,by omega,?_,?_,?_⟩
    · have:(f - q * n) * -e = -(f * e) + q * (n * e):=by grind
      omega
    · have:n * -e = -(n * e):=by grind
      omega
    · rw [← h3]; grind
  cf:=I.cn
  cn:=by
    obtain ⟨k1,h1⟩:=I.cf
    obtain ⟨k2,h2⟩:=I.cn
    generalize h.fdiv l = q
    refine ⟨k1 - q * k2,?_⟩
    have:(f - q * n) * a = f * a - q * (n * a):=by grind
    rw [this,h1,h2]; grind
  gc:=by
    rw [← I.gc,Int.gcd_comm h l,Int.sub_eq_add_neg,← Int.neg_mul,Int.gcd_add_mul_right_right]
theorem InvI.nb {p a h l f n:Int} (I:InvI p a h l f n) (hl:0 < l):n.natAbs ≤ p.natAbs:=by
  obtain ⟨e,he,h1,h2,h3⟩:=I.sg
  have hh:1 ≤ h:=by have:=I.lh; omega
  have t2:(f * e) * l ≤ 0:=Int.mul_nonpos_of_nonpos_of_nonneg h2 (by omega)
  have t1:(n * e) * 1 ≤ (n * e) * h:=Int.mul_le_mul_of_nonneg_left hh h1
  rcases he with rfl | rfl <;> omega
theorem inv_loop {p a:Int} (hp:p ≤ 1000):∀ (k:Nat) (h l f n:Int) (c6:Ce),l.toNat ≤ k→InvI p a h l f n →
    ∃ (h' f' n':Int) (c6':Ce),(∀ s,whileN (asT (fVar 3)) (sSeq (sSet 6 (f2 gDivI (fVar 2) (fVar 3))) (sSeq (sPar 2 3 (aCons (fVar 3) (aCons (f2 gSubI (fVar 2) (f2 gMulI (fVar 6) (fVar 3))) aNil))) (sPar 4 5 (aCons (fVar 5) (aCons (f2 gSubI (fVar 4) (f2 gMulI (fVar 6) (fVar 5))) aNil))))) (k + 1)
      [.val (.int p),.val (.int a),.val (.int h),.val (.int l),.val (.int f),.val (.int n),c6] s = some (.next [.val (.int p),.val (.int a),.val (.int h'),.val (.int 0),.val (.int f'),.val (.int n'),c6'],s))∧InvI p a h' 0 f' n':=by
  have test:∀ (h l f n:Int) (c6:Ce) (s:Sx),asT (fVar 3) [.val (.int p),.val (.int a),.val (.int h),.val (.int l),.val (.int f),.val (.int n),c6] s = some (l != 0,s):=fun h l f n c6 s => rfl
  intro k
  induction k with
  | zero =>
    intro h l f n c6 hk I
    have:l = 0:=by have:=I.l0; omega
    subst this
    exact ⟨h,f,n,c6,fun s => while_stop (test _ _ _ _ _ s),I⟩
  | succ k ih =>
    intro h l f n c6 hk I
    by_cases hl:l = 0
    · subst hl
      exact ⟨h,f,n,c6,fun s => while_stop (test _ _ _ _ _ s),I⟩
    · have l0:0 < l:=by have:=I.l0; omega
      have I2:=I.step l0
      have d:=I2.lh
      have hq:(h.fdiv l).natAbs ≤ 1000:=Nat.le_trans (PySem.natAbs_fdiv_le h l) (by have:=I.lh; have:=I.hp; omega)
      have hn:=I.nb l0
      have bq:Bt 10 (h.fdiv l):=Nat.lt_of_le_of_lt hq (by decide)
      have bl:Bt 10 l:=Nat.lt_of_le_of_lt (show l.natAbs ≤ 1000 by have:=I.lh; have:=I.hp; omega) (by decide)
      have bn:Bt 10 n:=Nat.lt_of_le_of_lt (show n.natAbs ≤ 1000 by have:=I.lh; have:=I.hp; omega) (by decide)
      have m1:mulOk (h.fdiv l) l = true:=bq.ok bl (by decide)
      have m2:mulOk (h.fdiv l) n = true:=bq.ok bn (by decide)
      have dv:divOk h l = true:=bl.div hl (by decide)
      obtain ⟨h',f',n',c6',e,I'⟩:=ih l (h - h.fdiv l * l) n (f - h.fdiv l * n) (.val (.int (h.fdiv l))) (by have:=I2.l0; omega) I2
      refine ⟨h',f',n',c6',fun s => while_step2 (by rw [test]; simp [hl]) ?_ (e s),I'⟩
      have a1:sSet 6 (f2 gDivI (fVar 2) (fVar 3)) [.val (.int p),.val (.int a),.val (.int h),.val (.int l),.val (.int f),.val (.int n),c6] s = some (.next [.val (.int p),.val (.int a),.val (.int h),.val (.int l),.val (.int f),.val (.int n),.val (.int (h.fdiv l))],s):=sSet_run (f2_run (a:=.int h) (b:=.int l) rfl rfl (by simp only [gDivI,gI,dv,if_true]))
      have a2:sPar 2 3 (aCons (fVar 3) (aCons (f2 gSubI (fVar 2) (f2 gMulI (fVar 6) (fVar 3))) aNil)) [.val (.int p),.val (.int a),.val (.int h),.val (.int l),.val (.int f),.val (.int n),.val (.int (h.fdiv l))] s = some (.next [.val (.int p),.val (.int a),.val (.int l),.val (.int (h - h.fdiv l * l)),.val (.int f),.val (.int n),.val (.int (h.fdiv l))],s):=by
        unfold sPar
        rw [aCons_run (F:=fVar 3) rfl (aCons_run (FL:=aNil) (f2_run (a:=.int h) (b:=.int (h.fdiv l * l)) (d:=.int (h - h.fdiv l * l)) rfl (f2_run (a:=.int (h.fdiv l)) (b:=.int l) rfl rfl (by simp only [gMulI,gI,m1,if_true])) (by simp only [gSubI,gI,if_true])) rfl)]
        rfl
      have a3:sPar 4 5 (aCons (fVar 5) (aCons (f2 gSubI (fVar 4) (f2 gMulI (fVar 6) (fVar 5))) aNil)) [.val (.int p),.val (.int a),.val (.int l),.val (.int (h - h.fdiv l * l)),.val (.int f),.val (.int n),.val (.int (h.fdiv l))] s = some (.next [.val (.int p),.val (.int a),.val (.int l),.val (.int (h - h.fdiv l * l)),.val (.int n),.val (.int (f - h.fdiv l * n)),.val (.int (h.fdiv l))],s):=by
        unfold sPar
        rw [aCons_run (F:=fVar 5) rfl (aCons_run (FL:=aNil) (f2_run (a:=.int f) (b:=.int (h.fdiv l * n)) (d:=.int (f - h.fdiv l * n)) rfl (f2_run (a:=.int (h.fdiv l)) (b:=.int n) rfl rfl (by simp only [gMulI,gI,m2,if_true])) (by simp only [gSubI,gI,if_true])) rfl)]
        rfl
      rw [sSeq_next a1,sSeq_next a2,a3]
theorem fmod_mod (x p:Int) (h:0 < p):0 ≤ x.fmod p∧x.fmod p < p∧∃ k:Int,x.fmod p = x + k * p:=by
  rw [Int.fmod_eq_emod_of_nonneg _ (by omega)]
  exact ⟨Int.emod_nonneg _ (by omega),Int.emod_lt_of_pos _ h,-(x / p),by rw [Int.emod_def,Int.mul_comm,Int.neg_mul]; omega⟩
theorem inverse_run {p a:Int} (hp:p ≤ 1000) (h0:0 < a) (h1:a < p) (hg:Int.gcd p a = 1) :
    ∃ r:Int,(∀ s,g_inverse_by [.int p,.int a] s = some (.int r,s))∧0 ≤ r∧r < p∧∃ k:Int,r * a = 1 + k * p:=by
  have I0:InvI p a p a 0 1:=⟨by omega,h1,Int.le_refl _,⟨1,.inl rfl,by decide,by decide,by omega⟩,⟨-1,by omega⟩,⟨0,by omega⟩,rfl⟩
  obtain ⟨h',f',n',c6',e,I'⟩:=inv_loop hp a.toNat p a 0 1 .non (Nat.le_refl _) I0
  have h1':h' = 1:=by
    have h:=I'.gc
    rw [hg,Int.gcd_zero_right] at h
    have:=I'.lh
    omega
  subst h1'
  obtain ⟨m0,m1,k1,m2⟩:=fmod_mod f' p (by omega)
  obtain ⟨k2,h2⟩:=I'.cf
  refine ⟨f'.fmod p,fun s => fn_run (n:=2) (m:=5) (G:=G_inverse_by) rfl ?_,m0,m1,k2 + k1 * a,?_⟩
  · show G_inverse_by [.val (.int p),.val (.int a),.non,.non,.non,.non,.non] s = _
    have a1:sPar 2 3 (aCons (fVar 0) (aCons (fVar 1) aNil)) [.val (.int p),.val (.int a),.non,.non,.non,.non,.non] s = some (.next [.val (.int p),.val (.int a),.val (.int p),.val (.int a),.non,.non,.non],s):=rfl
    have a2:sUnp (.tup [4,5]) (eTup (aCons (fC (.int 0)) (aCons (fC (.int 1)) aNil))) [.val (.int p),.val (.int a),.val (.int p),.val (.int a),.non,.non,.non] s = some (.next [.val (.int p),.val (.int a),.val (.int p),.val (.int a),.val (.int 0),.val (.int 1),.non],s):=by
      unfold sUnp
      rw [eTup_run (ds:=[.int 0,.int 1]) rfl (small2 _ _)]; rfl
    have a3:W_inverse_by_1 [.val (.int p),.val (.int a),.val (.int p),.val (.int a),.val (.int 0),.val (.int 1),.non] s = _:=whileN_mono (e s) (by unfold fuel; omega)
    unfold G_inverse_by
    rw [sSeq_next a1,sSeq_next a2,sSeq_next a3]
    unfold sRet
    exact congrArg (Option.map _) (f2_run (a:=.int f') (b:=.int p) rfl rfl (by simp only [gModI,gI,decide_eq_true (show p ≠ 0 by omega),if_true]))
  · rw [m2,Int.add_mul,h2]; grind
theorem primes_gcd:∀ p ∈ ([2,3,5,7,11,13,101,997]:List Nat),∀ a:Fin 1000,0 < a.val→a.val < p→Nat.gcd p a.val = 1:=by decide +kernel
noncomputable def Prm (p:Int):Prop:=∃ n ∈ ([2,3,5,7,11,13,101,997]:List Nat),p = (n:Int)
theorem Prm.two {p:Int} (h:Prm p):2 ≤ p∧p ≤ 997:=by
  obtain ⟨n,hn,rfl⟩:=h
  simp only [List.mem_cons,List.not_mem_nil,or_false] at hn
  omega
theorem Prm.gcd {p a:Int} (h:Prm p) (h0:0 < a) (h1:a < p):Int.gcd p a = 1:=by
  have ht:=h.two
  obtain ⟨n,hn,rfl⟩:=h
  have:=primes_gcd n hn ⟨a.toNat,by omega⟩ (by show 0 < a.toNat; omega) (by show a.toNat < n; omega)
  unfold Int.gcd
  rw [show a.natAbs = a.toNat by omega]
  exact this
theorem Prm.dvd {p x b:Int} (h:Prm p) (hx:p ∣ x * b) (hb:¬ p ∣ b):p ∣ x:=by
  have ht:=h.two
  have hm:0 < b % p:=by
    have h1:=Int.emod_nonneg b (show p ≠ 0 by omega)
    have:b % p ≠ 0:=fun z => hb (Int.dvd_of_emod_eq_zero z)
    omega
  have hg:Int.gcd p (b % p) = 1:=h.gcd hm (Int.emod_lt_of_pos _ (by omega))
  have hg2:Nat.Coprime p.natAbs b.natAbs:=by
    rw [Int.emod_def,Int.gcd_sub_mul_left_right] at hg
    exact hg
  have hx2:p.natAbs ∣ x.natAbs * b.natAbs:=by rw [← Int.natAbs_mul]; exact Int.natAbs_dvd_natAbs.mpr hx
  exact Int.natAbs_dvd_natAbs.mp (Nat.Coprime.dvd_of_dvd_mul_right hg2 hx2)

noncomputable def zc (l:List Int) (k:Nat):Int:=l.getD k 0
theorem zc_at {l:List Int} {k:Nat} (h:k < l.length):zc l k = l[k]:=by unfold zc; rw [List.getD_eq_getElem?_getD,List.getElem?_eq_getElem h]; rfl
theorem zc_out {l:List Int} {k:Nat} (h:l.length ≤ k):zc l k = 0:=by unfold zc; rw [List.getD_eq_getElem?_getD,List.getElem?_eq_none h]; rfl
theorem zc_get {l:List Int} {k:Nat} (h:k < l.length):(l.map PyData.int)[k]? = some (.int (zc l k)):=by rw [zc_at h,List.getElem?_map,List.getElem?_eq_getElem h]; rfl
theorem zc_set {l:List Int} {j k:Nat} {v:Int} (h:j < l.length):zc (l.set j v) k = if k = j then v else zc l k:=by
  unfold zc
  rw [List.getD_eq_getElem?_getD,List.getD_eq_getElem?_getD,List.getElem?_set]
  by_cases hk:j = k
  · subst hk; rw [if_pos rfl,if_pos h,if_pos rfl]; rfl
  · rw [if_neg hk,if_neg (Ne.symm hk)]
noncomputable def Rs (p:Int) (l:List Int):Prop:=∀ x ∈ l,0 ≤ x∧x < p
theorem Rs.zc {p:Int} {l:List Int} (h:Rs p l) (hp:0 < p) (k:Nat):0 ≤ zc l k∧zc l k < p:=by
  by_cases hk:k < l.length
  · rw [zc_at hk]; exact h _ (List.getElem_mem hk)
  · rw [zc_out (by omega)]; omega
theorem Rs.set {p:Int} {l:List Int} {j:Nat} {v:Int} (h:Rs p l) (h0:0 ≤ v) (h1:v < p):Rs p (l.set j v):=fun x hx => by
  rcases List.mem_or_eq_of_mem_set hx with hx | rfl
  · exact h x hx
  · exact ⟨h0,h1⟩
noncomputable def fieldP (p:Int):D:=.dict [(.str "",.str "PrimeField"),(.str "prime",.int p),(.str "nought",.int 0),(.str "unit",.int 1)]
theorem fldN (p:Int):gFld ["PrimeField"] "nought" (fieldP p) = some (.int 0):=by
  simp [gFld,fieldP,lookF]
  intro h
  exact absurd h (by decide)
theorem fldP (p:Int):gFld ["PrimeField"] "prime" (fieldP p) = some (.int p):=by simp [gFld,fieldP,lookF]
theorem makeP {F:FE} {δ:Sl} {s:Sx} {p:Int} (h:F δ s = some (.int p,s)):fMake "PrimeField" ["prime","nought","unit"] gI_PrimeField (aCons F aNil) δ s = some (fieldP p,s):=by
  unfold fMake
  rw [aCons_run (FL:=aNil) h rfl]; rfl
theorem methP {p:Int} {m:Str} {g:GF} {Fo:FE} {FL:FA} {δ:Sl} {s s1:Sx} {ds:List D} {r:Option (D × Sx)} (h0:Fo δ s = some (fieldP p,s)) (h1:FL δ s = some (ds,s1)) (e:g (fieldP p :: ds) s1 = r)
    (hm:lookF m [(.str "prime",.int p),(.str "nought",.int 0),(.str "unit",.int 1)] = none):fMeth [("PrimeField",g)] m Fo FL δ s = r:=by
  unfold fMeth
  rw [h0]
  simp only [Option.bind_some,fieldP]
  rw [if_pos (by rw [hm]; rfl)]
  simp only [List.lookup,beq_self_eq_true,Option.bind_some,h1]
  exact e
theorem mod_p {p:Int} (h:0 < p) (x:Int):gModI (.int x) (.int p) = some (.int (x.fmod p)):=by simp only [gModI,gI,decide_eq_true (show p ≠ 0 by omega),if_true]
theorem subP {p a b:Int} (s:Sx) (h:0 < p):g_PrimeField_lessened [fieldP p,.int a,.int b] s = some (.int ((a - b).fmod p),s):=by
  refine fn_run (n:=3) (m:=0) (G:=G_PrimeField_lessened) rfl ?_
  show G_PrimeField_lessened [.val (fieldP p),.val (.int a),.val (.int b)] s = _
  unfold G_PrimeField_lessened sRet
  exact congrArg (Option.map _) (f2_run (a:=.int (a - b)) (b:=.int p) (f2_run (a:=.int a) (b:=.int b) rfl rfl (by simp only [gSubI,gI,if_true])) (f1_run (a:=fieldP p) rfl (fldP p)) (mod_p h _))
theorem bt10 {p a:Int} (hp:p ≤ 1000) (h:0 ≤ a∧a < p):Bt 10 a:=Nat.lt_of_lt_of_le (show a.natAbs < 1000 by omega) (by decide)
theorem mulP {p a b:Int} (s:Sx) (h:0 < p) (hp:p ≤ 1000) (ha:0 ≤ a∧a < p) (hb:0 ≤ b∧b < p):g_PrimeField_multiplied [fieldP p,.int a,.int b] s = some (.int ((a * b).fmod p),s):=by
  have mk:mulOk a b = true:=(bt10 hp ha).ok (bt10 hp hb) (by decide)
  refine fn_run (n:=3) (m:=0) (G:=G_PrimeField_multiplied) rfl ?_
  show G_PrimeField_multiplied [.val (fieldP p),.val (.int a),.val (.int b)] s = _
  unfold G_PrimeField_multiplied sRet
  exact congrArg (Option.map _) (f2_run (a:=.int (a * b)) (b:=.int p) (f2_run (a:=.int a) (b:=.int b) rfl rfl (by simp only [gMulI,gI,mk,if_true])) (f1_run (a:=fieldP p) rfl (fldP p)) (mod_p h _))
theorem divP {p a b:Int} (hp:Prm p) (ha:0 ≤ a∧a < p) (hb:0 < b∧b < p):∃ q:Int,(∀ s,g_PrimeField_divided [fieldP p,.int a,.int b] s = some (.int q,s))∧(0 ≤ q∧q < p)∧p ∣ q * b - a:=by
  have ht:=hp.two
  obtain ⟨v,ev,v0,v1,k1,hv⟩:=inverse_run (p:=p) (by omega) hb.1 hb.2 (hp.gcd hb.1 hb.2)
  obtain ⟨n0,n1,k2,n2⟩:=fmod_mod (a * v) p (by omega)
  have mk:mulOk a v = true:=(bt10 (by omega) ha).ok (bt10 (p:=p) (by omega) ⟨v0,v1⟩) (by decide)
  refine ⟨(a * v).fmod p,fun s => fn_run (n:=3) (m:=0) (G:=G_PrimeField_divided) rfl ?_,⟨n0,n1⟩,a * k1 + k2 * b,?_⟩
  · show G_PrimeField_divided [.val (fieldP p),.val (.int a),.val (.int b)] s = _
    unfold G_PrimeField_divided sRet
    exact congrArg (Option.map _) (f2_run (a:=.int (a * v)) (b:=.int p) (f2_run (a:=.int a) (b:=.int v) rfl (fCall_run (ds:=[.int p,.int b]) (aCons_run (f1_run (a:=fieldP p) rfl (fldP p)) (aCons_run (F:=fVar 2) (FL:=aNil) rfl rfl)) (ev s)) (by simp only [gMulI,gI,mk,if_true])) (f1_run (a:=fieldP p) rfl (fldP p)) (mod_p (by omega) _))
  · rw [n2,show (a * v + k2 * p) * b - a = a * (v * b) + k2 * p * b - a by grind,hv]; grind
noncomputable def tzn (l:List Int):Nat→Nat
  | 0 => 0
  | n + 1 => if zc l n = 0 then tzn l n else n + 1
noncomputable def tz (l:List Int):List Int:=l.take (tzn l l.length)
theorem tzn_le (l:List Int):∀ n,tzn l n ≤ n
  | 0 => Nat.le_refl _
  | n + 1 => by
    unfold tzn
    split
    · exact Nat.le_succ_of_le (tzn_le l n)
    · exact Nat.le_refl _
theorem tzn_zero (l:List Int):∀ n k,tzn l n ≤ k→k < n→zc l k = 0
  | 0,k,_,h => absurd h (Nat.not_lt_zero _)
  | n + 1,k,h1,h2 => by
    unfold tzn at h1
    split at h1
    · rename_i hz
      by_cases hk:k = n
      · subst hk; exact hz
      · exact tzn_zero l n k h1 (by omega)
    · omega
theorem tzn_last (l:List Int):∀ n,0 < tzn l n→zc l (tzn l n - 1) ≠ 0
  | 0,h => absurd h (Nat.lt_irrefl _)
  | n + 1,h => by
    by_cases hz:zc l n = 0
    · rw [tzn,if_pos hz] at h ⊢
      exact tzn_last l n h
    · rw [tzn,if_neg hz]
      exact hz
theorem zc_tz (l:List Int) (k:Nat):zc (tz l) k = zc l k:=by
  unfold tz
  have hle:=tzn_le l l.length
  by_cases h:k < tzn l l.length
  · unfold zc
    rw [List.getD_eq_getElem?_getD,List.getD_eq_getElem?_getD,List.getElem?_take,if_pos h]
  · rw [zc_out (by rw [List.length_take]; omega)]
    by_cases hk:k < l.length
    · exact (tzn_zero l _ k (by omega) hk).symm
    · exact (zc_out (by omega)).symm
theorem tz_len (l:List Int):(tz l).length = tzn l l.length:=by unfold tz; rw [List.length_take]; exact Nat.min_eq_left (tzn_le l _)
theorem tz_le (l:List Int):(tz l).length ≤ l.length:=by rw [tz_len]; exact tzn_le l _
theorem tz_last {l:List Int} (h:0 < (tz l).length):zc (tz l) ((tz l).length - 1) ≠ 0:=by
  rw [zc_tz,tz_len]
  rw [tz_len] at h
  exact tzn_last l _ h
theorem Rs.tz {p:Int} {l:List Int} (h:Rs p l):Rs p (tz l):=fun x hx => h x (List.mem_of_mem_take hx)
theorem tz_small {l:List Int} {n:Nat} (h:∀ k,n ≤ k→zc l k = 0):(Law.tz l).length ≤ n:=by
  by_cases h0:0 < (Law.tz l).length
  · have h1:=tz_last h0
    rw [zc_tz] at h1
    have:¬ n ≤ (Law.tz l).length - 1:=fun z => h1 (h _ z)
    omega
  · omega
theorem ix_ints {d:D} {l:List Int} {k:Nat} (h:seqOf d = some (l.map .int)) (hk:k < l.length):gIx d (.int (k:Int)) = some (.int (zc l k)):=by
  rw [ix_seq h]
  exact L3.atI_nat (zc_get hk)
theorem trimmed_ints {row:D} {l:List Int} (s:Sx) (hl:seqOf row = some (l.map .int)) (hb:l.length ≤ 1000):g_trimmed [.int 0,row] s = some (.tuple ((tz l).map .int),s):=by
  have loop:∀ k:Nat,k ≤ l.length→whileN (tAndF (asB (f2 gGt (fVar 2) (fC (.int 0)))) (asB (f2 gEq (f2 gIx (fVar 1) (f2 gSubI (fVar 2) (fC (.int 1)))) (fVar 0)))) (sAug 2 gSubI (fC (.int 1))) (k + 1) [.val (.int 0),.val row,.val (.int (k:Int))] s = some (.next [.val (.int 0),.val row,.val (.int (tzn l k:Int))],s):=by
    intro k
    induction k with
    | zero => intro _; exact while_stop rfl
    | succ k ih =>
      intro hk
      have t1:tAndF (asB (f2 gGt (fVar 2) (fC (.int 0)))) (asB (f2 gEq (f2 gIx (fVar 1) (f2 gSubI (fVar 2) (fC (.int 1)))) (fVar 0))) [.val (.int 0),.val row,.val (.int ((k + 1:Nat):Int))] s = some (decide (zc l k = 0),s) :=
        tAndF_t (asB_r (b:=true) (f2_run (a:=.int ((k + 1:Nat):Int)) (b:=.int 0) rfl rfl (by simp only [gGt,gI,if_true,decide_eq_true (show (0:Int) < ((k + 1:Nat):Int) by omega)]))) (asB_r (f2_run (a:=.int (zc l k)) (b:=.int 0) (f2_run (a:=row) (b:=.int (k:Int)) rfl (f2_run (a:=.int ((k + 1:Nat):Int)) (b:=.int 1) rfl rfl (by rw [show (k:Int) = ((k + 1:Nat):Int) - 1 by omega]; simp only [gSubI,gI,if_true])) (ix_ints hl (by omega))) rfl (gEq_int _ _)))
      by_cases hz:zc l k = 0
      · rw [decide_eq_true hz] at t1
        rw [tzn,if_pos hz]
        refine while_step2 t1 ?_ (ih (by omega))
        unfold sAug
        show some (Out.next [.val (.int 0),.val row,.val (.int (((k + 1:Nat):Int) - 1))],s) = _
        rw [show ((k + 1:Nat):Int) - 1 = (k:Int) by omega]
      · rw [decide_eq_false hz] at t1
        rw [tzn,if_neg hz]
        exact while_stop t1
  refine fn_run (n:=2) (m:=1) (G:=G_trimmed) rfl ?_
  show G_trimmed [.val (.int 0),.val row,.non] s = _
  have e1:sSet 2 (f1 gLen (fVar 1)) [.val (.int 0),.val row,.non] s = some (.next [.val (.int 0),.val row,.val (.int (l.length:Int))],s):=sSet_run (f1_run (a:=row) rfl (by rw [len_seq hl,List.length_map]))
  have e2:W_trimmed_1 [.val (.int 0),.val row,.val (.int (l.length:Int))] s = some (.next [.val (.int 0),.val row,.val (.int (tzn l l.length:Int))],s):=whileN_mono (loop l.length (Nat.le_refl _)) (by unfold fuel; omega)
  have hc:L3.cutD (l.map PyData.int) none (some (tzn l l.length:Int)) = (tz l).map .int:=by
    unfold L3.cutD tz
    rw [HT.sIx_nat,HT.sIx_none,List.drop_zero,Nat.sub_zero,List.length_map,Nat.min_eq_left (tzn_le l _),List.map_take]
  obtain ⟨d,e3,e4⟩:∃ d,gSlD row none (some (tzn l l.length:Int)) = some d∧gTuple d = some (.tuple ((tz l).map .int)):=by
    cases row with
    | list xs => cases hl; exact ⟨.list ((tz l).map .int),by simp [gSlD,hc],rfl⟩
    | tuple xs => cases hl; exact ⟨.tuple ((tz l).map .int),by simp [gSlD,hc],rfl⟩
    | _ => cases hl
  unfold G_trimmed
  rw [sSeq_next e1,sSeq_next e2]
  unfold sRet
  refine congrArg (Option.map _) (f1_run (a:=d) (s1:=s) ?_ e4)
  unfold fSl
  show ((gSlD row none (some (tzn l l.length:Int))).map _) = _
  rw [e3]; rfl

noncomputable def shz (s:Nat) (b:Nat→Int) (k:Nat):Int:=if s ≤ k then b (k - s) else 0
noncomputable def cvz (a b:Nat→Int) (k:Nat):Nat→Int
  | 0 => 0
  | n + 1 => cvz a b k n + a n * shz n b k
theorem cvz_set {a b:Nat→Int} {k s:Nat} {w:Int}:∀ n,cvz (fun i => if i = s then w else a i) b k n = cvz a b k n + (if s < n then (w - a s) * shz s b k else 0)
  | 0 => by simp [cvz]
  | n + 1 => by
    rw [cvz,cvz,cvz_set n]
    by_cases h:n = s
    · subst h
      rw [if_pos rfl,if_neg (Nat.lt_irrefl _),if_pos (Nat.lt_succ_self _)]; grind
    · rw [if_neg h]
      by_cases h2:s < n
      · rw [if_pos h2,if_pos (by omega)]; grind
      · rw [if_neg h2,if_neg (by omega)]; grind
theorem cvz_ext {a b:Nat→Int} {k m:Nat}:∀ n,m ≤ n→(∀ i,m ≤ i→i < n→a i = 0)→cvz a b k n = cvz a b k m
  | 0, h, _ => by have : m = 0 := by omega
                  rw [this]
  | n + 1,h,hz => by
    by_cases hm:m = n + 1
    · rw [hm]
    · rw [cvz,hz n (by omega) (Nat.lt_succ_self _),Int.zero_mul,Int.add_zero]
      exact cvz_ext n (by omega) fun i h1 h2 => hz i h1 (by omega)
theorem cvz_congr {a a' b:Nat→Int} {k:Nat}:∀ n,(∀ i,i < n→a i = a' i)→cvz a b k n = cvz a' b k n
  | 0,_ => rfl
  | n + 1,h => by rw [cvz,cvz,cvz_congr n fun i hi => h i (by omega),h n (Nat.lt_succ_self _)]
theorem dvd_small {p x:Int} (h0:0 ≤ x) (h1:x < p) (h:p ∣ x):x = 0:=by
  obtain ⟨k,hk⟩:=h
  rcases Int.lt_trichotomy k 0 with h2 | h2 | h2
  · have:=Int.mul_le_mul_of_nonneg_left (show k ≤ -1 by omega) (show 0 ≤ p by omega)
    omega
  · rw [h2] at hk; omega
  · have:=Int.mul_le_mul_of_nonneg_left (show 1 ≤ k by omega) (show 0 ≤ p by omega)
    omega
theorem dvd_fmod {p x:Int} (h:0 < p):p ∣ x.fmod p - x:=by
  obtain ⟨_,_,k,hk⟩:=fmod_mod x p h
  exact ⟨k,by rw [hk]; grind⟩
theorem fmod_rng {p x:Int} (h:0 < p):0 ≤ x.fmod p∧x.fmod p < p:=⟨(fmod_mod x p h).1,(fmod_mod x p h).2.1⟩
theorem zc_mapset {l:List Int} {j:Nat} {v:Int}:(l.map PyData.int).set j (.int v) = (l.set j v).map .int:=by rw [List.map_set]
theorem ixw {l:List Int} {i j:Nat} {δ:Sl} {s:Sx} {F:FE} (hi:δ[i]? = some (.own (l.map .int))) (hF:F δ s = some (.int (j:Int),s)) (hj:j < l.length):f2 gIx (fVarW i) F δ s = some (.int (zc l j),s) :=
  f2_run (a:=.list (l.map .int)) (b:=.int (j:Int)) (by unfold fVarW; rw [hi]) hF (ix_ints (d:=.list (l.map .int)) rfl hj)
theorem inner_run {p:Int} {od othd c4:D} {other rest often:List Int} {sft:Nat} {w:Int} {c8 c9:Ce} (s:Sx) (hp:Prm p) (ho:seqOf othd = some (other.map .int)) (hO:Rs p other) (hR:Rs p rest) (hw:0 ≤ w∧w < p) (hl:sft + other.length ≤ rest.length) (hol:other.length ≤ 1000) :
    ∃ (rest':List Int) (c8' c9':Ce),L_parted_in_2 [.val (fieldP p),.val od,.val othd,.own (rest.map .int),.val c4,.own (often.map .int),.val (.int (sft:Int)),.val (.int w),c8,c9] s = some (.next [.val (fieldP p),.val od,.val othd,.own (rest'.map .int),.val c4,.own (often.map .int),.val (.int (sft:Int)),.val (.int w),c8',c9'],s) ∧
      rest'.length = rest.length∧Rs p rest'∧∀ k,p ∣ zc rest' k - (zc rest k - w * shz sft (zc other) k):=by
  have ht:=hp.two
  obtain ⟨δ',s',e,hs,rest',x8,x9,hδ,l1,hR',hc⟩:=forD_at (T:=.tup [8,9]) (G:=B_parted_in_1) (fun t δ s' => s' = s∧∃ (rest':List Int) (x8 x9:Ce),δ = [.val (fieldP p),.val od,.val othd,.own (rest'.map .int),.val c4,.own (often.map .int),.val (.int (sft:Int)),.val (.int w),x8,x9]∧rest'.length = rest.length∧Rs p rest'∧∀ k,p ∣ zc rest' k - (zc rest k - (if sft ≤ k∧k < sft + t then w * zc other (k - sft) else 0)))
    (enumD (other.map .int)) [.val (fieldP p),.val od,.val othd,.own (rest.map .int),.val c4,.own (often.map .int),.val (.int (sft:Int)),.val (.int w),c8,c9] s ⟨rfl,rest,c8,c9,rfl,rfl,hR,fun k => by rw [if_neg (by omega)]; exact ⟨0,by omega⟩⟩ (fun t d δ s' hd x__181 => by
      obtain ⟨hs,r,x8,x9,hδ,l1,hR',hc⟩:=x__181
      subst hs hδ
      obtain ⟨x,hx,rfl⟩:=enumD_get hd
      have htl:t < other.length:=by
        by_cases h:t < other.length
        · exact h
        · rw [List.getElem?_eq_none (by rw [List.length_map]; omega)] at hx; cases hx
      rw [zc_get htl] at hx
      cases hx
      have hz:=hO.zc (by omega) t
      have m1:=fmod_rng (p:=p) (x:=w * zc other t) (by omega)
      have m2:=fmod_rng (p:=p) (x:=zc r (sft + t) - (w * zc other t).fmod p) (by omega)
      refine ⟨[.val (fieldP p),.val od,.val othd,.own (r.map .int),.val c4,.own (often.map .int),.val (.int (sft:Int)),.val (.int w),.val (.int (t:Int)),.val (.int (zc other t))],_,s',rfl,?_,rfl,r.set (sft + t) ((zc r (sft + t) - (w * zc other t).fmod p).fmod p),.val (.int (t:Int)),.val (.int (zc other t)),rfl,by rw [List.length_set]; exact l1,hR'.set m2.1 m2.2,fun k => ?_⟩
      · have ad:f2 gAdd (fVar 6) (fVar 8) [.val (fieldP p),.val od,.val othd,.own (r.map .int),.val c4,.own (often.map .int),.val (.int (sft:Int)),.val (.int w),.val (.int (t:Int)),.val (.int (zc other t))] s' = some (.int ((sft + t:Nat):Int),s'):=f2_run (a:=.int (sft:Int)) (b:=.int (t:Int)) rfl rfl (add_int sft t)
        refine (sPut_run (v:=.int ((zc r (sft + t) - (w * zc other t).fmod p).fmod p)) (k:=.int ((sft + t:Nat):Int)) (xs:=r.map .int) (ys:=(r.set (sft + t) ((zc r (sft + t) - (w * zc other t).fmod p).fmod p)).map .int) (s1:=s') ?_ ad rfl ?_).trans rfl
        · exact methP (p:=p) (Fo:=fVar 0) rfl (aCons_run (ixw rfl ad (by omega)) (aCons_run (FL:=aNil) (methP (p:=p) (Fo:=fVar 0) rfl (aCons_run (F:=fVar 7) rfl (aCons_run (F:=fVar 9) (FL:=aNil) rfl rfl)) (mulP s' (by omega) (by omega) hw hz) rfl) rfl)) (subP s' (by omega)) rfl
        · rw [put_at (by rw [List.length_map]; omega),zc_mapset]
      · rw [zc_set (by omega)]
        by_cases hk:k = sft + t
        · subst hk
          rw [if_pos rfl,if_pos (by omega)]
          have c:=hc (sft + t)
          rw [if_neg (by omega)] at c
          obtain ⟨k1,h1⟩:=c
          obtain ⟨k2,h2⟩:=dvd_fmod (p:=p) (x:=w * zc other t) (by omega)
          obtain ⟨k3,h3⟩:=dvd_fmod (p:=p) (x:=zc r (sft + t) - (w * zc other t).fmod p) (by omega)
          rw [show sft + t - sft = t by omega]
          exact ⟨k1 - k2 + k3,by grind⟩
        · rw [if_neg hk]
          have c:=hc k
          by_cases h2:sft ≤ k∧k < sft + t
          · rw [if_pos h2] at c; rw [if_pos (by omega)]; exact c
          · rw [if_neg h2] at c; rw [if_neg (by omega)]; exact c)
  subst hs hδ
  rw [enumD_len,List.length_map] at hc
  refine ⟨rest',x8,x9,?_,l1,hR',fun k => ?_⟩
  · have ei:iEnumF (fVar 2) [.val (fieldP p),.val od,.val othd,.own (rest.map .int),.val c4,.own (often.map .int),.val (.int (sft:Int)),.val (.int w),c8,c9] s' = some (enumD (other.map .int),s'):=by
      unfold iEnumF
      show ((seqOf othd).map _) = _
      rw [ho]; rfl
    unfold L_parted_in_2 sFor
    rw [ei]
    exact e
  · have c:=hc k
    unfold shz
    by_cases h1:sft ≤ k
    · rw [if_pos h1]
      by_cases h2:k < sft + other.length
      · rw [if_pos ⟨h1,h2⟩] at c; exact c
      · rw [if_neg (by omega)] at c
        rw [zc_out (show other.length ≤ k - sft by omega),Int.mul_zero]; exact c
    · rw [if_neg (by omega)] at c
      rw [if_neg h1,Int.mul_zero]; exact c
theorem pRev_run {F:FE} {δ:Sl} {s s':Sx} {z:Int} (e:F δ s = some (.int z,s')) (h0:0 ≤ z) (h1:z ≤ 1000):iRevRange F δ s = some (rngDn z.toNat,s'):=by
  have r1:=rOk_le h0 h1
  unfold iRevRange
  rw [e]
  simp only [Option.bind_some,r1,if_true]
theorem last_ix {d:D} {l:List Int} (h:seqOf d = some (l.map .int)) (h0:0 < l.length):gIx d (.int (-1)) = some (.int (zc l (l.length - 1))):=by
  rw [ix_seq h]
  have e:=L3.atI_nat (zc_get (l:=l) (k:=l.length - 1) (by omega))
  unfold L2.atI ixN at e ⊢
  rw [List.length_map] at e ⊢
  rw [if_pos (by omega),if_pos (by omega)] at e
  rw [if_neg (by decide),if_pos (by omega)]
  simp only [Option.bind_some] at e ⊢
  rw [show (-1 + (l.length:Int)).toNat = (((l.length - 1:Nat):Int)).toNat by omega]
  exact e
theorem Prm.unit {p:Int} {l:List Int} {k:Nat} (hp:Prm p) (h:Rs p l) (h0:zc l k ≠ 0):0 < zc l k∧zc l k < p∧¬ p ∣ zc l k:=by
  have ht:=hp.two
  have hz:=h.zc (by omega) k
  exact ⟨by omega,hz.2,fun z => h0 (dvd_small hz.1 hz.2 z)⟩
theorem outer_run {p:Int} {od othd:D} {one other:List Int} {st:Nat} (s:Sx) (hp:Prm p) (ho:seqOf othd = some (other.map .int)) (h0:0 < other.length) (hlast:zc other (other.length - 1) ≠ 0) (hO:Rs p other) (h1:Rs p one) (hst:st = one.length + 1 - other.length) (hlen:one.length ≤ 100) (hol:other.length ≤ 100) :
    ∃ (rest often:List Int) (c6 c7 c8 c9:Ce),L_parted_in_4 [.val (fieldP p),.val od,.val othd,.own (one.map .int),.val (.int (st:Int)),.own ((List.replicate st (0:Int)).map .int),.non,.non,.non,.non] s = some (.next [.val (fieldP p),.val od,.val othd,.own (rest.map .int),.val (.int (st:Int)),.own (often.map .int),c6,c7,c8,c9],s) ∧
      often.length = st∧rest.length = one.length∧Rs p rest∧Rs p often∧(∀ k,p ∣ zc one k - (zc rest k + cvz (zc often) (zc other) k st))∧∀ k,other.length - 1 ≤ k→zc rest k = 0:=by
  have ht:=hp.two
  have hu:=hp.unit hO hlast
  have z0:∀ i,zc (List.replicate st (0:Int)) i = 0:=fun i => by
    unfold zc
    rw [List.getD_eq_getElem?_getD,List.getElem?_replicate]
    split <;> rfl
  have cv0:∀ n k,cvz (zc (List.replicate st (0:Int))) (zc other) k n = 0:=fun n k => by
    induction n with
    | zero => rfl
    | succ n ih => rw [cvz,ih,z0]; omega
  obtain ⟨δ',s',e,hs,rest,often,c6,c7,c8,c9,hδ,l1,l2,r1,r2,hc,hz,_⟩:=forD_at (T:=.one 6) (G:=B_parted_in_3) (fun j δ s' => s' = s∧∃ (rest often:List Int) (c6 c7 c8 c9:Ce),δ = [.val (fieldP p),.val od,.val othd,.own (rest.map .int),.val (.int (st:Int)),.own (often.map .int),c6,c7,c8,c9] ∧
      often.length = st∧rest.length = one.length∧Rs p rest∧Rs p often∧(∀ k,p ∣ zc one k - (zc rest k + cvz (zc often) (zc other) k st))∧(∀ k,st - j + other.length - 1 ≤ k→zc rest k = 0)∧∀ k,k < st - j→zc often k = 0)
    (rngDn st) [.val (fieldP p),.val od,.val othd,.own (one.map .int),.val (.int (st:Int)),.own ((List.replicate st (0:Int)).map .int),.non,.non,.non,.non] s
    ⟨rfl,one,List.replicate st 0,.non,.non,.non,.non,rfl,List.length_replicate,rfl,h1,(fun x hx => by rw [List.eq_of_mem_replicate hx]; omega),fun k => by rw [cv0]; exact ⟨0,by omega⟩,fun k hk => zc_out (by omega),fun k _ => z0 k⟩
    (fun j d δ s' hd x__182 => by
      obtain ⟨hs,rest,often,c6,c7,c8,c9,hδ,l1,l2,r1,r2,hc,hz,hof⟩:=x__182
      subst hs hδ
      obtain ⟨hj,rfl⟩:=rngDn_get hd
      obtain ⟨w,ew,hw,hdv⟩:=divP hp (r1.zc (by omega) (st - 1 - j + other.length - 1)) ⟨hu.1,hu.2.1⟩
      obtain ⟨rest',x8,x9,ei,l3,r3,hc3⟩:=inner_run (od:=od) (othd:=othd) (c4:=.int (st:Int)) (often:=often.set (st - 1 - j) w) (sft:=st - 1 - j) (c8:=c8) (c9:=c9) s' hp ho hO r1 hw (by omega) (by omega)
      have a1:sSet 7 (fMeth [("PrimeField",g_PrimeField_divided)] "divided" (fVar 0) (aCons (f2 gIx (fVarW 3) (f2 gSubI (f2 gAdd (fVar 6) (f1 gLen (fVar 2))) (fC (.int 1)))) (aCons (f2 gIx (fVar 2) (f1 gNeg (fC (.int 1)))) aNil))) [.val (fieldP p),.val od,.val othd,.own (rest.map .int),.val (.int (st:Int)),.own (often.map .int),.val (.int ((st - 1 - j:Nat):Int)),c7,c8,c9] s' = some (.next [.val (fieldP p),.val od,.val othd,.own (rest.map .int),.val (.int (st:Int)),.own (often.map .int),.val (.int ((st - 1 - j:Nat):Int)),.val (.int w),c8,c9],s'):=by
        refine sSet_run (methP (p:=p) (Fo:=fVar 0) rfl (aCons_run (ixw (j:=st - 1 - j + other.length - 1) rfl (f2_run (a:=.int ((st - 1 - j + other.length:Nat):Int)) (b:=.int 1) (f2_run (a:=.int ((st - 1 - j:Nat):Int)) (b:=.int (other.length:Int)) rfl (f1_run (a:=othd) rfl (by rw [len_seq ho,List.length_map])) (add_int _ _)) rfl (sub_one (by omega))) (by omega)) (aCons_run (FL:=aNil) (f2_run (a:=othd) (b:=.int (-1)) rfl rfl (last_ix ho h0)) rfl)) (ew s') rfl)
      have a2:sPut 5 (fVar 6) (fVar 7) [.val (fieldP p),.val od,.val othd,.own (rest.map .int),.val (.int (st:Int)),.own (often.map .int),.val (.int ((st - 1 - j:Nat):Int)),.val (.int w),c8,c9] s' = some (.next [.val (fieldP p),.val od,.val othd,.own (rest.map .int),.val (.int (st:Int)),.own ((often.set (st - 1 - j) w).map .int),.val (.int ((st - 1 - j:Nat):Int)),.val (.int w),c8,c9],s') :=
        (sPut_run (v:=.int w) (k:=.int ((st - 1 - j:Nat):Int)) (xs:=often.map .int) (ys:=(often.set (st - 1 - j) w).map .int) (s1:=s') (s2:=s') rfl rfl rfl (by rw [put_at (by rw [List.length_map]; omega),zc_mapset])).trans rfl
      refine ⟨[.val (fieldP p),.val od,.val othd,.own (rest.map .int),.val (.int (st:Int)),.own (often.map .int),.val (.int ((st - 1 - j:Nat):Int)),c7,c8,c9],_,s',rfl,?_,rfl,rest',often.set (st - 1 - j) w,.val (.int ((st - 1 - j:Nat):Int)),.val (.int w),x8,x9,rfl,by rw [List.length_set]; exact l1,l3.trans l2,r3,r2.set hw.1 hw.2,fun k => ?_,fun k hk => ?_,fun k hk => ?_⟩
      · unfold B_parted_in_3
        rw [sSeq_next a1,sSeq_next a2]
        exact ei
      · have e1:cvz (zc (often.set (st - 1 - j) w)) (zc other) k st = cvz (zc often) (zc other) k st + w * shz (st - 1 - j) (zc other) k:=by
          have:=cvz_set (a:=zc often) (b:=zc other) (k:=k) (s:=st - 1 - j) (w:=w) st
          rw [if_pos (by omega),hof (st - 1 - j) (by omega),Int.sub_zero] at this
          rw [← this]
          exact cvz_congr st fun i _ => zc_set (by omega)
        rw [e1]
        obtain ⟨k1,q1⟩:=hc k
        obtain ⟨k2,q2⟩:=hc3 k
        exact ⟨k1 - k2,by grind⟩
      · have c3:=hc3 k
        have hr:=r3.zc (by omega) k
        refine dvd_small hr.1 hr.2 ?_
        by_cases hk2:st - j + other.length - 1 ≤ k
        · rw [hz k hk2] at c3
          unfold shz at c3
          rw [if_pos (by omega),zc_out (show other.length ≤ k - (st - 1 - j) by omega)] at c3
          simpa using c3
        · have hk3:k = st - 1 - j + other.length - 1:=by omega
          subst hk3
          unfold shz at c3
          rw [if_pos (by omega),show st - 1 - j + other.length - 1 - (st - 1 - j) = other.length - 1 by omega] at c3
          obtain ⟨k1,q1⟩:=c3
          obtain ⟨k2,q2⟩:=hdv
          exact ⟨k1 - k2,by grind⟩
      · rw [zc_set (by omega),if_neg (by omega)]
        exact hof k (by omega))
  subst hs hδ
  rw [rngDn_len] at hz
  refine ⟨rest,often,c6,c7,c8,c9,?_,l1,l2,r1,r2,hc,fun k hk => hz k (by omega)⟩
  have ei:iRevRange (fVar 4) [.val (fieldP p),.val od,.val othd,.own (one.map .int),.val (.int (st:Int)),.own ((List.replicate st (0:Int)).map .int),.non,.non,.non,.non] s' = some (rngDn st,s'):=by
    have r1:=pRev_run (F:=fVar 4) (δ:=[.val (fieldP p),.val od,.val othd,.own (one.map .int),.val (.int (st:Int)),.own ((List.replicate st (0:Int)).map .int),.non,.non,.non,.non]) (s:=s') (z:=(st:Int)) rfl (Int.natCast_nonneg _) (by omega)
    rw [Int.toNat_natCast] at r1
    exact r1
  unfold L_parted_in_4 sFor
  rw [ei]
  exact e
structure Ptd (p:Int) (one other q r:List Int):Prop where
  rq:Rs p q
  rr:Rs p r
  eq:∀ k,p ∣ zc one k - (zc r k + cvz (zc q) (zc other) k q.length)
  lr:r.length < other.length
  lq:q.length ≤ one.length
  lr2:r.length ≤ one.length
  er:0 < r.length→zc r (r.length - 1) ≠ 0
  el:0 < q.length→zc q (q.length - 1) ≠ 0
theorem parted_run {p:Int} {od othd:D} {one other:List Int} (s:Sx) (hp:Prm p) (hod:seqOf od = some (one.map .int)) (ho:seqOf othd = some (other.map .int)) (h0:0 < other.length) (hlast:zc other (other.length - 1) ≠ 0) (hO:Rs p other) (h1:Rs p one) (hlen:one.length ≤ 100) (hol:other.length ≤ 100) :
    ∃ q r:List Int,g_parted_in [fieldP p,od,othd] s = some (.tuple [.tuple (q.map .int),.tuple (r.map .int)],s)∧Ptd p one other q r:=by
  obtain ⟨rest,often,c6,c7,c8,c9,e,l1,l2,r1,r2,hc,hz⟩:=outer_run (od:=od) s hp ho h0 hlast hO h1 rfl hlen hol
  have e5:=trimmed_ints (row:=.list (often.map .int)) s rfl (by omega)
  have e3:=trimmed_ints (row:=.list (rest.map .int)) s rfl (by omega)
  refine ⟨tz often,tz rest,fn_run (n:=3) (m:=7) (G:=G_parted_in) rfl ?_,⟨r2.tz,r1.tz,fun k => ?_,?_,?_,?_,fun h => tz_last h,fun h => tz_last h⟩⟩
  · show G_parted_in [.val (fieldP p),.val od,.val othd,.non,.non,.non,.non,.non,.non,.non] s = _
    have gl:gList od = some (.list (one.map .int)):=by
      cases od with
      | list xs => cases hod; rfl
      | tuple xs => cases hod; rfl
      | _ => cases hod
    have a1:sSetO 3 (oList (fVar 1)) [.val (fieldP p),.val od,.val othd,.non,.non,.non,.non,.non,.non,.non] s = some (.next [.val (fieldP p),.val od,.val othd,.own (one.map .int),.non,.non,.non,.non,.non,.non],s):=by
      refine sSetO_run ?_
      cases od with
      | list xs => cases hod; rfl
      | tuple xs => cases hod; rfl
      | _ => cases hod
    have mx:gMax (.int ((one.length:Int) - (other.length:Int) + 1)) (.int 0) = some (.int ((one.length + 1 - other.length:Nat):Int)):=by
      have hx:(if (0:Int) > (one.length:Int) - (other.length:Int) + 1 then (0:Int) else (one.length:Int) - (other.length:Int) + 1) = ((one.length + 1 - other.length:Nat):Int):=by split <;> omega
      simp only [gMax,gI,if_true,hx]
    have a2:sSet 4 (f2 gMax (f2 gAdd (f2 gSubI (f1 gLen (fVar 1)) (f1 gLen (fVar 2))) (fC (.int 1))) (fC (.int 0))) [.val (fieldP p),.val od,.val othd,.own (one.map .int),.non,.non,.non,.non,.non,.non] s = some (.next [.val (fieldP p),.val od,.val othd,.own (one.map .int),.val (.int ((one.length + 1 - other.length:Nat):Int)),.non,.non,.non,.non,.non],s) :=
      sSet_run (f2_run (a:=.int ((one.length:Int) - (other.length:Int) + 1)) (b:=.int 0) (f2_run (a:=.int ((one.length:Int) - (other.length:Int))) (b:=.int 1) (f2_run (a:=.int (one.length:Int)) (b:=.int (other.length:Int)) (f1_run (a:=od) rfl (by rw [len_seq hod,List.length_map])) (f1_run (a:=othd) rfl (by rw [len_seq ho,List.length_map])) (by simp only [gSubI,gI,if_true])) rfl (by simp [gAdd,gAddI,gI])) rfl mx)
    have a3:sSetO 5 (o2 lRep (eLst (aCons (f1 (gFld ["PrimeField"] "nought") (fVar 0)) aNil)) (fVar 4)) [.val (fieldP p),.val od,.val othd,.own (one.map .int),.val (.int ((one.length + 1 - other.length:Nat):Int)),.non,.non,.non,.non,.non] s = some (.next [.val (fieldP p),.val od,.val othd,.own (one.map .int),.val (.int ((one.length + 1 - other.length:Nat):Int)),.own ((List.replicate (one.length + 1 - other.length) (0:Int)).map .int),.non,.non,.non,.non],s):=by
      refine sSetO_run (o2_run (a:=.list [.int 0]) (b:=.int ((one.length + 1 - other.length:Nat):Int)) (s1:=s) (eLst_run (aCons_run (FL:=aNil) (f1_run (a:=fieldP p) rfl (fldN p)) rfl) (small_le (by simp))) rfl ?_)
      rw [rep_nat (by omega),List.map_replicate]
    have f1':∀ G:GS,sSeq (sFrz 3) (sSeq (sFrz 5) G) [.val (fieldP p),.val od,.val othd,.own (rest.map .int),.val (.int ((one.length + 1 - other.length:Nat):Int)),.own (often.map .int),c6,c7,c8,c9] s = G [.val (fieldP p),.val od,.val othd,.val (.list (rest.map .int)),.val (.int ((one.length + 1 - other.length:Nat):Int)),.val (.list (often.map .int)),c6,c7,c8,c9] s:=fun G => rfl
    unfold G_parted_in
    rw [sSeq_next a1,sSeq_next a2,sSeq_next a3,sSeq_next e,f1']
    unfold sRet
    exact congrArg (Option.map _) (eTup_run (aCons_run (fCall_run (ds:=[.int 0,.list (often.map .int)]) (aCons_run (f1_run (a:=fieldP p) rfl (fldN p)) (aCons_run (F:=fVar 5) (FL:=aNil) rfl rfl)) e5) (aCons_run (FL:=aNil) (fCall_run (ds:=[.int 0,.list (rest.map .int)]) (aCons_run (f1_run (a:=fieldP p) rfl (fldN p)) (aCons_run (F:=fVar 3) (FL:=aNil) rfl rfl)) e3) rfl)) (small2 _ _))
  · have e1:cvz (zc (tz often)) (zc other) k (tz often).length = cvz (zc often) (zc other) k (one.length + 1 - other.length):=by
      rw [cvz_congr (a':=zc often) _ fun i _ => zc_tz often i]
      refine (cvz_ext _ (by have:=tz_le often; omega) fun i h1 h2 => ?_).symm
      rw [← zc_tz]
      exact zc_out h1
    rw [zc_tz,e1]
    exact hc k
  · have:=tz_small (l:=rest) (n:=other.length - 1) hz
    omega
  · have:=tz_le often
    omega
  · have:=tz_le rest
    omega

noncomputable def DvF (p:Int) (g f:Nat→Int):Prop:=∃ (N:Nat) (q:Nat→Int),∀ k,p ∣ f k - cvz q g k N
theorem cvz_add {a a' b:Nat→Int} {k:Nat}:∀ n,cvz (fun i => a i + a' i) b k n = cvz a b k n + cvz a' b k n
  | 0 => rfl
  | n + 1 => by rw [cvz,cvz,cvz,cvz_add n]; grind
theorem cvz_scale {a b:Nat→Int} {k:Nat} {w:Int}:∀ n,cvz (fun i => w * a i) b k n = w * cvz a b k n
  | 0 => by rw [cvz,cvz,Int.mul_zero]
  | n + 1 => by rw [cvz,cvz,cvz_scale n]; grind
theorem cvz_pad {a b:Nat→Int} {k n m:Nat} (h:n ≤ m):cvz (fun i => if i < n then a i else 0) b k m = cvz a b k n:=by
  rw [cvz_ext m h fun i h1 h2 => if_neg (by omega)]
  exact cvz_congr n fun i hi => if_pos hi
theorem cvz_shift {q g:Nat→Int} {s k:Nat}:∀ N,cvz (shz s q) g k (N + s) = shz s (fun k => cvz q g k N) k
  | 0 => by
    have h0:cvz (shz s q) g k s = cvz (shz s q) g k 0:=cvz_ext (m:=0) s (Nat.zero_le _) fun i _ h => by unfold shz; rw [if_neg (by omega)]
    rw [Nat.zero_add,h0]
    unfold shz
    show (0:Int) = if s ≤ k then 0 else 0
    split <;> rfl
  | N + 1 => by
    rw [show N + 1 + s = N + s + 1 by omega,cvz,cvz_shift N]
    have e:shz s q (N + s) = q N:=by unfold shz; rw [if_pos (by omega),Nat.add_sub_cancel]
    rw [e]
    show (if s ≤ k then cvz q g (k - s) N else 0) + q N * (if N + s ≤ k then g (k - (N + s)) else 0) = if s ≤ k then cvz q g (k - s) N + q N * (if N ≤ k - s then g (k - s - N) else 0) else 0
    by_cases h:s ≤ k
    · rw [if_pos h,if_pos h]
      by_cases h2:N ≤ k - s
      · rw [if_pos (by omega),if_pos h2,show k - (N + s) = k - s - N by omega]
      · rw [if_neg (by omega),if_neg h2]
    · rw [if_neg h,if_neg h,if_neg (by omega)]; omega
theorem DvF.zero {p:Int} {g:Nat→Int}:DvF p g (fun _ => 0):=⟨0,fun _ => 0,fun k => ⟨0,by show (0:Int) - 0 = p * 0; omega⟩⟩
theorem DvF.congr {p:Int} {g f f':Nat→Int} (h:DvF p g f) (e:∀ k,p ∣ f' k - f k):DvF p g f':=by
  obtain ⟨N,q,h⟩:=h
  refine ⟨N,q,fun k => ?_⟩
  obtain ⟨a,ha⟩:=h k
  obtain ⟨b,hb⟩:=e k
  exact ⟨a + b,by grind⟩
theorem DvF.add {p:Int} {g f f':Nat→Int} (h:DvF p g f) (h':DvF p g f'):DvF p g (fun k => f k + f' k):=by
  obtain ⟨N,q,h⟩:=h
  obtain ⟨M,r,h'⟩:=h'
  refine ⟨N + M,fun i => (if i < N then q i else 0) + (if i < M then r i else 0),fun k => ?_⟩
  rw [cvz_add,cvz_pad (by omega),cvz_pad (by omega)]
  obtain ⟨a,ha⟩:=h k
  obtain ⟨b,hb⟩:=h' k
  exact ⟨a + b,by grind⟩
theorem DvF.shift {p w:Int} {g f:Nat→Int} (s:Nat) (h:DvF p g f):DvF p g (fun k => w * shz s f k):=by
  obtain ⟨N,q,h⟩:=h
  refine ⟨N + s,fun i => w * shz s q i,fun k => ?_⟩
  rw [cvz_scale,cvz_shift]
  show p ∣ w * (if s ≤ k then f (k - s) else 0) - w * (if s ≤ k then cvz q g (k - s) N else 0)
  by_cases hk:s ≤ k
  · rw [if_pos hk,if_pos hk]
    obtain ⟨a,ha⟩:=h (k - s)
    exact ⟨w * a,by grind⟩
  · rw [if_neg hk,if_neg hk]; exact ⟨0,by omega⟩
theorem DvF.conv {p:Int} {g f a:Nat→Int} (h:DvF p g f):∀ n,DvF p g (fun k => cvz a f k n)
  | 0 => DvF.zero
  | n + 1 => (h.conv n).add (h.shift n)
theorem DvF.refl {p:Int} {g:Nat→Int}:DvF p g g:=⟨1,fun _ => 1,fun k => by
  rw [cvz,cvz]
  unfold shz
  rw [if_pos (Nat.zero_le _),Nat.sub_zero]
  exact ⟨0,by omega⟩⟩
theorem cvz_by {p w:Int} {g h q:Nat→Int} {k:Nat} (e:∀ k,p ∣ g k * w - h k):∀ n,p ∣ cvz q h k n - cvz (fun i => w * q i) g k n
  | 0 => ⟨0,by rw [cvz,cvz]; omega⟩
  | n + 1 => by
    obtain ⟨a,ha⟩:=cvz_by (k:=k) (q:=q) e n
    rw [cvz,cvz]
    unfold shz
    by_cases hk:n ≤ k
    · rw [if_pos hk,if_pos hk]
      obtain ⟨b,hb⟩:=e (k - n)
      exact ⟨a - q n * b,by grind⟩
    · rw [if_neg hk,if_neg hk]; exact ⟨a,by omega⟩
theorem DvF.by {p w:Int} {g h f:Nat→Int} (d:DvF p h f) (e:∀ k,p ∣ g k * w - h k):DvF p g f:=by
  obtain ⟨N,q,d⟩:=d
  refine ⟨N,fun i => w * q i,fun k => ?_⟩
  obtain ⟨a,ha⟩:=d k
  obtain ⟨b,hb⟩:=cvz_by (k:=k) (q:=q) e N
  exact ⟨a + b,by grind⟩
theorem cvz_top {p:Int} (hp:Prm p) {g f:Nat→Int} {d:Nat} (hg:¬ p ∣ g d) (g0:∀ k,d < k→g k = 0) (f0:∀ k,d ≤ k→f k = 0):∀ (N:Nat) (q:Nat→Int),(∀ k,p ∣ f k - cvz q g k N)→∀ k,p ∣ f k
  | 0,q,h,k => by have:=h k; rw [cvz,Int.sub_zero] at this; exact this
  | N + 1,q,h,k => by
    have hlow:∀ n,n ≤ N→cvz q g (N + d) n = 0:=by
      intro n
      induction n with
      | zero => intro _; rfl
      | succ n ih =>
        intro hn
        rw [cvz,ih (by omega)]
        unfold shz
        rw [if_pos (by omega),g0 _ (by omega)]; omega
    have hq:p ∣ q N:=by
      have h1:=h (N + d)
      rw [f0 _ (by omega),cvz,hlow N (Nat.le_refl _)] at h1
      unfold shz at h1
      rw [if_pos (by omega),Nat.add_sub_cancel_left] at h1
      refine hp.dvd (b:=g d) ?_ hg
      obtain ⟨c,hc⟩:=h1
      exact ⟨-c,by grind⟩
    refine cvz_top hp hg g0 f0 N q (fun k => ?_) k
    obtain ⟨a,ha⟩:=h k
    obtain ⟨b,hb⟩:=hq
    rw [cvz] at ha
    exact ⟨a + b * shz N g k,by grind⟩
theorem zc_last {l:List Int} {k:Nat} (h:l.length - 1 < k):zc l k = 0:=zc_out (by omega)
noncomputable def Ends (l:List Int):Prop:=0 < l.length→zc l (l.length - 1) ≠ 0
theorem not_dvd {p x:Int} (h0:0 ≤ x) (h1:x < p) (h:x ≠ 0):¬ p ∣ x:=fun z => h (dvd_small h0 h1 z)
theorem asL_run {k:Nat} {fr:List Nat} {Fi:FI} {T:Tgt} {Ft:FT} {F:FE} {δ:Sl} {s s1 s2:Sx} {ds xs:List D} (h:Fi δ s = some (ds,s1)) (hs:ds.length ≤ 1000) (hc:compD T Ft F (compDl k fr δ) ds s1 = some (xs,s2)):asL (fComp k fr Fi T Ft F) δ s = some (.list xs,s2):=by
  unfold asL fComp
  rw [h]
  simp only [Option.bind_some]
  rw [if_pos (small_le hs),hc]; rfl
theorem by_run {p b:Int} {Fm:FE} (hp:Prm p) (hb:0 < b∧b < p) (δc:Sl) (s:Sx)
    (step:∀ a:Int,∃ δ1,(Tgt.one 0).run (.int a) δc = some δ1∧Fm δ1 s = g_PrimeField_divided [fieldP p,.int a,.int b] s) :
    ∀ l:List Int,Rs p l→∃ m:List Int,compD (.one 0) fTrue Fm δc (l.map .int) s = some (m.map .int,s)∧Rs p m∧m.length = l.length∧∀ k,p ∣ zc m k * b - zc l k
  | [],_ => ⟨[],rfl,(fun _ z => nomatch z),rfl,fun k => by rw [zc_out (Nat.zero_le _)]; exact ⟨0,by omega⟩⟩
  | a :: l,h => by
    obtain ⟨m,e,hm,hl,hd⟩:=by_run hp hb δc s step l fun x hx => h x (List.mem_cons_of_mem _ hx)
    obtain ⟨q,eq,hq,hqd⟩:=divP hp (h a List.mem_cons_self) hb
    obtain ⟨δ1,e1,e2⟩:=step a
    refine ⟨q :: m,?_,fun x hx => ?_,by simp [hl],fun k => ?_⟩
    · show compD _ _ _ _ (.int a :: l.map .int) s = _
      unfold compD
      rw [e1]
      simp only [Option.bind_some,fTrue,if_true,e2,eq,e,Option.map_some]
      rfl
    · rcases List.mem_cons.mp hx with rfl | hx
      · exact hq
      · exact hm x hx
    · cases k with
      | zero => exact hqd
      | succ k => exact hd k
theorem DvF.to {p b:Int} {h:Nat→Int} {g m:Nat→Int} (d:DvF p h g) (hp:Prm p) (hb:0 < b∧b < p) (e:∀ k,p ∣ m k * b - g k):DvF p h m:=by
  have ht:=hp.two
  obtain ⟨c,_,_,hc⟩:=divP (a:=1) hp ⟨by decide,by omega⟩ hb
  obtain ⟨N,q,d⟩:=d
  refine ⟨N,fun i => c * q i,fun k => ?_⟩
  obtain ⟨x,hx⟩:=d k
  obtain ⟨y,hy⟩:=e k
  obtain ⟨z,hz⟩:=hc
  rw [cvz_scale]
  exact ⟨c * y + c * x - m k * z,by grind⟩
theorem sIf_not {Ft:FT} {G:GS} {δ:Sl} {s:Sx} (h:Ft δ s = some (false,s)):sIf Ft G sNext δ s = some (.next δ,s):=by
  unfold sIf; rw [h]; rfl
theorem settled_run {p:Int} {top below:List Int} (s:Sx) (hp:Prm p) (r1:Rs p top) (r2:Rs p below) (l1:top.length ≤ 100) (l2:below.length ≤ 100) (h0:0 < below.length) (hn:zc below 0 ≠ 0) :
    ∃ T B:List Int,g_settled_by [fieldP p,.tuple (top.map .int),.tuple (below.map .int)] s = some (.tuple [.tuple (T.map .int),.tuple (B.map .int)],s)∧Rs p T∧Rs p B∧T.length ≤ 100∧B.length ≤ 100∧0 < B.length∧zc B 0 = 1∧T.length = top.length∧B.length = below.length∧(∀ k,p ∣ zc T k * zc below 0 - zc top k)∧∀ k,p ∣ zc B k * zc below 0 - zc below k:=by
  have ht:=hp.two
  have hu:=r2.zc (by omega) 0
  obtain ⟨T,eT,hT,lT,dT⟩:=by_run (p:=p) (b:=zc below 0) (Fm:=fMeth [("PrimeField",g_PrimeField_divided)] "divided" (fVar 2) (aCons (fVar 0) (aCons (fVar 1) aNil))) hp ⟨by omega,hu.2⟩ [.non,.val (.int (zc below 0)),.val (fieldP p)] s
    (fun a => ⟨[.val (.int a),.val (.int (zc below 0)),.val (fieldP p)],rfl,methP (p:=p) (Fo:=fVar 2) rfl (aCons_run (F:=fVar 0) rfl (aCons_run (F:=fVar 1) (FL:=aNil) rfl rfl)) rfl rfl⟩) top r1
  obtain ⟨B,eB,hB,lB,dB⟩:=by_run (p:=p) (b:=zc below 0) (Fm:=fMeth [("PrimeField",g_PrimeField_divided)] "divided" (fVar 2) (aCons (fVar 0) (aCons (fVar 1) aNil))) hp ⟨by omega,hu.2⟩ [.non,.val (.int (zc below 0)),.val (fieldP p)] s
    (fun a => ⟨[.val (.int a),.val (.int (zc below 0)),.val (fieldP p)],rfl,methP (p:=p) (Fo:=fVar 2) rfl (aCons_run (F:=fVar 0) rfl (aCons_run (F:=fVar 1) (FL:=aNil) rfl rfl)) rfl rfl⟩) below r2
  refine ⟨T,B,fn_run (n:=3) (m:=2) (G:=G_settled_by) rfl ?_,hT,hB,by omega,by omega,by omega,?_,lT,lB,dT,dB⟩
  · show G_settled_by [.val (fieldP p),.val (.tuple (top.map .int)),.val (.tuple (below.map .int)),.non,.non] s = _
    have hix:gIx (.tuple (below.map .int)) (.int 0) = some (.int (zc below 0)):=ix_ints (d:=.tuple (below.map .int)) (l:=below) (k:=0) rfl h0
    have a2:W_settled_by_1 [.val (fieldP p),.val (.tuple (top.map .int)),.val (.tuple (below.map .int)),.val (.int 0),.non] s = some (.next [.val (fieldP p),.val (.tuple (top.map .int)),.val (.tuple (below.map .int)),.val (.int 0),.non],s):=by
      have t0:asB (f2 gEq (f2 gIx (fVar 2) (fVar 3)) (f1 (gFld ["PrimeField"] "nought") (fVar 0))) [.val (fieldP p),.val (.tuple (top.map .int)),.val (.tuple (below.map .int)),.val (.int 0),.non] s = some (false,s) :=
        asB_r (f2_run (a:=.int (zc below 0)) (b:=.int 0) (f2_run (a:=.tuple (below.map .int)) (b:=.int 0) rfl rfl hix) (f1_run (a:=fieldP p) rfl (fldN p)) (by rw [gEq_int,decide_eq_false hn]))
      have w0:=while_stop (G:=sAug 3 gAddI (fC (.int 1))) (k:=0) t0
      exact whileN_mono w0 (by unfold fuel; omega)
    have a3:sSet 4 (f2 gIx (fVar 2) (fVar 3)) [.val (fieldP p),.val (.tuple (top.map .int)),.val (.tuple (below.map .int)),.val (.int 0),.non] s = some (.next [.val (fieldP p),.val (.tuple (top.map .int)),.val (.tuple (below.map .int)),.val (.int 0),.val (.int (zc below 0))],s):=sSet_run (f2_run (a:=.tuple (below.map .int)) (b:=.int 0) rfl rfl hix)
    have cut:∀ (l:List Int),L3.cutD (l.map PyData.int) (some 0) none = l.map .int:=fun l => by
      unfold L3.cutD
      rw [show (some (0:Int)) = some ((0:Nat):Int) from rfl,HT.sIx_nat,HT.sIx_none,Nat.zero_min,List.drop_zero,Nat.sub_zero,List.take_of_length_le (Nat.le_refl _)]
    have i1:iSeq (fSl (fVar 1) (pInt (fVar 3)) pNo) [.val (fieldP p),.val (.tuple (top.map .int)),.val (.tuple (below.map .int)),.val (.int 0),.val (.int (zc below 0))] s = some (top.map .int,s):=by
      show (((gSlD (.tuple (top.map .int)) (some 0) none).map _).bind _) = _
      simp only [gSlD,cut]; rfl
    have i2:iSeq (fSl (fVar 2) (pInt (fVar 3)) pNo) [.val (fieldP p),.val (.tuple (top.map .int)),.val (.tuple (below.map .int)),.val (.int 0),.val (.int (zc below 0))] s = some (below.map .int,s):=by
      show (((gSlD (.tuple (below.map .int)) (some 0) none).map _).bind _) = _
      simp only [gSlD,cut]; rfl
    have c1:asL C_settled_by_2 [.val (fieldP p),.val (.tuple (top.map .int)),.val (.tuple (below.map .int)),.val (.int 0),.val (.int (zc below 0))] s = _:=asL_run i1 (by rw [List.length_map]; omega) eT
    have c2:asL C_settled_by_3 [.val (fieldP p),.val (.tuple (top.map .int)),.val (.tuple (below.map .int)),.val (.int 0),.val (.int (zc below 0))] s = _:=asL_run i2 (by rw [List.length_map]; omega) eB
    unfold G_settled_by
    rw [sSeq_next (δ':=[.val (fieldP p),.val (.tuple (top.map .int)),.val (.tuple (below.map .int)),.val (.int 0),.non]) (s':=s) rfl,sSeq_next a2,sSeq_next a3]
    unfold sRet
    exact congrArg (Option.map _) (eTup_run (aCons_run (f1_run (g:=gTuple) (a:=.list (T.map .int)) (d:=.tuple (T.map .int)) c1 rfl) (aCons_run (FL:=aNil) (f1_run (g:=gTuple) (a:=.list (B.map .int)) (d:=.tuple (B.map .int)) c2 rfl) rfl)) (small2 _ _))
  · have h1:=hB.zc (by omega) 0
    have h2:p ∣ zc B 0 - 1:=by
      refine hp.dvd (b:=zc below 0) ?_ (not_dvd hu.1 hu.2 hn)
      have:=dB 0
      rw [show (zc B 0 - 1) * zc below 0 = zc B 0 * zc below 0 - zc below 0 by grind]
      exact this
    by_cases hz:zc B 0 = 0
    · rw [hz] at h2
      obtain ⟨c,hc⟩:=h2
      exfalso
      have:p ∣ 1:=⟨-c,by grind⟩
      exact absurd (dvd_small (by decide) (by omega) this) (by decide)
    · have:=dvd_small (p:=p) (x:=zc B 0 - 1) (by omega) (by omega) h2
      omega

theorem cvz_nil {a b:Nat→Int} {k:Nat} (h:∀ i,a i = 0):∀ n,cvz a b k n = 0
  | 0 => rfl
  | n + 1 => by rw [cvz,cvz_nil h n,h]; omega
theorem shz_add {s k:Nat} {b b':Nat→Int}:shz s (fun i => b i + b' i) k = shz s b k + shz s b' k:=by
  unfold shz; split
  · rfl
  · rfl
theorem shz_scale {s k:Nat} {b:Nat→Int} {w:Int}:shz s (fun i => w * b i) k = w * shz s b k:=by
  unfold shz; split
  · rfl
  · rw [Int.mul_zero]
theorem shz_shz {s t k:Nat} {b:Nat→Int}:shz s (shz t b) k = shz t (shz s b) k:=by
  unfold shz
  by_cases h1:s ≤ k <;> by_cases h2:t ≤ k
  · rw [if_pos h1,if_pos h2]
    by_cases h3:t ≤ k - s
    · rw [if_pos h3,if_pos (by omega),show k - s - t = k - t - s by omega]
    · rw [if_neg h3,if_neg (by omega)]
  · rw [if_pos h1,if_neg h2,if_neg (by omega)]
  · rw [if_neg h1,if_pos h2,if_neg (by omega)]
  · rw [if_neg h1,if_neg h2]
theorem cvz_addR {a b b':Nat→Int} {k:Nat}:∀ n,cvz a (fun i => b i + b' i) k n = cvz a b k n + cvz a b' k n
  | 0 => rfl
  | n + 1 => by rw [cvz,cvz,cvz,cvz_addR n,shz_add,Int.mul_add]; omega
theorem cvz_scaleR {a b:Nat→Int} {k:Nat} {w:Int}:∀ n,cvz a (fun i => w * b i) k n = w * cvz a b k n
  | 0 => by rw [cvz,cvz,Int.mul_zero]
  | n + 1 => by rw [cvz,cvz,cvz_scaleR n,shz_scale]; grind
theorem cvz_shiftR {a b:Nat→Int} {s k:Nat}:∀ n,cvz a (shz s b) k n = shz s (fun k => cvz a b k n) k
  | 0 => by unfold shz; show (0:Int) = if s ≤ k then 0 else 0; split <;> rfl
  | n + 1 => by
    rw [cvz,cvz_shiftR n,shz_shz,← shz_scale,← shz_add]; rfl
noncomputable def Pl (N:Nat) (f:Nat→Int):Prop:=∀ k,N ≤ k→f k = 0
theorem cvz_long {a b:Nat→Int} {k N L:Nat} (h:Pl N a) (hl:N ≤ L):cvz a b k L = cvz a b k N:=cvz_ext L hl fun i h1 _ => h i h1
theorem cvz_assoc {a b c:Nat→Int} {M k L:Nat} (hb:Pl M b):∀ N,N + M ≤ L→cvz a (fun k => cvz b c k M) k N = cvz (fun k => cvz a b k N) c k L
  | 0,_ => by rw [cvz_nil (a:=fun k => cvz a b k 0) (fun i => rfl)]; rfl
  | n + 1,h => by
    have e:cvz (shz n b) c k L = shz n (fun k => cvz b c k M) k:=by
      rw [cvz_long (N:=M + n) (fun i hi => by unfold shz; rw [if_pos (by omega)]; exact hb _ (by omega)) (by omega),cvz_shift]
    show cvz a (fun k => cvz b c k M) k n + a n * shz n (fun k => cvz b c k M) k = cvz (fun k => cvz a b k n + a n * shz n b k) c k L
    rw [cvz_assoc (L:=L) hb n (by omega),cvz_add,cvz_scale,e]
noncomputable def one1 (i:Nat):Int:=if i = 0 then 1 else 0
theorem cvz_one {b:Nat→Int} {k:Nat}:∀ n,cvz b one1 k n = if k < n then b k else 0
  | 0 => by rw [if_neg (Nat.not_lt_zero _)]; rfl
  | n + 1 => by
    rw [cvz,cvz_one n]
    unfold shz one1
    by_cases h:n ≤ k
    · rw [if_pos h,if_neg (by omega)]
      by_cases h2:k = n
      · subst h2; rw [if_pos (by omega),if_pos (by omega)]; omega
      · rw [if_neg (by omega),if_neg (by omega)]; omega
    · rw [if_neg h,if_pos (by omega),if_pos (by omega)]; omega
theorem cvz_cut {a b:Nat→Int} {M k:Nat} (hb:Pl M b):∀ n,cvz a b k n = cvz b (fun i => if i < n then a i else 0) k M
  | 0 => by
    have e:(fun i => if i < 0 then a i else (0:Int)) = fun i => 0 * a i:=funext fun i => by rw [if_neg (Nat.not_lt_zero _),Int.zero_mul]
    rw [e,cvz_scaleR,Int.zero_mul]; rfl
  | n + 1 => by
    have e:(fun i => if i < n + 1 then a i else (0:Int)) = fun i => (if i < n then a i else 0) + a n * shz n one1 i:=funext fun i => by
      unfold shz one1
      by_cases h:i < n
      · rw [if_pos (by omega),if_pos h,if_neg (by omega)]; omega
      · by_cases h2:i = n
        · subst h2; rw [if_pos (by omega),if_neg h,if_pos (by omega),if_pos (by omega)]; omega
        · rw [if_neg (by omega),if_neg h,if_pos (by omega),if_neg (by omega)]; omega
    have e1:(fun k => cvz b one1 k M) = b:=funext fun k => by
      rw [cvz_one]
      by_cases h:k < M
      · rw [if_pos h]
      · rw [if_neg h,hb k (by omega)]
    rw [e,cvz_addR,← cvz_cut hb n,cvz_scaleR,cvz_shiftR,e1]; rfl
theorem cvz_comm {a b:Nat→Int} {N M k:Nat} (ha:Pl N a) (hb:Pl M b):cvz a b k N = cvz b a k M:=by
  rw [cvz_cut hb N]
  congr 1
  funext i
  by_cases h:i < N
  · rw [if_pos h]
  · rw [if_neg h,ha i (by omega)]
theorem cvz_mod {p:Int} {a a' b b':Nat→Int} {k:Nat} (ha:∀ i,p ∣ a i - a' i) (hb:∀ i,p ∣ b i - b' i):∀ n,p ∣ cvz a b k n - cvz a' b' k n
  | 0 => ⟨0,by rw [cvz,cvz]; omega⟩
  | n + 1 => by
    obtain ⟨x,hx⟩:=cvz_mod ha hb (k:=k) n
    obtain ⟨y,hy⟩:=ha n
    obtain ⟨z,hz⟩:p ∣ shz n b k - shz n b' k:=by
      unfold shz
      split
      · exact hb _
      · exact ⟨0,by omega⟩
    rw [cvz,cvz]
    exact ⟨x + y * shz n b k + a' n * z,by grind⟩
theorem pl_zc (l:List Int):Pl l.length (zc l):=fun _ h => zc_out h
theorem DvF.ends {p:Int} {g f:Nat→Int} (h:DvF p g f):∃ (N:Nat) (q:Nat→Int),Pl N q∧∀ k,p ∣ f k - cvz q g k N:=by
  obtain ⟨N,q,h⟩:=h
  refine ⟨N,fun i => if i < N then q i else 0,fun k hk => if_neg (by omega),fun k => ?_⟩
  rw [cvz_pad (Nat.le_refl _)]; exact h k
theorem DvF.mul {p:Int} {f q g T:Nat→Int} {Nq Nf:Nat} (h:DvF p f q) (hq:Pl Nq q) (hf:Pl Nf f) (hT:∀ k,p ∣ T k - cvz q g k Nq):DvF p (fun k => cvz f g k Nf) T:=by
  obtain ⟨N,r,hr,h⟩:=DvF.ends h
  refine ⟨N,r,fun k => ?_⟩
  obtain ⟨x,hx⟩:=hT k
  obtain ⟨y,hy⟩:=cvz_mod (b:=g) (b':=g) (k:=k) h (fun i => ⟨0,by omega⟩) (Nq + (N + Nf))
  rw [cvz_long hq (by omega)] at hy
  rw [cvz_assoc hf N (L:=Nq + (N + Nf)) (by omega)]
  exact ⟨x + y,by grind⟩

theorem cvz_off {a b:Nat→Int} {M n k:Nat} (hb:Pl (M + 1) b) (hk:n + M ≤ k):∀ j,j ≤ n→cvz a b k j = 0
  | 0,_ => rfl
  | j + 1,h => by
    rw [cvz,cvz_off hb hk j (by omega)]
    unfold shz
    rw [if_pos (by omega),hb (k - j) (by omega)]; omega
theorem cvz_lead {a b:Nat→Int} {N M:Nat} (hb:Pl (M + 1) b):cvz a b (N + M) (N + 1) = a N * b M:=by
  rw [cvz,cvz_off hb (Nat.le_refl _) N (Nat.le_refl _)]
  unfold shz
  rw [if_pos (by omega),Nat.add_sub_cancel_left]; omega
theorem cvz_low {a b:Nat→Int} {o k:Nat} (hb:∀ i,i < o→b i = 0) (hk:k ≤ o):∀ n,0 < n→cvz a b k n = a 0 * b k
  | 0,h => absurd h (Nat.lt_irrefl _)
  | n + 1,_ => by
    rw [cvz]
    by_cases h0:n = 0
    · subst h0
      unfold shz
      rw [if_pos (Nat.zero_le _),Nat.sub_zero]
      show 0 + _ = _
      omega
    · rw [cvz_low hb hk n (by omega)]
      unfold shz
      by_cases h1:n ≤ k
      · rw [if_pos h1,hb (k - n) (by omega)]; omega
      · rw [if_neg h1]; omega
noncomputable def xrow (i:Nat):Int:=if i = 1 then 1 else 0
theorem DvF.x {p:Int} {q:Nat→Int} {N:Nat} (hN:Pl N q) (h:q 0 = 0):DvF p xrow q:=by
  refine ⟨N,fun i => q (i + 1),fun k => ?_⟩
  have e:cvz (fun i => q (i + 1)) xrow k N = q k:=by
    rw [cvz_comm (M:=2) (fun i hi => hN _ (by omega)) (fun i hi => by unfold xrow; rw [if_neg (by omega)]),cvz,cvz,cvz,show xrow 0 = 0 from rfl,show xrow 1 = 1 from rfl]
    unfold shz
    by_cases hk:1 ≤ k
    · rw [if_pos hk]
      show 0 + 0 * _ + 1 * q (k - 1 + 1) = q k
      rw [show k - 1 + 1 = k by omega]; omega
    · have:k = 0:=by omega
      subst this
      rw [if_neg hk,h]; omega
  rw [e]; exact ⟨0,by omega⟩
theorem xrow_zc:zc [0,1] = xrow:=funext fun i => by
  unfold xrow
  match i with
  | 0 => rfl
  | 1 => rfl
  | i + 2 => rw [zc_out (by show 2 ≤ i + 2; omega),if_neg (by omega)]
theorem cop {p:Int} (hp:Prm p) {g top below q1 q2 f:List Int} (rg:Rs p g) (ng:Ends g) (g0:0 < g.length) (rf:Rs p f) (nf:Ends f) (f0:0 < f.length)
    (great:∀ h,DvF p h (zc top)→DvF p h (zc below)→DvF p h (zc g))
    (h1:∀ k,p ∣ zc top k - cvz (zc q1) (zc g) k q1.length) (h2:∀ k,p ∣ zc below k - cvz (zc q2) (zc g) k q2.length)
    (d1:DvF p (zc f) (zc q1)) (d2:DvF p (zc f) (zc q2)):f.length = 1:=by
  have ht:=hp.two
  refine Decidable.byContradiction fun hne => ?_
  obtain ⟨N,q,h⟩:=great _ (DvF.mul d1 (pl_zc q1) (pl_zc f) h1) (DvF.mul d2 (pl_zc q2) (pl_zc f) h2)
  obtain ⟨n,hn⟩:∃ n,f.length = n + 1:=⟨f.length - 1,by omega⟩
  obtain ⟨m,hm⟩:∃ m,g.length = m + 1:=⟨g.length - 1,by omega⟩
  have pg:Pl (m + 1) (zc g):=hm ▸ pl_zc g
  have lf:=rf.zc (by omega) n
  have lg:=rg.zc (by omega) m
  have nf':=nf f0
  have ng':=ng g0
  rw [hn,Nat.add_sub_cancel] at nf'
  rw [hm,Nat.add_sub_cancel] at ng'
  rw [hn] at h
  have hl:¬ p ∣ cvz (zc f) (zc g) (n + m) (n + 1):=fun z => by
    rw [cvz_lead pg] at z
    exact not_dvd lf.1 lf.2 nf' (hp.dvd z (not_dvd lg.1 lg.2 ng'))
  have:=cvz_top hp (d:=n + m) (g:=fun k => cvz (zc f) (zc g) k (n + 1)) (f:=zc g) hl (fun k hk => cvz_off (n:=n + 1) pg (by omega) (n + 1) (Nat.le_refl _)) (fun k hk => zc_out (by omega)) N q h m
  exact not_dvd lg.1 lg.2 ng' this

theorem sSeq_n {G1 G2:GS} {δ δ1:Sl} {s s1:Sx} {r:Option (Out × Sx)} (h:G1 δ s = some (.next δ1,s1)) (h2:G2 δ1 s1 = r):sSeq G1 G2 δ s = r:=by
  rw [sSeq_next h]; exact h2
theorem mulQ {p a b:Int} (hp:p ≤ 1000) (ha:0 ≤ a∧a < p) (hb:0 ≤ b∧b < p):gMulI (.int a) (.int b) = some (.int (a * b)):=by
  simp only [gMulI,gI,(bt10 hp ha).ok (bt10 hp hb) (by decide),if_true]
noncomputable def pwN (p:Nat):Nat→Nat→Nat→Nat→Nat
  | 0,f,_,_ => f
  | n + 1,f,b,l => if l = 0 then f else pwN p n (if l % 2 = 1 then f * b % p else f) (b * b % p) (l / 2)
theorem pw_ok:∀ p ∈ ([2,3,5,7,11,13,101,997]:List Nat),((List.range p).all fun a => decide (a = 0 ∨ (pwN p 10 1 a (p - 2) * a % p = 1∧pwN p 10 1 a (p - 2) < p))) = true:=by decide +kernel
theorem pw_loop {p:Nat} {one:D} (s:Sx) (h2:2 ≤ p) (hp:p ≤ 997):∀ (n f b l:Nat),l < 2 ^ n→f < p→b < p →
    ∃ c,whileN (asB (f2 gGt (fVar 4) (fC (.int 0)))) (sSeq (sIf (asB (f2 gEq (f2 gModI (fVar 4) (fC (.int 2))) (fC (.int 1)))) (sSet 2 (f2 gModI (f2 gMulI (fVar 2) (fVar 3)) (fVar 0))) sNext) (sSeq (sSet 3 (f2 gModI (f2 gMulI (fVar 3) (fVar 3)) (fVar 0))) (sSet 4 (f2 gDivI (fVar 4) (fC (.int 2)))))) (n + 1)
      [.val (.int (p:Int)),.val one,.val (.int (f:Int)),.val (.int (b:Int)),.val (.int (l:Int))] s = some (.next [.val (.int (p:Int)),.val one,.val (.int (pwN p n f b l:Int)),c,.val (.int 0)],s):=by
  intro n
  induction n with
  | zero =>
    intro f b l hl _ _
    have:l = 0:=by omega
    subst this
    exact ⟨_,while_stop (asB_r (f2_run rfl rfl rfl))⟩
  | succ n ih =>
    intro f b l hl hf hb
    by_cases h0:l = 0
    · subst h0
      rw [pwN,if_pos rfl]
      exact ⟨_,while_stop (asB_r (f2_run rfl rfl rfl))⟩
    · have md:∀ x y:Nat,gModI (.int ((x:Int) * (y:Int))) (.int (p:Int)) = some (.int ((x * y % p:Nat):Int)):=fun x y => by
        rw [mod_p (by omega),Int.fmod_eq_emod_of_nonneg _ (by omega)]; rfl
      have m2:gModI (.int (l:Int)) (.int 2) = some (.int ((l % 2:Nat):Int)):=by
        rw [mod_p (by decide),Int.fmod_eq_emod_of_nonneg _ (by decide)]; rfl
      have d2:gDivI (.int (l:Int)) (.int 2) = some (.int ((l / 2:Nat):Int)):=by
        simp only [gDivI,gI,show divOk (l:Int) 2 = true from rfl,if_true,Int.fdiv_eq_ediv_of_nonneg _ (show (0:Int) ≤ 2 by decide)]; rfl
      have gt:gGt (.int (l:Int)) (.int 0) = some (.bool true):=by
        simp only [gGt,gI,if_true]; rw [decide_eq_true (by omega)]
      obtain ⟨c,e⟩:=ih (if l % 2 = 1 then f * b % p else f) (b * b % p) (l / 2) (by rw [Nat.pow_succ] at hl; omega) (by split; exact Nat.mod_lt _ (by omega); exact hf) (Nat.mod_lt _ (by omega))
      refine ⟨c,while_step2 (asB_r (f2_run rfl rfl gt)) (sSeq_n (δ1:=[.val (.int (p:Int)),.val one,.val (.int ((if l % 2 = 1 then f * b % p else f:Nat):Int)),.val (.int (b:Int)),.val (.int (l:Int))]) (s1:=s) ?_ (sSeq_n (sSet_run (f2_run (f2_run rfl rfl (mulQ (p:=(p:Int)) (by omega) ⟨by omega,by omega⟩ ⟨by omega,by omega⟩)) rfl (md b b))) (sSet_run (f2_run rfl rfl d2)))) ?_⟩
      · by_cases h1:l % 2 = 1
        · rw [if_pos h1]
          exact sIf_t (asB_r (f2_run (f2_run rfl rfl m2) rfl (by rw [gEq_int,h1]; rfl))) (sSet_run (f2_run (f2_run rfl rfl (mulQ (p:=(p:Int)) (by omega) ⟨by omega,by omega⟩ ⟨by omega,by omega⟩)) rfl (md f b)))
        · rw [if_neg h1]
          exact sIf_f (asB_r (f2_run (f2_run rfl rfl m2) rfl (by rw [gEq_int,decide_eq_false (by omega)]))) rfl
      · rw [pwN,if_neg h0]; exact e
theorem linv_run {p b:Int} (s:Sx) (hp:Prm p) (hb:0 < b∧b < p):∃ v,g__law_inverse [.int p,.int b] s = some (.int v,s)∧(0 ≤ v∧v < p)∧p ∣ v * b - 1:=by
  have ht:=hp.two
  obtain ⟨n,hn,rfl⟩:=hp
  obtain ⟨a,rfl⟩:=Int.eq_ofNat_of_zero_le (show 0 ≤ b by omega)
  have ok:=pw_ok n hn
  have oka:=of_decide_eq_true (List.all_eq_true.mp ok a (List.mem_range.mpr (by omega)))
  obtain ⟨o1,o2⟩:=oka.resolve_left (by omega)
  obtain ⟨c,e⟩:=pw_loop (p:=n) (one:=.int (a:Int)) s (by omega) (by omega) 10 1 a (n - 2) (by omega) (by omega) (by omega)
  refine ⟨_,fn_run (n:=2) (m:=3) (G:=G__law_inverse) rfl (sSeq_n (δ1:=[.val (.int (n:Int)),.val (.int (a:Int)),.val (.int ((1:Nat):Int)),.val (.int (a:Int)),.val (.int ((n - 2:Nat):Int))]) (s1:=s) ?_ (sSeq_n (whileN_mono e (by unfold fuel; omega)) rfl)),⟨by omega,by omega⟩,?_⟩
  · have m1:gModI (.int (a:Int)) (.int (n:Int)) = some (.int (a:Int)):=by
      rw [mod_p (by omega),Int.fmod_eq_emod_of_nonneg _ (by omega),Int.emod_eq_of_lt (by omega) (by omega)]
    have s1:gSubI (.int (n:Int)) (.int 2) = some (.int ((n - 2:Nat):Int)):=by
      simp only [gSubI,gI,if_true]; congr 2; omega
    unfold sPar3
    rw [aCons_run (d:=.int 1) rfl (aCons_run (f2_run rfl rfl m1) (aCons_run (FL:=aNil) (f2_run rfl rfl s1) rfl))]
    rfl
  · refine Int.dvd_of_emod_eq_zero ?_
    have e2:((pwN n 10 1 a (n - 2):Int) * (a:Int)) % (n:Int) = 1:=by exact_mod_cast o1
    rw [Int.sub_emod,e2,Int.emod_eq_of_lt (show (0:Int) ≤ 1 by decide) (show (1:Int) < n by omega),Int.sub_self,Int.zero_emod]

theorem ints_lay:∀ l:List Int,PyData.canLayAll0 (l.map .int) = true∧PyData.depthAll (l.map .int) ≤ 1∧PyData.eqvAll (l.map .int) (l.map .int) = true
  | [] => by simp [PyData.canLayAll0,PyData.depthAll,PyData.eqvAll]
  | i :: l => by
    obtain ⟨h1,h2,h3⟩:=ints_lay l
    refine ⟨by simp [PyData.canLayAll0,PyData.canLay0,h1],?_,by simp [PyData.eqvAll,PyData.eqv,h3]⟩
    simp [PyData.depthAll,PyData.depth]
    omega
theorem gNe_nil (l:List Int):gNe (.list (l.map .int)) (.list []) = some (.bool (!l.isEmpty)):=by
  obtain ⟨h1,h2,h3⟩:=ints_lay l
  have:SeqAt.shaped (.list (l.map .int)) = true:=by
    simp [SeqAt.shaped,PyData.canLay0,PyData.depth,h1]
    omega
  cases l with
  | nil => rfl
  | cons a r =>
    have h0:SeqAt.shaped (.list []) = true:=by decide
    simp [gNe,PyData.eqv,PyData.eqvAll,h0]
    simpa using this
theorem take_last {l:List Int} {k:Nat} (h:k < l.length):zc (l.take (k + 1)) ((l.take (k + 1)).length - 1) = zc l k:=by
  have:(l.take (k + 1)).length - 1 = k:=by rw [List.length_take]; omega
  rw [this]
  unfold zc
  rw [List.getD_eq_getElem?_getD,List.getD_eq_getElem?_getD,List.getElem?_take,if_pos (Nat.lt_succ_self _)]
theorem cut_run {d:D} {l:List Int} (s:Sx) (hd:seqOf d = some (l.map .int)) (hl:l.length ≤ 1000):g__law_cut [d] s = some (.tuple ((tz l).map .int),s):=by
  have loop:∀ k:Nat,k ≤ l.length→whileN (tAndF (asB (f2 gNe (fVarW 1) (eLst aNil))) (asB (f2 gEq (f2 gIx (fVarW 1) (f1 gNeg (fC (.int 1)))) (fC (.int 0))))) (sPop 1) (k + 1) [.val d,.own ((l.take k).map .int)] s = some (.next [.val d,.own ((l.take (tzn l k)).map .int)],s):=by
    intro k
    induction k with
    | zero => intro _; exact while_stop rfl
    | succ k ih =>
      intro hk
      have ne:(l.take (k + 1)).isEmpty = false:=by
        cases l with
        | nil => exact absurd hk (by simp)
        | cons a r => rfl
      have lt:(l.take (k + 1)).length = k + 1:=by rw [List.length_take]; omega
      have t1:tAndF (asB (f2 gNe (fVarW 1) (eLst aNil))) (asB (f2 gEq (f2 gIx (fVarW 1) (f1 gNeg (fC (.int 1)))) (fC (.int 0)))) [.val d,.own ((l.take (k + 1)).map .int)] s = some (decide (zc l k = 0),s):=by
        refine tAndF_t (s1:=s) (asB_r (b:=true) (f2_run (a:=.list ((l.take (k + 1)).map .int)) (b:=.list []) (s1:=s) rfl (eLst_run rfl (small_le (by simp))) (by rw [gNe_nil,ne]; rfl))) (asB_r (f2_run (a:=.int (zc l k)) (b:=.int 0) (f2_run (a:=.list ((l.take (k + 1)).map .int)) (b:=.int (-1)) rfl rfl ?_) rfl (gEq_int _ _)))
        rw [last_ix (l:=l.take (k + 1)) rfl (by omega),take_last (by omega)]
      by_cases hz:zc l k = 0
      · rw [decide_eq_true hz] at t1
        rw [tzn,if_pos hz]
        refine while_step2 t1 ?_ (ih (by omega))
        have hd2:((l.take (k + 1)).map PyData.int).dropLast = (l.take k).map .int:=by
          rw [List.dropLast_eq_take,List.length_map,lt,← List.map_take,List.take_take,Nat.add_sub_cancel,Nat.min_eq_left (Nat.le_succ _)]
        show (if (((l.take (k + 1)).map PyData.int).isEmpty) = true then none else some (Out.next [.val d,.own ((l.take (k + 1)).map PyData.int).dropLast],s)) = _
        rw [hd2,if_neg (by rw [List.isEmpty_iff,List.map_eq_nil_iff,← List.isEmpty_iff,ne]; exact Bool.false_ne_true)]
      · rw [decide_eq_false hz] at t1
        rw [tzn,if_neg hz]
        exact while_stop t1
  refine fn_run (n:=1) (m:=1) (G:=G__law_cut) rfl ?_
  show G__law_cut [.val d,.non] s = _
  have a1:sSetO 1 (oList (fVar 0)) [.val d,.non] s = some (.next [.val d,.own (l.map .int)],s):=by
    refine sSetO_run ?_
    cases d with
    | list xs => cases hd; rfl
    | tuple xs => cases hd; rfl
    | _ => cases hd
  have w:=loop l.length (Nat.le_refl _)
  rw [List.take_of_length_le (Nat.le_refl _)] at w
  have a2:W__law_cut_1 [.val d,.own (l.map .int)] s = some (.next [.val d,.own ((tz l).map .int)],s):=whileN_mono w (by unfold fuel; omega)
  unfold G__law_cut
  rw [sSeq_next a1,sSeq_next a2]
  rfl

theorem zget {l:List Int} {t:Nat} {x:D} (h:(l.map PyData.int)[t]? = some x):t < l.length∧x = .int (zc l t):=by
  by_cases ht:t < l.length
  · rw [zc_get ht] at h; cases h; exact ⟨ht,rfl⟩
  · rw [List.getElem?_eq_none (by rw [List.length_map]; omega)] at h; cases h
theorem iEnum_run {i:Nat} {d:D} {l:List D} {δ:Sl} {s:Sx} (h:δ[i]? = some (.val d)) (hl:seqOf d = some l):iEnumF (fVar i) δ s = some (enumD l,s):=by
  unfold iEnumF fVar
  rw [h]
  simp only [Option.bind_some,hl,Option.map_some]
theorem tby_inner {p:Int} {ad bd:D} {b found:List Int} {i:Nat} {w:Int} {c6 c7:Ce} (s:Sx) (hp:Prm p) (hb:seqOf bd = some (b.map .int)) (hB:Rs p b) (hF:Rs p found) (hw:0 ≤ w∧w < p) (hl:i + b.length ≤ found.length) :
    ∃ (found':List Int) (c6' c7':Ce),L__law_times_by_2 [.val (.int p),.val ad,.val bd,.own (found.map .int),.val (.int (i:Int)),.val (.int w),c6,c7] s = some (.next [.val (.int p),.val ad,.val bd,.own (found'.map .int),.val (.int (i:Int)),.val (.int w),c6',c7'],s) ∧
      found'.length = found.length∧Rs p found'∧∀ k,p ∣ zc found' k - (zc found k + w * shz i (zc b) k):=by
  have ht:=hp.two
  obtain ⟨δ',s',e,hs,found',x6,x7,hδ,l1,hR',hc⟩:=forD_at (T:=.tup [6,7]) (G:=B__law_times_by_1) (fun t δ s' => s' = s∧∃ (r:List Int) (x6 x7:Ce),δ = [.val (.int p),.val ad,.val bd,.own (r.map .int),.val (.int (i:Int)),.val (.int w),x6,x7]∧r.length = found.length∧Rs p r∧∀ k,p ∣ zc r k - (zc found k + (if i ≤ k∧k < i + t then w * zc b (k - i) else 0)))
    (enumD (b.map .int)) [.val (.int p),.val ad,.val bd,.own (found.map .int),.val (.int (i:Int)),.val (.int w),c6,c7] s ⟨rfl,found,c6,c7,rfl,rfl,hF,fun k => by rw [if_neg (by omega)]; exact ⟨0,by omega⟩⟩ (fun t d δ s' hd x__183 => by
      obtain ⟨hs,r,x6,x7,hδ,l1,hR',hc⟩:=x__183
      subst hs hδ
      obtain ⟨x,hx,rfl⟩:=enumD_get hd
      obtain ⟨htl,rfl⟩:=zget hx
      have hz:=hB.zc (by omega) t
      have m2:=fmod_rng (p:=p) (x:=zc r (i + t) + w * zc b t) (by omega)
      refine ⟨[.val (.int p),.val ad,.val bd,.own (r.map .int),.val (.int (i:Int)),.val (.int w),.val (.int (t:Int)),.val (.int (zc b t))],_,s',rfl,?_,rfl,r.set (i + t) ((zc r (i + t) + w * zc b t).fmod p),.val (.int (t:Int)),.val (.int (zc b t)),rfl,by rw [List.length_set]; exact l1,hR'.set m2.1 m2.2,fun k => ?_⟩
      · have ad':f2 gAdd (fVar 4) (fVar 6) [.val (.int p),.val ad,.val bd,.own (r.map .int),.val (.int (i:Int)),.val (.int w),.val (.int (t:Int)),.val (.int (zc b t))] s' = some (.int ((i + t:Nat):Int),s'):=f2_run (a:=.int (i:Int)) (b:=.int (t:Int)) rfl rfl (add_int i t)
        refine (sPut_run (v:=.int ((zc r (i + t) + w * zc b t).fmod p)) (k:=.int ((i + t:Nat):Int)) (xs:=r.map .int) (ys:=(r.set (i + t) ((zc r (i + t) + w * zc b t).fmod p)).map .int) (s1:=s') ?_ ad' rfl ?_).trans rfl
        · exact f2_run (a:=.int (zc r (i + t) + w * zc b t)) (b:=.int p) (f2_run (a:=.int (zc r (i + t))) (b:=.int (w * zc b t)) (ixw (i:=3) rfl ad' (by omega)) (f2_run rfl rfl (mulQ (by omega) hw hz)) rfl) rfl (mod_p (by omega) _)
        · rw [put_at (by rw [List.length_map]; omega),zc_mapset]
      · rw [zc_set (by omega)]
        by_cases hk:k = i + t
        · subst hk
          rw [if_pos rfl,if_pos (by omega)]
          have c:=hc (i + t)
          rw [if_neg (by omega)] at c
          obtain ⟨k1,h1⟩:=c
          obtain ⟨k3,h3⟩:=dvd_fmod (p:=p) (x:=zc r (i + t) + w * zc b t) (by omega)
          rw [show i + t - i = t by omega]
          exact ⟨k1 + k3,by grind⟩
        · rw [if_neg hk]
          have c:=hc k
          by_cases h2:i ≤ k∧k < i + t
          · rw [if_pos h2] at c; rw [if_pos (by omega)]; exact c
          · rw [if_neg h2] at c; rw [if_neg (by omega)]; exact c)
  subst hs hδ
  rw [enumD_len,List.length_map] at hc
  refine ⟨found',x6,x7,?_,l1,hR',fun k => ?_⟩
  · unfold L__law_times_by_2 sFor
    rw [iEnum_run (d:=bd) rfl hb]
    exact e
  · have c:=hc k
    unfold shz
    by_cases h1:i ≤ k
    · rw [if_pos h1]
      by_cases h2:k < i + b.length
      · rw [if_pos ⟨h1,h2⟩] at c; exact c
      · rw [if_neg (by omega)] at c
        rw [zc_out (show b.length ≤ k - i by omega),Int.mul_zero]; exact c
    · rw [if_neg (by omega)] at c
      rw [if_neg h1,Int.mul_zero]; exact c
theorem zc_rep (n k:Nat):zc (List.replicate n 0) k = 0:=by
  unfold zc
  rw [List.getD_eq_getElem?_getD,List.getElem?_replicate]
  split <;> rfl
structure Prod (p:Int) (a b m:List Int):Prop where
  rs:Rs p m
  en:Ends m
  eq:∀ k,p ∣ zc m k - cvz (zc a) (zc b) k a.length
  ln:m.length ≤ a.length + b.length - 1
theorem tby_run {p:Int} {ad bd:D} {a b:List Int} (s:Sx) (hp:Prm p) (ha:seqOf ad = some (a.map .int)) (hb:seqOf bd = some (b.map .int)) (hA:Rs p a) (hB:Rs p b) (la:a.length ≤ 100) (lb:b.length ≤ 100) :
    ∃ m:List Int,g__law_times_by [.int p,ad,bd] s = some (.tuple (m.map .int),s)∧Prod p a b m:=by
  have ht:=hp.two
  obtain ⟨δ',s',e,hs,r,x4,x5,x6,x7,hδ,l1,hR,hc⟩:=forD_at (T:=.tup [4,5]) (G:=B__law_times_by_3) (fun t δ s' => s' = s∧∃ (r:List Int) (x4 x5 x6 x7:Ce),δ = [.val (.int p),.val ad,.val bd,.own (r.map .int),x4,x5,x6,x7]∧r.length = a.length + b.length - 1∧Rs p r∧∀ k,p ∣ zc r k - cvz (zc a) (zc b) k t)
    (enumD (a.map .int)) [.val (.int p),.val ad,.val bd,.own ((List.replicate (a.length + b.length - 1) (0:Int)).map .int),.non,.non,.non,.non] s ⟨rfl,_,.non,.non,.non,.non,rfl,List.length_replicate,(fun x hx => by rw [List.eq_of_mem_replicate hx]; omega),fun k => by rw [zc_rep]; exact ⟨0,by show (0:Int) - 0 = p * 0; omega⟩⟩ (fun t d δ s' hd x__184 => by
      obtain ⟨hs,r,x4,x5,x6,x7,hδ,l1,hR,hc⟩:=x__184
      subst hs hδ
      obtain ⟨x,hx,rfl⟩:=enumD_get hd
      obtain ⟨htl,rfl⟩:=zget hx
      obtain ⟨r',y6,y7,e1,l2,hR2,hc2⟩:=tby_inner (ad:=ad) (bd:=bd) (i:=t) (w:=zc a t) (c6:=x6) (c7:=x7) s' hp hb hB hR (hA.zc (by omega) t) (by omega)
      refine ⟨[.val (.int p),.val ad,.val bd,.own (r.map .int),.val (.int (t:Int)),.val (.int (zc a t)),x6,x7],_,s',rfl,e1,rfl,r',_,_,_,_,rfl,by rw [l2,l1],hR2,fun k => ?_⟩
      obtain ⟨u,hu⟩:=hc2 k
      obtain ⟨v,hv⟩:=hc k
      rw [cvz]
      exact ⟨u + v,by grind⟩)
  subst hs hδ
  rw [enumD_len,List.length_map] at hc
  have t:=cut_run (d:=.list (r.map .int)) (l:=r) s' rfl (by omega)
  have b1:gLen ad = some (.int (a.length:Int)):=by rw [len_seq ha,List.length_map]
  have b2:gLen bd = some (.int (b.length:Int)):=by rw [len_seq hb,List.length_map]
  have v1:gMax (.int 0) (.int (((a.length + b.length:Nat):Int) - 1)) = some (.int ((a.length + b.length - 1:Nat):Int)):=by
    have:(if (((a.length + b.length:Nat):Int) - 1) > (0:Int) then (((a.length + b.length:Nat):Int) - 1) else (0:Int)) = ((a.length + b.length - 1:Nat):Int):=by
      split <;> omega
    simp only [gMax,gI,if_true,this]
  refine ⟨tz r,fn_run (n:=3) (m:=5) (G:=G__law_times_by) rfl (sSeq_n (δ1:=[.val (.int p),.val ad,.val bd,.own ((List.replicate (a.length + b.length - 1) (0:Int)).map .int),.non,.non,.non,.non]) (s1:=s') ?_ (sSeq_n (δ1:=[.val (.int p),.val ad,.val bd,.own (r.map .int),x4,x5,x6,x7]) (s1:=s') ?_ ?_)),hR.tz,fun h => tz_last h,fun k => by rw [zc_tz]; exact hc k,by have:=tz_le r; omega⟩
  · rw [List.map_replicate]
    exact sSetO_run (o2_run (eLst_run (aCons_run (FL:=aNil) rfl rfl) (small_le (by simp))) (f2_run rfl (f2_run (f2_run (f1_run rfl b1) (f1_run rfl b2) (add_int _ _)) rfl rfl) v1) (rep_nat (by omega)))
  · unfold L__law_times_by_4 sFor
    rw [iEnum_run (d:=ad) rfl ha]
    exact e
  · exact sSeq_n (δ1:=[.val (.int p),.val ad,.val bd,.val (.list (r.map .int)),x4,x5,x6,x7]) (s1:=s') rfl (congrArg (Option.map _) (fCall_run (ds:=[.list (r.map .int)]) rfl t))

theorem range2_i {Fa Fb:FE} {δ:Sl} {s s1 s2:Sx} {z w:Int} (ha:Fa δ s = some (.int z,s1)) (hb:Fb δ s1 = some (.int w,s2)) (h0:0 ≤ z) (h1:z ≤ 1000) (h2:0 ≤ w) (h3:w ≤ 1000):iRange2 Fa Fb δ s = some (rng z (w - z).toNat,s2):=by
  have r1:=rOk_le h0 h1
  have r2:=rOk_le h2 h3
  unfold iRange2
  rw [ha]
  simp only [Option.bind_some,hb,r1,r2,Bool.and_self,if_true]
theorem range2_nat {Fa Fb:FE} {δ:Sl} {s s1 s2:Sx} {a b:Nat} (ha:Fa δ s = some (.int (a:Int),s1)) (hb:Fb δ s1 = some (.int (b:Int),s2)) (h1:a ≤ 1000) (h2:b ≤ 1000):iRange2 Fa Fb δ s = some (rng (a:Int) (b - a),s2):=by
  have e:=range2_i ha hb (Int.natCast_nonneg _) (by omega) (Int.natCast_nonneg _) (by omega)
  rwa [show ((b:Int) - (a:Int)).toNat = b - a by omega] at e
theorem rngA_get {a n j:Nat} {d:D} (h:(rng (a:Int) n)[j]? = some d):j < n∧d = .int ((a + j:Nat):Int):=by
  unfold rng at h
  rw [List.getElem?_map] at h
  by_cases hj:j < n
  · rw [List.getElem?_range hj] at h
    simp only [Option.map_some,Option.some.injEq] at h
    refine ⟨hj,?_⟩
    rw [← h]
    congr 1
  · rw [List.getElem?_eq_none (by simpa using hj)] at h; simp at h
theorem ixN_back {n k:Nat} (h1:1 ≤ k) (h2:k ≤ n):ixN n (-(k:Int)) = some (n - k):=by
  unfold ixN
  rw [if_neg (by omega),if_pos (by omega)]
  congr 1; omega
theorem ix_back {d:D} {l:List Int} {k:Nat} (h:seqOf d = some (l.map .int)) (h1:1 ≤ k) (h2:k ≤ l.length):gIx d (.int (-(k:Int))) = some (.int (zc l (l.length - k))):=by
  rw [ix_seq h]
  unfold L2.atI
  rw [List.length_map,ixN_back h1 h2]
  exact zc_get (by omega)
theorem put_back {xs:List D} {k:Nat} {v:D} (h1:1 ≤ k) (h2:k ≤ xs.length):L3.putAt xs (.int (-(k:Int))) v = some (xs.set (xs.length - k) v):=by
  unfold L3.putAt
  dsimp only
  rw [ixN_back h1 h2]; rfl
theorem lb_inner {p:Int} {od othd:D} {other found:List Int} {w:Int} {c5:Ce} (s:Sx) (hp:Prm p) (ho:seqOf othd = some (other.map .int)) (hO:Rs p other) (hF:Rs p found) (hw:0 ≤ w∧w < p) (hl:other.length ≤ found.length) (hm:found.length ≤ 200) :
    ∃ (found':List Int) (c5':Ce),L__law_left_by_2 [.val (.int p),.val od,.val othd,.own (found.map .int),.val (.int w),c5] s = some (.next [.val (.int p),.val od,.val othd,.own (found'.map .int),.val (.int w),c5'],s) ∧
      found'.length = found.length∧Rs p found'∧∀ k,p ∣ zc found' k - (zc found k - w * shz (found.length - other.length) (zc other) k):=by
  have ht:=hp.two
  obtain ⟨δ',s',e,hs,r,x5,hδ,l1,hR',hc⟩:=forD_at (T:=.one 5) (G:=B__law_left_by_1) (fun t δ s' => s' = s∧∃ (r:List Int) (x5:Ce),δ = [.val (.int p),.val od,.val othd,.own (r.map .int),.val (.int w),x5]∧r.length = found.length∧Rs p r∧∀ k,p ∣ zc r k - (zc found k - (if found.length ≤ k + t∧k < found.length then w * zc other (k - (found.length - other.length)) else 0)))
    (rng ((1:Nat):Int) (other.length + 1 - 1)) [.val (.int p),.val od,.val othd,.own (found.map .int),.val (.int w),c5] s ⟨rfl,found,c5,rfl,rfl,hF,fun k => by rw [if_neg (by omega)]; exact ⟨0,by omega⟩⟩ (fun t d δ s' hd x__185 => by
      obtain ⟨hs,r,x5,hδ,l1,hR',hc⟩:=x__185
      subst hs hδ
      obtain ⟨htl,rfl⟩:=rngA_get hd
      have hi:found.length - (1 + t) = r.length - (1 + t):=by rw [l1]
      have m2:=fmod_rng (p:=p) (x:=zc r (r.length - (1 + t)) - w * zc other (other.length - (1 + t))) (by omega)
      refine ⟨[.val (.int p),.val od,.val othd,.own (r.map .int),.val (.int w),.val (.int ((1 + t:Nat):Int))],_,s',rfl,?_,rfl,r.set (r.length - (1 + t)) ((zc r (r.length - (1 + t)) - w * zc other (other.length - (1 + t))).fmod p),.val (.int ((1 + t:Nat):Int)),rfl,by rw [List.length_set]; exact l1,hR'.set m2.1 m2.2,fun k => ?_⟩
      · have ng:f1 gNeg (fVar 5) [.val (.int p),.val od,.val othd,.own (r.map .int),.val (.int w),.val (.int ((1 + t:Nat):Int))] s' = some (.int (-((1 + t:Nat):Int)),s'):=f1_run (a:=.int ((1 + t:Nat):Int)) rfl rfl
        refine (sPut_run (v:=.int ((zc r (r.length - (1 + t)) - w * zc other (other.length - (1 + t))).fmod p)) (k:=.int (-((1 + t:Nat):Int))) (xs:=r.map .int) (ys:=(r.set (r.length - (1 + t)) ((zc r (r.length - (1 + t)) - w * zc other (other.length - (1 + t))).fmod p)).map .int) (s1:=s') ?_ ng rfl ?_).trans rfl
        · exact f2_run (a:=.int (zc r (r.length - (1 + t)) - w * zc other (other.length - (1 + t)))) (b:=.int p) (f2_run (a:=.int (zc r (r.length - (1 + t)))) (b:=.int (w * zc other (other.length - (1 + t)))) (f2_run (a:=.list (r.map .int)) rfl ng (ix_back rfl (by omega) (by omega))) (f2_run rfl (f2_run (a:=othd) rfl ng (ix_back ho (by omega) (by omega))) (mulQ (by omega) hw (hO.zc (by omega) _))) rfl) rfl (mod_p (by omega) _)
        · rw [put_back (by omega) (by rw [List.length_map]; omega),List.length_map,zc_mapset]
      · rw [zc_set (by omega)]
        by_cases hk:k = r.length - (1 + t)
        · subst hk
          rw [if_pos rfl,if_pos (by omega)]
          have c:=hc (r.length - (1 + t))
          rw [if_neg (by omega)] at c
          obtain ⟨k1,h1⟩:=c
          obtain ⟨k3,h3⟩:=dvd_fmod (p:=p) (x:=zc r (r.length - (1 + t)) - w * zc other (other.length - (1 + t))) (by omega)
          rw [show r.length - (1 + t) - (found.length - other.length) = other.length - (1 + t) by omega]
          exact ⟨k1 + k3,by grind⟩
        · rw [if_neg hk]
          have c:=hc k
          by_cases h2:found.length ≤ k + t∧k < found.length
          · rw [if_pos h2] at c; rw [if_pos (by omega)]; exact c
          · rw [if_neg h2] at c; rw [if_neg (by omega)]; exact c)
  subst hs hδ
  rw [show (rng ((1:Nat):Int) (other.length + 1 - 1)).length = other.length by unfold rng; rw [List.length_map,List.length_range]; omega] at hc
  refine ⟨r,x5,?_,l1,hR',fun k => ?_⟩
  · unfold L__law_left_by_2 sFor
    rw [range2_nat (a:=1) (b:=other.length + 1) (s1:=s') (s2:=s') rfl (f2_run (a:=.int (other.length:Int)) (b:=.int ((1:Nat):Int)) (f1_run (a:=othd) rfl (by rw [len_seq ho,List.length_map])) rfl (add_int _ _)) (by decide) (by omega)]
    exact e
  · have c:=hc k
    unfold shz
    by_cases h1:found.length - other.length ≤ k
    · rw [if_pos h1]
      by_cases h2:k < found.length
      · rw [if_pos (by omega)] at c; exact c
      · rw [if_neg (by omega)] at c
        rw [zc_out (l:=other) (show other.length ≤ k - (found.length - other.length) by omega),Int.mul_zero]; exact c
    · rw [if_neg (by omega)] at c
      rw [if_neg h1,Int.mul_zero]; exact c
theorem zc_take {l:List Int} {n:Nat} (h:∀ k,n ≤ k→zc l k = 0) (k:Nat):zc (l.take n) k = zc l k:=by
  by_cases hk:k < n
  · unfold zc
    rw [List.getD_eq_getElem?_getD,List.getD_eq_getElem?_getD,List.getElem?_take,if_pos hk]
  · rw [zc_out (by rw [List.length_take]; omega),h k (by omega)]
structure Left (p:Int) (one other r:List Int):Prop where
  rs:Rs p r
  en:Ends r
  lt:r.length < other.length
  eq:∃ (N:Nat) (q:Nat→Int),∀ k,p ∣ zc one k - (zc r k + cvz q (zc other) k N)
theorem lb_loop {p:Int} {od othd:D} {other:List Int} (s:Sx) (hp:Prm p) (ho:seqOf othd = some (other.map .int)) (hO:Rs p other) (h0:0 < other.length) (eO:Ends other):∀ (n:Nat) (found:List Int) (c4 c5:Ce),found.length ≤ n→n ≤ 200→Rs p found→Ends found →
    ∃ (r:List Int) (c4' c5':Ce),whileN (asB (f2 gGe (f1 gLen (fVarW 3)) (f1 gLen (fVar 2)))) (sSeq (sSet 4 (f2 gModI (f2 gMulI (f2 gIx (fVarW 3) (f1 gNeg (fC (.int 1)))) (fCall g__law_inverse (aCons (fVar 0) (aCons (f2 gIx (fVar 2) (f1 gNeg (fC (.int 1)))) aNil)))) (fVar 0))) (sSeq L__law_left_by_2 (sSeq (sFrz 3) (sSetO 3 (oList (fCall g__law_cut (aCons (fSl (fVar 3) pNo (pInt (f1 gNeg (fC (.int 1))))) aNil))))))) (n + 1)
      [.val (.int p),.val od,.val othd,.own (found.map .int),c4,c5] s = some (.next [.val (.int p),.val od,.val othd,.own (r.map .int),c4',c5'],s)∧Left p found other r:=by
  have ht:=hp.two
  intro n
  have ge:∀ found:List Int,∀ c4 c5,f2 gGe (f1 gLen (fVarW 3)) (f1 gLen (fVar 2)) [.val (.int p),.val od,.val othd,.own (found.map .int),c4,c5] s = some (.bool (decide (other.length ≤ found.length)),s):=fun found c4 c5 => by
    refine f2_run (a:=.int (found.length:Int)) (b:=.int (other.length:Int)) (f1_run (a:=.list (found.map .int)) rfl (by rw [len_seq (xs:=found.map .int) rfl,List.length_map])) (f1_run (a:=othd) rfl (by rw [len_seq ho,List.length_map])) ?_
    have:decide ((other.length:Int) ≤ (found.length:Int)) = decide (other.length ≤ found.length):=decide_eq_decide.mpr (by omega)
    simp only [gGe,gI,if_true,this]
  have stop:∀ found c4 c5 m,found.length < other.length→Rs p found→Ends found→∃ (r:List Int) (c4' c5':Ce),whileN (asB (f2 gGe (f1 gLen (fVarW 3)) (f1 gLen (fVar 2)))) (sSeq (sSet 4 (f2 gModI (f2 gMulI (f2 gIx (fVarW 3) (f1 gNeg (fC (.int 1)))) (fCall g__law_inverse (aCons (fVar 0) (aCons (f2 gIx (fVar 2) (f1 gNeg (fC (.int 1)))) aNil)))) (fVar 0))) (sSeq L__law_left_by_2 (sSeq (sFrz 3) (sSetO 3 (oList (fCall g__law_cut (aCons (fSl (fVar 3) pNo (pInt (f1 gNeg (fC (.int 1))))) aNil))))))) (m + 1)
      [.val (.int p),.val od,.val othd,.own (found.map .int),c4,c5] s = some (.next [.val (.int p),.val od,.val othd,.own (r.map .int),c4',c5'],s)∧Left p found other r:=fun found c4 c5 m hl hR hE =>
    ⟨found,c4,c5,while_stop (asB_r ((ge found c4 c5).trans (by rw [decide_eq_false (by omega)]))),hR,hE,hl,0,fun _ => 0,fun k => ⟨0,by rw [cvz]; omega⟩⟩
  induction n with
  | zero => intro found c4 c5 hl _ hR hE; exact stop found c4 c5 0 (by omega) hR hE
  | succ n ih =>
    intro found c4 c5 hl hn hR hE
    by_cases hlt:found.length < other.length
    · exact stop found c4 c5 (n + 1) hlt hR hE
    · have hu:=hO.zc (by omega) (other.length - 1)
      have hne:=eO h0
      obtain ⟨v,ev,hv,dv⟩:=linv_run (b:=zc other (other.length - 1)) s hp ⟨by omega,hu.2⟩
      have m1:=fmod_rng (p:=p) (x:=zc found (found.length - 1) * v) (by omega)
      obtain ⟨f1',y5,e1,l1,hR1,hc1⟩:=lb_inner (od:=od) (c5:=c5) (w:=(zc found (found.length - 1) * v).fmod p) s hp ho hO hR m1 (by omega) (by omega)
      have hlast:zc f1' (found.length - 1) = 0:=by
        have hz:=hR1.zc (by omega) (found.length - 1)
        refine dvd_small hz.1 hz.2 ?_
        obtain ⟨a,ha⟩:=hc1 (found.length - 1)
        obtain ⟨b,hb⟩:=dvd_fmod (p:=p) (x:=zc found (found.length - 1) * v) (by omega)
        obtain ⟨c,hc⟩:=dv
        have es:shz (found.length - other.length) (zc other) (found.length - 1) = zc other (other.length - 1):=by
          unfold shz; rw [if_pos (by omega),show found.length - 1 - (found.length - other.length) = other.length - 1 by omega]
        rw [es] at ha
        exact ⟨a - b * zc other (other.length - 1) - zc found (found.length - 1) * c,by grind⟩
      have hz1:∀ k,found.length - 1 ≤ k→zc f1' k = 0:=fun k hk => by
        by_cases h:k = found.length - 1
        · rw [h]; exact hlast
        · exact zc_out (by omega)
      have tl:(tz (f1'.take (found.length - 1))).length ≤ n:=by
        have:=tz_le (f1'.take (found.length - 1))
        rw [List.length_take] at this; omega
      have hRt:Rs p (tz (f1'.take (found.length - 1))):=Rs.tz fun x hx => hR1 x (List.mem_of_mem_take hx)
      obtain ⟨r,d4,d5,e2,L⟩:=ih (tz (f1'.take (found.length - 1))) (.val (.int ((zc found (found.length - 1) * v).fmod p))) y5 tl (by omega) hRt fun h => tz_last h
      have ct:=cut_run (d:=.list ((f1'.take (found.length - 1)).map .int)) (l:=f1'.take (found.length - 1)) s rfl (by rw [List.length_take]; omega)
      have sl:fSl (fVar 3) pNo (pInt (f1 gNeg (fC (.int 1)))) [.val (.int p),.val od,.val othd,.val (.list (f1'.map .int)),.val (.int ((zc found (found.length - 1) * v).fmod p)),y5] s = some (.list ((f1'.take (found.length - 1)).map .int),s):=by
        show some (PyData.list (L3.cutD (f1'.map .int) none (some (-1))),s) = _
        have:L3.cutD (f1'.map PyData.int) none (some (-1)) = (f1'.take (found.length - 1)).map .int:=by
          unfold L3.cutD
          rw [HT.sIx_none,List.drop_zero,Nat.sub_zero,List.length_map,List.map_take]
          congr 1
          show (if (-1:Int) < 0 then (-1 + (f1'.length:Int)).toNat else min (-1:Int).toNat f1'.length) = _
          rw [if_pos (by decide)]; omega
        rw [this]
      refine ⟨r,d4,d5,while_step2 (asB_r ((ge found c4 c5).trans (by rw [decide_eq_true (by omega)]))) (sSeq_n (δ1:=[.val (.int p),.val od,.val othd,.own (found.map .int),.val (.int ((zc found (found.length - 1) * v).fmod p)),c5]) (s1:=s) ?_ (sSeq_n e1 (sSeq_n (δ1:=[.val (.int p),.val od,.val othd,.val (.list (f1'.map .int)),.val (.int ((zc found (found.length - 1) * v).fmod p)),y5]) (s1:=s) rfl (sSetO_run (xs:=(tz (f1'.take (found.length - 1))).map .int) (s1:=s) ?_)))) e2,L.rs,L.en,L.lt,?_⟩
      · exact sSet_run (f2_run (a:=.int (zc found (found.length - 1) * v)) (b:=.int p) (f2_run (a:=.int (zc found (found.length - 1))) (b:=.int v) (f2_run (a:=.list (found.map .int)) rfl rfl (last_ix rfl (by omega))) (fCall_run (ds:=[.int p,.int (zc other (other.length - 1))]) (aCons_run (F:=fVar 0) rfl (aCons_run (FL:=aNil) (f2_run (a:=othd) (b:=.int (-1)) rfl rfl (last_ix ho h0)) rfl)) ev) (mulQ (by omega) (hR.zc (by omega) _) hv)) rfl (mod_p (by omega) _))
      · unfold oList
        rw [fCall_run (ds:=[.list ((f1'.take (found.length - 1)).map .int)]) (aCons_run (FL:=aNil) sl rfl) ct]
        rfl
      · obtain ⟨N,q,hq⟩:=L.eq
        refine ⟨N + (found.length - other.length + 1),fun i => (if i < N then q i else 0) + (if i < found.length - other.length + 1 then (if i = found.length - other.length then (zc found (found.length - 1) * v).fmod p else 0) else 0),fun k => ?_⟩
        rw [cvz_add,cvz_pad (by omega),cvz_pad (by omega),cvz_set (a:=fun _ => 0),cvz_nil (a:=fun _ => (0:Int)) (fun _ => rfl),if_pos (Nat.lt_succ_self _)]
        obtain ⟨a,ha⟩:=hq k
        obtain ⟨b,hb⟩:=hc1 k
        rw [zc_tz,zc_take hz1] at ha
        exact ⟨a - b,by grind⟩
theorem lb_run {p:Int} {od othd:D} {one other:List Int} (s:Sx) (hp:Prm p) (h1:seqOf od = some (one.map .int)) (ho:seqOf othd = some (other.map .int)) (rO:Rs p one) (hO:Rs p other) (h0:0 < other.length) (e1:Ends one) (eO:Ends other) (ll:one.length ≤ 200) :
    ∃ r:List Int,g__law_left_by [.int p,od,othd] s = some (.tuple (r.map .int),s)∧Left p one other r:=by
  obtain ⟨r,c4,c5,e,L⟩:=lb_loop (od:=od) s hp ho hO h0 eO one.length one .non .non (Nat.le_refl _) ll rO e1
  refine ⟨r,fn_run (n:=3) (m:=3) (G:=G__law_left_by) rfl (sSeq_n (δ1:=[.val (.int p),.val od,.val othd,.own (one.map .int),.non,.non]) (s1:=s) ?_ (sSeq_n (whileN_mono e (by unfold fuel; omega)) rfl)),L⟩
  refine sSetO_run (xs:=one.map .int) (s1:=s) ?_
  unfold oList fVar
  show ((seqOf od).map _) = _
  rw [h1]; rfl

theorem shapedT_ints (l:List Int):SeqAt.shaped (.tuple (l.map .int)) = true:=by
  obtain ⟨h1,h2,h3⟩:=ints_lay l
  simp [SeqAt.shaped,PyData.canLay0,PyData.depth,h1]
  omega
theorem gNeT_ints (l:List Int):gNe (.tuple (l.map .int)) (.tuple (l.map .int)) = some (.bool false):=by
  simp [gNe,shapedT_ints l,PyData.eqv,(ints_lay l).2.2]
theorem eqv_nil (l:List Int):PyData.eqvAll (l.map .int) [] = decide (l = []):=by
  cases l with
  | nil => rfl
  | cons a r => simp [PyData.eqvAll]
theorem gEqT_nil (l:List Int):gEq (.tuple (l.map .int)) (.tuple []) = some (.bool (decide (l = []))):=by
  simp only [gEq,shapedT_ints l,show SeqAt.shaped (.tuple []) = true from shapedT_ints [],Bool.and_self,if_true,PyData.eqv,eqv_nil]
theorem gNeT_nil (l:List Int):gNe (.tuple (l.map .int)) (.tuple []) = some (.bool (decide (l ≠ []))):=by
  simp only [gNe,shapedT_ints l,show SeqAt.shaped (.tuple []) = true from shapedT_ints [],Bool.and_self,if_true,PyData.eqv,eqv_nil]
  by_cases h:l = [] <;> simp [h]

theorem fac_loop {p:Int} (s:Sx) (hp:Prm p):∀ (n:Nat) (one other:List Int),other.length ≤ n→one.length ≤ 200→other.length ≤ 200→Rs p one→Rs p other→Ends one→Ends other →
    ∃ f:List Int,whileN (asB (f2 gNe (fVar 2) (eTup aNil))) (sPar 1 2 (aCons (fVar 2) (aCons (fCall g__law_left_by (aCons (fVar 0) (aCons (fVar 1) (aCons (fVar 2) aNil)))) aNil))) (n + 1) [.val (.int p),.val (.tuple (one.map .int)),.val (.tuple (other.map .int))] s = some (.next [.val (.int p),.val (.tuple (f.map .int)),.val (.tuple [])],s) ∧
      Rs p f∧Ends f∧(0 < one.length ∨ 0 < other.length→0 < f.length)∧DvF p (zc f) (zc one)∧DvF p (zc f) (zc other):=by
  intro n
  have ne:∀ one other:List Int,f2 gNe (fVar 2) (eTup aNil) [.val (.int p),.val (.tuple (one.map .int)),.val (.tuple (other.map .int))] s = some (.bool (decide (other ≠ [])),s):=fun one other =>
    f2_run (a:=.tuple (other.map .int)) (b:=.tuple []) (s1:=s) rfl (eTup_run rfl (small_le (by simp))) (gNeT_nil other)
  have stop:∀ one m,Rs p one→Ends one→∃ f:List Int,whileN (asB (f2 gNe (fVar 2) (eTup aNil))) (sPar 1 2 (aCons (fVar 2) (aCons (fCall g__law_left_by (aCons (fVar 0) (aCons (fVar 1) (aCons (fVar 2) aNil)))) aNil))) (m + 1) [.val (.int p),.val (.tuple (one.map .int)),.val (.tuple (([]:List Int).map .int))] s = some (.next [.val (.int p),.val (.tuple (f.map .int)),.val (.tuple [])],s) ∧
      Rs p f∧Ends f∧(0 < one.length ∨ 0 < ([]:List Int).length→0 < f.length)∧DvF p (zc f) (zc one)∧DvF p (zc f) (zc []):=fun one m hR hE =>
    ⟨one,while_stop (asB_r ((ne one []).trans (by rw [decide_eq_false (fun z => z rfl)]))),hR,hE,fun h => h.elim id fun z => absurd z (Nat.lt_irrefl _),DvF.refl,DvF.zero⟩
  induction n with
  | zero =>
    intro one other hn _ _ r1 _ e1 _
    cases List.eq_nil_of_length_eq_zero (Nat.le_zero.mp hn)
    exact stop one 0 r1 e1
  | succ n ih =>
    intro one other hn l1 l2 r1 r2 e1 e2
    by_cases h0:other = []
    · subst h0; exact stop one (n + 1) r1 e1
    · have lo:0 < other.length:=List.length_pos_iff.mpr h0
      obtain ⟨r,er,L⟩:=lb_run (od:=.tuple (one.map .int)) (othd:=.tuple (other.map .int)) s hp rfl rfl r1 r2 lo e1 e2 l1
      obtain ⟨f,ef,h2,h3,h5,h6,h7⟩:=ih other r (by have:=L.lt; omega) l2 (by have:=L.lt; omega) r2 L.rs e2 L.en
      refine ⟨f,while_step2 (asB_r ((ne one other).trans (by rw [decide_eq_true h0]))) ?_ ef,h2,h3,fun _ => h5 (.inl lo),?_,h6⟩
      · unfold sPar
        rw [aCons_run (F:=fVar 2) (d:=.tuple (other.map .int)) (s1:=s) rfl (aCons_run (d:=.tuple (r.map .int)) (FL:=aNil) (fCall_run (ds:=[.int p,.tuple (one.map .int),.tuple (other.map .int)]) rfl er) rfl)]
        rfl
      · obtain ⟨N,q,hq⟩:=L.eq
        refine ((h6.conv (a:=q) N).add h7).congr fun k => ?_
        obtain ⟨a,ha⟩:=hq k
        exact ⟨a,by grind⟩
theorem fac_run {p:Int} {one other:List Int} (s:Sx) (hp:Prm p) (l1:one.length ≤ 200) (l2:other.length ≤ 200) (r1:Rs p one) (r2:Rs p other) (e1:Ends one) (e2:Ends other) (h0:0 < one.length) :
    ∃ f:List Int,g__law_factor_by [.int p,.tuple (one.map .int),.tuple (other.map .int)] s = some (.tuple (f.map .int),s)∧Rs p f∧Ends f∧0 < f.length∧DvF p (zc f) (zc one)∧DvF p (zc f) (zc other):=by
  obtain ⟨f,e,h2,h3,h5,h6,h7⟩:=fac_loop s hp other.length one other (Nat.le_refl _) l1 l2 r1 r2 e1 e2
  exact ⟨f,fn_run (n:=3) (m:=0) (G:=G__law_factor_by) rfl (sSeq_n (whileN_mono e (by unfold fuel; omega)) rfl),h2,h3,h5 (.inl h0),h6,h7⟩

theorem cvz_zd {p:Int} (hp:Prm p) {g:Nat→Int} {d:Nat} (hg:¬ p ∣ g d) (g0:Pl (d + 1) g):∀ (N:Nat) (q:Nat→Int),(∀ k,p ∣ cvz q g k N)→∀ i,i < N→p ∣ q i
  | 0,_,_,i,h => absurd h (Nat.not_lt_zero _)
  | N + 1,q,h,i,hi => by
    have hN:p ∣ q N:=by
      have:=h (N + d)
      rw [cvz_lead g0] at this
      exact hp.dvd this hg
    by_cases e:i = N
    · rw [e]; exact hN
    · refine cvz_zd hp hg g0 N q (fun k => ?_) i (by omega)
      obtain ⟨a,ha⟩:=h k
      obtain ⟨b,hb⟩:=hN
      rw [cvz] at ha
      exact ⟨a - b * shz N g k,by grind⟩
theorem eq_mod {p x y:Int} (hx:0 ≤ x∧x < p) (hy:0 ≤ y∧y < p) (h:p ∣ x - y):x = y:=by
  by_cases hxy:y ≤ x
  · have:=dvd_small (p:=p) (x:=x - y) (by omega) (by omega) h; omega
  · obtain ⟨c,hc⟩:=h
    have:=dvd_small (p:=p) (x:=y - x) (by omega) (by omega) ⟨-c,by grind⟩; omega
theorem row_ext {p:Int} (hp:0 < p) {a b:List Int} (ra:Rs p a) (rb:Rs p b) (ea:Ends a) (eb:Ends b) (h:∀ k,p ∣ zc a k - zc b k):a = b:=by
  have hz:∀ k,zc a k = zc b k:=fun k => eq_mod (ra.zc hp k) (rb.zc hp k) (h k)
  have hl:∀ {a b:List Int},Ends a→(∀ k,zc a k = zc b k)→a.length ≤ b.length:=fun {a b} ea hz => by
    refine Decidable.byContradiction fun hn => ?_
    have:=ea (by omega)
    rw [hz,zc_out (by omega)] at this
    exact this rfl
  have e:=Nat.le_antisymm (hl ea hz) (hl eb fun k => (hz k).symm)
  refine List.ext_getElem e fun i h1 h2 => ?_
  have:=hz i
  rwa [zc_at h1,zc_at h2] at this
theorem Ptd.uniq {p:Int} (hp:Prm p) {one other q r q' r':List Int} (h0:0 < other.length) (hO:Rs p other) (hl:zc other (other.length - 1) ≠ 0) (P:Ptd p one other q r) (P':Ptd p one other q' r'):q = q'∧r = r':=by
  have ht:=hp.two
  obtain ⟨d,hd⟩:∃ d,other.length = d + 1:=⟨other.length - 1,by omega⟩
  have hu:=hO.zc (by omega) d
  rw [hd,Nat.add_sub_cancel] at hl
  have hg:=not_dvd hu.1 hu.2 hl
  have po:Pl (d + 1) (zc other):=hd ▸ pl_zc other
  have hc:∀ k,cvz (fun i => zc q' i + -1 * zc q i) (zc other) k (q.length + q'.length) = cvz (zc q') (zc other) k q'.length - cvz (zc q) (zc other) k q.length:=fun k => by
    rw [cvz_add,cvz_scale,cvz_long (pl_zc q') (by omega),cvz_long (pl_zc q) (by omega)]; omega
  have hr:∀ k,p ∣ zc r k + -1 * zc r' k:=cvz_top hp (d:=d) (g:=zc other) (f:=fun k => zc r k + -1 * zc r' k) hg (fun k hk => po k hk) (fun k hk => by
      show zc r k + -1 * zc r' k = 0
      rw [zc_out (l:=r) (by have:=P.lr; omega),zc_out (l:=r') (by have:=P'.lr; omega)]; omega) (q.length + q'.length) (fun i => zc q' i + -1 * zc q i) (fun k => by
      rw [hc]
      obtain ⟨a,ha⟩:=P.eq k
      obtain ⟨b,hb⟩:=P'.eq k
      exact ⟨b - a,by grind⟩)
  have hq:=cvz_zd hp hg po (q.length + q'.length) (fun i => zc q' i + -1 * zc q i) (fun k => by
      rw [hc]
      obtain ⟨a,ha⟩:=P.eq k
      obtain ⟨b,hb⟩:=P'.eq k
      obtain ⟨c,hc'⟩:=hr k
      exact ⟨a - b + c,by grind⟩)
  refine ⟨row_ext (by omega) P.rq P'.rq P.el P'.el fun k => ?_,row_ext (by omega) P.rr P'.rr P.er P'.er fun k => ?_⟩
  · by_cases hk:k < q.length + q'.length
    · obtain ⟨a,ha⟩:=hq k hk
      exact ⟨-a,by grind⟩
    · rw [zc_out (l:=q) (by omega),zc_out (l:=q') (by omega)]; exact ⟨0,by omega⟩
  · obtain ⟨a,ha⟩:=hr k
    exact ⟨a,by grind⟩
theorem parted_any {p:Int} {one other:List Int} (s:Sx) (hp:Prm p) (h0:0 < other.length) (hlast:zc other (other.length - 1) ≠ 0) (hO:Rs p other) (h1:Rs p one) (hlen:one.length ≤ 100) (hol:other.length ≤ 100) :
    ∃ q r:List Int,(∀ od othd,seqOf od = some (one.map .int)→seqOf othd = some (other.map .int)→g_parted_in [fieldP p,od,othd] s = some (.tuple [.tuple (q.map .int),.tuple (r.map .int)],s))∧Ptd p one other q r:=by
  obtain ⟨q,r,_,P⟩:=parted_run (od:=.tuple (one.map .int)) (othd:=.tuple (other.map .int)) s hp rfl rfl h0 hlast hO h1 hlen hol
  refine ⟨q,r,fun od othd ho hot => ?_,P⟩
  obtain ⟨q',r',e,P'⟩:=parted_run (od:=od) (othd:=othd) s hp ho hot h0 hlast hO h1 hlen hol
  obtain ⟨rfl,rfl⟩:=Ptd.uniq hp h0 hO hlast P P'
  exact e

theorem asT_seq {i:Nat} {d:D} {l:List Int} {δ:Sl} {s:Sx} (hd:δ[i]? = some (.val d)) (h:seqOf d = some (l.map .int)):asT (fVar i) δ s = some (decide (l ≠ []),s):=by
  unfold asT fVar
  rw [hd]
  cases d with
  | list xs => cases h; cases l <;> rfl
  | tuple xs => cases h; cases l <;> rfl
  | _ => cases h
theorem com_any {p:Int} (s:Sx) (hp:Prm p):∀ (n:Nat) (one other:List Int),other.length ≤ n→Rs p one→Rs p other→Ends one→Ends other→one.length ≤ 100→other.length ≤ 100 →
    ∃ g:List Int,(∀ od othd,seqOf od = some (one.map .int)→seqOf othd = some (other.map .int)→∃ gd zd,seqOf gd = some (g.map .int)∧whileN (asT (fVar 2)) (sUnp (.tup [1,2]) (eTup (aCons (fVar 2) (aCons (f2 gIx (fCall g_parted_in (aCons (fVar 0) (aCons (fVar 1) (aCons (fVar 2) aNil)))) (fC (.int 1))) aNil)))) (n + 1) [.val (fieldP p),.val od,.val othd] s = some (.next [.val (fieldP p),.val gd,.val zd],s)) ∧
      Rs p g∧Ends g∧g.length ≤ 100∧(0 < one.length ∨ 0 < other.length→0 < g.length)∧DvF p (zc g) (zc one)∧DvF p (zc g) (zc other)∧∀ h,DvF p h (zc one)→DvF p h (zc other)→DvF p h (zc g):=by
  intro n
  induction n with
  | zero =>
    intro one other hn r1 r2 e1 e2 l1 l2
    cases List.eq_nil_of_length_eq_zero (Nat.le_zero.mp hn)
    exact ⟨one,fun od othd ho hot => ⟨od,othd,ho,while_stop ((asT_seq rfl hot).trans (by rw [decide_eq_false (fun z => z rfl)]))⟩,r1,e1,l1,fun h => h.elim id fun z => absurd z (Nat.lt_irrefl _),DvF.refl,DvF.zero,fun _ h _ => h⟩
  | succ n ih =>
    intro one other hn r1 r2 e1 e2 l1 l2
    by_cases h0:other = []
    · subst h0
      exact ⟨one,fun od othd ho hot => ⟨od,othd,ho,while_stop ((asT_seq rfl hot).trans (by rw [decide_eq_false (fun z => z rfl)]))⟩,r1,e1,l1,fun h => h.elim id fun z => absurd z (Nat.lt_irrefl _),DvF.refl,DvF.zero,fun _ h _ => h⟩
    · have lo:0 < other.length:=List.length_pos_iff.mpr h0
      obtain ⟨q,r,ep,P⟩:=parted_any s hp lo (e2 lo) r2 r1 l1 l2
      obtain ⟨g,eg,h2,h3,h4,h5,h6,h7,h8⟩:=ih other r (by have:=P.lr; omega) r2 P.rr e2 P.er l2 (by have:=P.lr2; omega)
      refine ⟨g,fun od othd ho hot => ?_,h2,h3,h4,fun _ => h5 (.inl lo),?_,h6,fun h ha hb => h8 h hb ((ha.add (hb.conv (a:=fun i => -1 * zc q i) q.length)).congr fun k => ?_)⟩
      · obtain ⟨gd,zd,hgd,e⟩:=eg othd (.tuple (r.map .int)) hot rfl
        refine ⟨gd,zd,hgd,while_step2 ((asT_seq rfl hot).trans (by rw [decide_eq_true h0])) ?_ e⟩
        unfold sUnp
        rw [eTup_run (ds:=[othd,.tuple (r.map .int)]) (aCons_run (F:=fVar 2) rfl (aCons_run (FL:=aNil) (f2_run (a:=.tuple [.tuple (q.map .int),.tuple (r.map .int)]) (b:=.int 1) (fCall_run (ds:=[fieldP p,od,othd]) rfl (ep od othd ho hot)) rfl rfl) rfl)) (small2 _ _)]
        rfl
      · refine ((h6.conv (a:=zc q) q.length).add h7).congr fun k => ?_
        obtain ⟨a,ha⟩:=P.eq k
        exact ⟨a,by grind⟩
      · obtain ⟨a,ha⟩:=P.eq k
        rw [cvz_scale]
        exact ⟨-a,by grind⟩
theorem common_any {p:Int} {one other:List Int} (s:Sx) (hp:Prm p) (r1:Rs p one) (r2:Rs p other) (e1:Ends one) (e2:Ends other) (l1:one.length ≤ 100) (l2:other.length ≤ 100) (h0:0 < other.length) :
    ∃ g:List Int,(∀ od othd,seqOf od = some (one.map .int)→seqOf othd = some (other.map .int)→g_common_in [fieldP p,od,othd] s = some (.tuple (g.map .int),s))∧Rs p g∧Ends g∧g.length ≤ 100∧0 < g.length∧DvF p (zc g) (zc one)∧DvF p (zc g) (zc other)∧∀ h,DvF p h (zc one)→DvF p h (zc other)→DvF p h (zc g):=by
  have ht:=hp.two
  obtain ⟨g,eg,h2,h3,h4,h5,h6,h7,h8⟩:=com_any s hp other.length one other (Nat.le_refl _) r1 r2 e1 e2 l1 l2
  have lg:=h5 (.inr h0)
  have hu:=h2.zc (by omega) (g.length - 1)
  have hne:=h3 lg
  have mk:∀ gd,seqOf gd = some (g.map .int)→∃ m:List Int,compD (.one 0) fTrue (fMeth [("PrimeField",g_PrimeField_divided)] "divided" (fVar 1) (aCons (fVar 0) (aCons (f2 gIx (fVar 2) (f1 gNeg (fC (.int 1)))) aNil))) [.non,.val (fieldP p),.val gd] (g.map .int) s = some (m.map .int,s)∧Rs p m∧m.length = g.length∧∀ k,p ∣ zc m k * zc g (g.length - 1) - zc g k:=fun gd hgd =>
    by_run (p:=p) (b:=zc g (g.length - 1)) hp ⟨by omega,hu.2⟩ [.non,.val (fieldP p),.val gd] s
      (fun a => ⟨[.val (.int a),.val (fieldP p),.val gd],rfl,methP (p:=p) (Fo:=fVar 1) rfl (aCons_run (F:=fVar 0) rfl (aCons_run (FL:=aNil) (f2_run (a:=gd) (b:=.int (-1)) rfl rfl (last_ix hgd lg)) rfl)) rfl rfl⟩) g h2
  obtain ⟨m,_,hm,lm,hd⟩:=mk (.tuple (g.map .int)) rfl
  have hend:∀ m:List Int,m.length = g.length→(∀ k,p ∣ zc m k * zc g (g.length - 1) - zc g k)→Ends m:=fun m lm hd _ => by
    rw [lm]
    intro z
    have:=hd (g.length - 1)
    rw [z] at this
    obtain ⟨c,hc⟩:=this
    exact not_dvd hu.1 hu.2 hne ⟨-c,by grind⟩
  refine ⟨m,fun od othd ho hot => fn_run (n:=3) (m:=0) (G:=G_common_in) rfl ?_,hm,hend m lm hd,by omega,by omega,h6.by hd,h7.by hd,fun h ha hb => (h8 h ha hb).to hp ⟨by omega,hu.2⟩ hd⟩
  obtain ⟨gd,zd,hgd,e⟩:=eg od othd ho hot
  obtain ⟨m',em,hm',lm',hd'⟩:=mk gd hgd
  have hmm:m' = m:=row_ext (by omega) hm' hm (hend m' lm' hd') (hend m lm hd) fun k => by
    refine hp.dvd (b:=zc g (g.length - 1)) ?_ (not_dvd hu.1 hu.2 hne)
    obtain ⟨a,ha⟩:=hd k
    obtain ⟨b,hb⟩:=hd' k
    exact ⟨b - a,by grind⟩
  subst hmm
  have a1:W_common_in_1 [.val (fieldP p),.val od,.val othd] s = _:=whileN_mono e (by unfold fuel; omega)
  have a2:asL C_common_in_2 [.val (fieldP p),.val gd,.val zd] s = some (.list (m'.map .int),s):=by
    have ei:iSeq (fVar 1) [.val (fieldP p),.val gd,.val zd] s = some (g.map .int,s):=by
      unfold iSeq
      show ((seqOf gd).map _) = _
      rw [hgd]; rfl
    exact asL_run ei (by rw [List.length_map]; omega) em
  show G_common_in [.val (fieldP p),.val od,.val othd] s = _
  unfold G_common_in
  rw [sSeq_next a1]
  unfold sRet
  exact congrArg (Option.map _) (f1_run (g:=gTuple) (a:=.list (m'.map .int)) (d:=.tuple (m'.map .int)) a2 rfl)

noncomputable def nts:List Int→Nat
  | [] => 0
  | a :: l => if a = 0 then nts l + 1 else 0
theorem nts_zero:∀ (l:List Int) (k:Nat),k < nts l→zc l k = 0
  | [],k,h => absurd h (Nat.not_lt_zero _)
  | a :: l,k,h => by
    rw [nts] at h
    by_cases ha:a = 0
    · rw [if_pos ha] at h
      cases k with
      | zero => exact ha
      | succ k => exact nts_zero l k (by omega)
    · rw [if_neg ha] at h; exact absurd h (Nat.not_lt_zero _)
theorem nts_at:∀ (l:List Int),nts l < l.length→zc l (nts l) ≠ 0
  | [],h => absurd h (Nat.not_lt_zero _)
  | a :: l,h => by
    rw [nts] at h ⊢
    by_cases ha:a = 0
    · rw [if_pos ha] at h ⊢
      exact nts_at l (by simp at h; omega)
    · rw [if_neg ha]; exact ha
theorem nts_lt {l:List Int} (e:Ends l) (h:0 < l.length):nts l < l.length:=by
  refine Decidable.byContradiction fun hn => e h (nts_zero l _ (by omega))
structure Quo (p:Int) (top below g q1 q2:List Int):Prop where
  rg:Rs p g
  ng:Ends g
  g0:0 < g.length
  great:∀ h,DvF p h (zc top)→DvF p h (zc below)→DvF p h (zc g)
  h1:∀ k,p ∣ zc top k - cvz (zc q1) (zc g) k q1.length
  h2:∀ k,p ∣ zc below k - cvz (zc q2) (zc g) k q2.length
  r1:Rs p q1
  r2:Rs p q2
  n1:Ends q1
  n2:Ends q2
  l1:q1.length ≤ 100
  l2:q2.length ≤ 100
  z2:0 < q2.length
theorem rest_zero {p:Int} (hp:Prm p) {T g q t:List Int} (rg:Rs p g) (ng:Ends g) (g0:0 < g.length) (d:DvF p (zc g) (zc T)) (P:Ptd p T g q t):∀ k,p ∣ zc T k - cvz (zc q) (zc g) k q.length:=by
  have ht:=hp.two
  have hu:=rg.zc (by omega) (g.length - 1)
  obtain ⟨N,w,h⟩:DvF p (zc g) (zc t):=by
    refine (d.add ((DvF.refl (p:=p) (g:=zc g)).conv (a:=fun i => -1 * zc q i) q.length)).congr fun k => ?_
    obtain ⟨a,ha⟩:=P.eq k
    rw [cvz_scale]
    exact ⟨-a,by grind⟩
  have hall:=cvz_top hp (d:=g.length - 1) (not_dvd hu.1 hu.2 (ng g0)) (fun k hk => zc_last hk) (fun k hk => zc_out (by have:=P.lr; omega)) N w h
  intro k
  obtain ⟨a,ha⟩:=P.eq k
  obtain ⟨b,hb⟩:=hall k
  exact ⟨a + b,by grind⟩
theorem quo_any {p:Int} {top below:List Int} (s:Sx) (hp:Prm p) (r1:Rs p top) (r2:Rs p below) (e1:Ends top) (e2:Ends below) (l1:top.length ≤ 100) (l2:below.length ≤ 100) (h0:0 < below.length) :
    ∃ g q1 q2 t1 t2:List Int,Quo p top below g q1 q2∧(∀ od othd,seqOf od = some (top.map .int)→seqOf othd = some (below.map .int)→g_common_in [fieldP p,od,othd] s = some (.tuple (g.map .int),s)) ∧
      (∀ od,seqOf od = some (top.map .int)→g_parted_in [fieldP p,od,.tuple (g.map .int)] s = some (.tuple [.tuple (q1.map .int),.tuple (t1.map .int)],s)) ∧
      (∀ od,seqOf od = some (below.map .int)→g_parted_in [fieldP p,od,.tuple (g.map .int)] s = some (.tuple [.tuple (q2.map .int),.tuple (t2.map .int)],s)):=by
  have ht:=hp.two
  obtain ⟨g,eg,hg,ng,lg,g0,d1,d2,gr⟩:=common_any s hp r1 r2 e1 e2 l1 l2 h0
  obtain ⟨q1,t1,ep1,P1⟩:=parted_any (one:=top) (other:=g) s hp g0 (ng g0) hg r1 l1 lg
  obtain ⟨q2,t2,ep2,P2⟩:=parted_any (one:=below) (other:=g) s hp g0 (ng g0) hg r2 l2 lg
  have x1:=rest_zero hp hg ng g0 d1 P1
  have x2:=rest_zero hp hg ng g0 d2 P2
  refine ⟨g,q1,q2,t1,t2,⟨hg,ng,g0,gr,x1,x2,P1.rq,P2.rq,P1.el,P2.el,by have:=P1.lq; omega,by have:=P2.lq; omega,?_⟩,eg,fun od ho => ep1 od _ ho rfl,fun od ho => ep2 od _ ho rfl⟩
  refine Nat.pos_of_ne_zero fun z => ?_
  have:=x2 (below.length - 1)
  rw [z] at this
  have hu:=r2.zc (by omega) (below.length - 1)
  exact e2 h0 (dvd_small hu.1 hu.2 (by obtain ⟨a,ha⟩:=this; exact ⟨a,by rw [cvz] at ha; omega⟩))
theorem low_at {p:Int} {T q g:List Int} {k:Nat} (h:∀ k,p ∣ zc T k - cvz (zc q) (zc g) k q.length) (hk:k ≤ nts g):p ∣ zc T k - zc q 0 * zc g k:=by
  have e:cvz (zc q) (zc g) k q.length = zc q 0 * zc g k:=by
    by_cases hq:0 < q.length
    · exact cvz_low (o:=nts g) (fun i hi => nts_zero g i hi) hk _ hq
    · have:q = []:=List.eq_nil_of_length_eq_zero (by omega)
      subst this
      show (0:Int) = 0 * _
      omega
  rw [← e]; exact h k
theorem Quo.made {p:Int} (hp:Prm p) {top below g q1 q2:List Int} (Q:Quo p top below g q1 q2) (r1:Rs p top) (r2:Rs p below) (e1:Ends top) (e2:Ends below) (h0:0 < below.length) :
    zc q2 0 ≠ 0 ↔ (top = [] ∨ nts below ≤ nts top):=by
  have ht:=hp.two
  have og:=nts_at g (nts_lt Q.ng Q.g0)
  have hg:=Q.rg.zc (by omega) (nts g)
  have ug:=not_dvd hg.1 hg.2 og
  have low:∀ {T q:List Int},Rs p T→(∀ k,p ∣ zc T k - cvz (zc q) (zc g) k q.length)→∀ k,k < nts g→zc T k = 0:=fun {T q} rT h k hk => by
    have hT:=rT.zc (by omega) k
    have:=low_at h (Nat.le_of_lt hk)
    rw [nts_zero g k hk] at this
    exact dvd_small hT.1 hT.2 (by obtain ⟨a,ha⟩:=this; exact ⟨a,by omega⟩)
  have at0:∀ {T q:List Int},Rs p T→(∀ k,p ∣ zc T k - cvz (zc q) (zc g) k q.length)→zc q 0 = 0→zc T (nts g) = 0:=fun {T q} rT h z => by
    have hT:=rT.zc (by omega) (nts g)
    have:=low_at h (Nat.le_refl _)
    rw [z] at this
    exact dvd_small hT.1 hT.2 (by obtain ⟨a,ha⟩:=this; exact ⟨a,by omega⟩)
  have at1:∀ {T q:List Int},Rs p q→(∀ k,p ∣ zc T k - cvz (zc q) (zc g) k q.length)→zc q 0 ≠ 0→zc T (nts g) ≠ 0:=fun {T q} rq h z z2 => by
    have hq:=rq.zc (by omega) 0
    have:=low_at h (Nat.le_refl _)
    rw [z2] at this
    obtain ⟨a,ha⟩:=this
    exact not_dvd hq.1 hq.2 z (hp.dvd (b:=zc g (nts g)) ⟨-a,by grind⟩ ug)
  constructor
  · intro hz
    by_cases htop:top = []
    · exact .inl htop
    · refine .inr ?_
      have lt:=nts_lt e1 (List.length_pos_iff.mpr htop)
      have a:=at1 Q.r2 Q.h2 hz
      have b1:nts below ≤ nts g:=Decidable.byContradiction fun hn => a (nts_zero below _ (by omega))
      have b2:nts g ≤ nts top:=Decidable.byContradiction fun hn => nts_at top lt (low r1 Q.h1 _ (by omega))
      omega
  · intro hm hz
    have hq1:zc q1 0 ≠ 0:=fun z => by
      have:=cop hp (f:=[0,1]) Q.rg Q.ng Q.g0 (fun x hx => by simp only [List.mem_cons,List.not_mem_nil,or_false] at hx; omega) (fun _ => by decide) (by decide) Q.great Q.h1 Q.h2 (by rw [xrow_zc]; exact DvF.x (pl_zc q1) z) (by rw [xrow_zc]; exact DvF.x (pl_zc q2) hz)
      cases this
    have a:=at1 Q.r1 Q.h1 hq1
    have b:=at0 r2 Q.h2 hz
    have t1:nts top ≤ nts g:=Decidable.byContradiction fun hn => a (nts_zero top _ (by omega))
    have t2:nts g < nts below:=Decidable.byContradiction fun hn => by
      by_cases he:nts below = nts g
      · exact nts_at below (nts_lt e2 h0) (by rw [he]; exact b)
      · exact nts_at below (nts_lt e2 h0) (low r2 Q.h2 _ (by omega))
    rcases hm with hm | hm
    · subst hm; exact a rfl
    · omega

structure Low (p:Int) (top below T B:List Int):Prop where
  rT:Rs p T
  rB:Rs p B
  nT:Ends T
  nB:Ends B
  lT:T.length ≤ 100
  lB:B.length ≤ 100
  b0:0 < B.length
  one:zc B 0 = 1
  co:∀ f:List Int,Rs p f→Ends f→0 < f.length→DvF p (zc f) (zc B)→DvF p (zc f) (zc T)→f.length = 1
  eq:∀ k,p ∣ cvz (zc T) (zc below) k T.length - cvz (zc B) (zc top) k B.length
theorem DvF.times {p u:Int} {f a b:Nat→Int} (d:DvF p f a) (h:∀ k,p ∣ a k * u - b k):DvF p f b:=by
  obtain ⟨N,q,d⟩:=d
  refine ⟨N,fun i => u * q i,fun k => ?_⟩
  obtain ⟨x,hx⟩:=d k
  obtain ⟨y,hy⟩:=h k
  rw [cvz_scale]
  exact ⟨u * x - y,by grind⟩
theorem cross {p u:Int} {T B q1 q2 g top below:List Int} (hT:∀ k,p ∣ zc T k * u - zc q1 k) (hB:∀ k,p ∣ zc B k * u - zc q2 k) (lT:T.length = q1.length) (lB:B.length = q2.length)
    (h1:∀ k,p ∣ zc top k - cvz (zc q1) (zc g) k q1.length) (h2:∀ k,p ∣ zc below k - cvz (zc q2) (zc g) k q2.length) (k:Nat) :
    p ∣ (cvz (zc T) (zc below) k T.length - cvz (zc B) (zc top) k B.length) * u:=by
  have e1:∀ {A q t:List Int} {c:Nat→Int},(∀ k,p ∣ zc A k * u - zc q k)→A.length = q.length→(∀ k,p ∣ zc t k - c k)→p ∣ cvz (zc A) (zc t) k A.length * u - cvz (zc q) c k q.length:=fun {A q t c} h l h' => by
    rw [Int.mul_comm,← cvz_scale,l]
    refine cvz_mod (fun i => ?_) h' _
    rw [Int.mul_comm]; exact h i
  obtain ⟨a,ha⟩:=e1 hT lT h2
  obtain ⟨b,hb⟩:=e1 hB lB h1
  have e:cvz (zc q1) (fun k => cvz (zc q2) (zc g) k q2.length) k q1.length = cvz (zc q2) (fun k => cvz (zc q1) (zc g) k q1.length) k q2.length:=by
    rw [cvz_assoc (L:=q1.length + q2.length) (pl_zc q2) q1.length (Nat.le_refl _),cvz_assoc (L:=q1.length + q2.length) (pl_zc q1) q2.length (by omega)]
    congr 1
    funext i
    exact cvz_comm (pl_zc q1) (pl_zc q2)
  rw [e] at ha
  exact ⟨a - b,by grind⟩
theorem quot_run {p:Int} {top below g q1 q2 t1 t2:List Int} (s:Sx) (hp:Prm p) (h0:0 < below.length) (Q:Quo p top below g q1 q2) (nq:zc q2 0 ≠ 0)
    (eg:∀ od othd,seqOf od = some (top.map .int)→seqOf othd = some (below.map .int)→g_common_in [fieldP p,od,othd] s = some (.tuple (g.map .int),s))
    (ep1:∀ od,seqOf od = some (top.map .int)→g_parted_in [fieldP p,od,.tuple (g.map .int)] s = some (.tuple [.tuple (q1.map .int),.tuple (t1.map .int)],s))
    (ep2:∀ od,seqOf od = some (below.map .int)→g_parted_in [fieldP p,od,.tuple (g.map .int)] s = some (.tuple [.tuple (q2.map .int),.tuple (t2.map .int)],s)) :
    ∃ T B:List Int,(∀ od othd,seqOf od = some (top.map .int)→seqOf othd = some (below.map .int)→g_quotient_by [.int p,od,othd] s = some (.tuple [.tuple (T.map .int),.tuple (B.map .int)],s))∧Low p top below T B:=by
  have ht:=hp.two
  have hu:=Q.r2.zc (by omega) 0
  have uu:=not_dvd hu.1 hu.2 nq
  obtain ⟨T,B,e,c1,c2,c3,c4,c5,c6,lT,lB,dT,dB⟩:=settled_run s hp Q.r1 Q.r2 Q.l1 Q.l2 Q.z2 nq
  have hend:∀ {A q:List Int},Rs p q→Ends q→A.length = q.length→(∀ k,p ∣ zc A k * zc q2 0 - zc q k)→Ends A:=fun {A q} rq nq l h hl z => by
    have hq:=rq.zc (by omega) (q.length - 1)
    have:=h (q.length - 1)
    rw [l] at z
    rw [z] at this
    obtain ⟨a,ha⟩:=this
    exact not_dvd hq.1 hq.2 (nq (by omega)) ⟨-a,by grind⟩
  refine ⟨T,B,fun od othd ho hot => ?_,c1,c2,hend Q.r1 Q.n1 lT dT,hend Q.r2 Q.n2 lB dB,c3,c4,c5,c6,fun f rf nf f0 df1 df2 => ?_,fun k => hp.dvd (cross dT dB lT lB Q.h1 Q.h2 k) uu⟩
  · refine fn_run (n:=3) (m:=2) (G:=G_quotient_by) rfl ?_
    show G_quotient_by [.val (.int p),.val od,.val othd,.non,.non] s = _
    have a1:sSet 3 (fMake "PrimeField" ["prime","nought","unit"] gI_PrimeField (aCons (fVar 0) aNil)) [.val (.int p),.val od,.val othd,.non,.non] s = some (.next [.val (.int p),.val od,.val othd,.val (fieldP p),.non],s):=sSet_run (makeP (F:=fVar 0) rfl)
    have a3:sSet 4 (fCall g_common_in (aCons (fVar 3) (aCons (fVar 1) (aCons (fVar 2) aNil)))) [.val (.int p),.val od,.val othd,.val (fieldP p),.non] s = some (.next [.val (.int p),.val od,.val othd,.val (fieldP p),.val (.tuple (g.map .int))],s):=sSet_run (fCall_run (ds:=[fieldP p,od,othd]) rfl (eg od othd ho hot))
    have a4:sPar 1 2 (aCons (f2 gIx (fCall g_parted_in (aCons (fVar 3) (aCons (fVar 1) (aCons (fVar 4) aNil)))) (fC (.int 0))) (aCons (f2 gIx (fCall g_parted_in (aCons (fVar 3) (aCons (fVar 2) (aCons (fVar 4) aNil)))) (fC (.int 0))) aNil)) [.val (.int p),.val od,.val othd,.val (fieldP p),.val (.tuple (g.map .int))] s = some (.next [.val (.int p),.val (.tuple (q1.map .int)),.val (.tuple (q2.map .int)),.val (fieldP p),.val (.tuple (g.map .int))],s):=by
      unfold sPar
      rw [aCons_run (d:=.tuple (q1.map .int)) (f2_run (a:=.tuple [.tuple (q1.map .int),.tuple (t1.map .int)]) (b:=.int 0) (fCall_run (ds:=[fieldP p,od,.tuple (g.map .int)]) rfl (ep1 od ho)) rfl rfl) (aCons_run (d:=.tuple (q2.map .int)) (FL:=aNil) (f2_run (a:=.tuple [.tuple (q2.map .int),.tuple (t2.map .int)]) (b:=.int 0) (fCall_run (ds:=[fieldP p,othd,.tuple (g.map .int)]) rfl (ep2 othd hot)) rfl rfl) rfl)]
      rfl
    unfold G_quotient_by
    refine sSeq_n a1 (sSeq_n (δ1:=[.val (.int p),.val od,.val othd,.val (fieldP p),.non]) (s1:=s) (sIf_not (asB_r (f2_run (a:=.int (below.length:Int)) (b:=.int 0) (f1_run (a:=othd) rfl (by rw [len_seq hot,List.length_map])) rfl (by rw [gEq_int,decide_eq_false (by omega)])))) (sSeq_n a3 (sSeq_n a4 (sSeq_n (δ1:=[.val (.int p),.val (.tuple (q1.map .int)),.val (.tuple (q2.map .int)),.val (fieldP p),.val (.tuple (g.map .int))]) (s1:=s) (sIf_not (asB_r (f2_run (a:=.int (zc q2 0)) (b:=.int 0) (f2_run (a:=.tuple (q2.map .int)) (b:=.int 0) rfl rfl (ix_ints (d:=.tuple (q2.map .int)) (l:=q2) (k:=0) rfl Q.z2)) rfl (by rw [gEq_int,decide_eq_false nq])))) ?_))))
    exact congrArg (Option.map _) (fCall_run (ds:=[fieldP p,.tuple (q1.map .int),.tuple (q2.map .int)]) rfl e)
  · exact cop hp Q.rg Q.ng Q.g0 rf nf f0 Q.great Q.h1 Q.h2 (df2.times dT) (df1.times dB)

theorem eAnd_t {Fa Fb:FE} {δ:Sl} {s s1:Sx} {r:Option (D × Sx)} (h:Fa δ s = some (.bool true,s1)) (e:Fb δ s1 = r):eAnd Fa Fb δ s = r:=by
  unfold eAnd; rw [h]; exact e
theorem eAnd_f {Fa Fb:FE} {δ:Sl} {s s1:Sx} (h:Fa δ s = some (.bool false,s1)):eAnd Fa Fb δ s = some (.bool false,s1):=by
  unfold eAnd; rw [h]; rfl
theorem tAndF_f {Ga Gb:FT} {δ:Sl} {s s1:Sx} (h:Ga δ s = some (false,s1)):tAndF Ga Gb δ s = some (false,s1):=by
  unfold tAndF; rw [h]; rfl
theorem sRet_run {F:FE} {δ:Sl} {s s1:Sx} {d:D} (h:F δ s = some (d,s1)):sRet F δ s = some (.ret d,s1):=by
  unfold sRet; rw [h]; rfl
theorem fChain_t {g g':G2} {Fa Fb Fc:FE} {δ:Sl} {s s1 s2 s3:Sx} {a b c d:D} (h:Fa δ s = some (a,s1)) (h':Fb δ s1 = some (b,s2)) (e:g a b = some (.bool true)) (h2:Fc δ s2 = some (c,s3)) (e':g' b c = some d):fChain g g' Fa Fb Fc δ s = some (d,s3):=by
  unfold fChain; rw [h]; simp only [Option.bind_some,h',e,h2,e',Option.map_some]
theorem sFor_seq {i:Nat} {T:Tgt} {G:GS} {d:D} {l:List D} {δ:Sl} {s:Sx} {r:Option (Out × Sx)} (hi:δ[i]? = some (.val d)) (h:seqOf d = some l) (e:forD T G l δ s = r):sFor (iSeq (fVar i)) T G δ s = r:=by
  unfold sFor iSeq fVar; rw [hi]; simp only [Option.bind_some,h,Option.map_some]; exact e
theorem all_ones {l:List D}:gAll (.list (l.map fun _ => PyData.bool true)) = some (.bool true):=by
  have h:bools (l.map fun _ => PyData.bool true) = some (l.map fun _ => true):=by
    induction l with
    | nil => rfl
    | cons a l ih => rw [List.map_cons,List.map_cons,bools,ih]; rfl
  unfold gAll
  dsimp only
  rw [h]
  show some (PyData.bool _) = _
  congr 2
  rw [List.all_eq_true]
  intro x hx
  obtain ⟨_,_,rfl⟩:=List.mem_map.mp hx
  rfl
theorem isq_turn {p:Int} {thing c2:D} {l:List Int} (s:Sx) (hr:Rs p l) (he:Ends l) (hl:l.length ≤ 1000) :
    B__law_is_quotient_by_2 [.val (.int p),.val thing,.val (.tuple (l.map .int))] s = some (.next [.val (.int p),.val thing,.val (.tuple (l.map .int))],s):=by
  have al:asL C__law_is_quotient_by_1 [.val (.int p),.val thing,.val (.tuple (l.map .int))] s = some (.list ((l.map PyData.int).map fun _ => PyData.bool true),s):=by
    refine asL_run (ds:=l.map .int) (s1:=s) rfl (by rw [List.length_map]; omega) (compD_pure (f:=fun _ => PyData.bool true) _ fun d hd => ?_)
    obtain ⟨z,hz,rfl⟩:=List.mem_map.mp hd
    obtain ⟨h0,h1⟩:=hr z hz
    refine ⟨[.val (.int z),.val (.int p)],rfl,rfl,eAnd_t (s1:=s) rfl (eAnd_t (s1:=s) rfl ?_)⟩
    have a:gLe (.int 0) (.int z) = some (.bool true):=by simp only [gLe,gI,if_true]; rw [decide_eq_true h0]
    have b:gLt (.int z) (.int p) = some (.bool true):=by simp only [gLt,gI,if_true]; rw [decide_eq_true h1]
    exact fChain_t (s1:=s) (s2:=s) rfl rfl a rfl b
  refine sSeq_n (δ1:=[.val (.int p),.val thing,.val (.tuple (l.map .int))]) (s1:=s) (sIf_not (tOrF_f (s1:=s) rfl ?_)) (sIf_not (tNotF_r (b:=true) (asT_r (f1_run al all_ones))))
  by_cases h0:l = []
  · subst h0
    exact tAndF_f (asB_r (f2_run (a:=.tuple []) (b:=.tuple []) (s1:=s) rfl rfl (gNeT_nil [])))
  · have lp:0 < l.length:=List.length_pos_iff.mpr h0
    refine tAndF_t (s1:=s) (asB_r (f2_run (a:=.tuple (l.map .int)) (b:=.tuple []) (s1:=s) rfl rfl ((gNeT_nil l).trans (by rw [decide_eq_true h0])))) (asB_r (f2_run (a:=.int (zc l (l.length - 1))) (b:=.int 0) (s1:=s) (f2_run (a:=.tuple (l.map .int)) (b:=.int (-1)) rfl rfl (last_ix rfl lp)) rfl ?_))
    rw [gEq_int,decide_eq_false (he lp)]
theorem isq_run {p:Int} {top below T B:List Int} (s:Sx) (hp:Prm p) (L:Low p top below T B):g__law_is_quotient_by [.int p,.tuple [.tuple (T.map .int),.tuple (B.map .int)]] s = some (.bool true,s):=by
  obtain ⟨f,ef,rf,nf,f0,d1,d2⟩:=fac_run s hp (by have:=L.lB; omega) (by have:=L.lT; omega) L.rB L.rT L.nB L.nT L.b0
  have hf:=L.co f rf nf f0 d1 d2
  refine fn_run (n:=2) (m:=1) (G:=G__law_is_quotient_by) rfl (sSeq_n (δ1:=[.val (.int p),.val (.tuple [.tuple (T.map .int),.tuple (B.map .int)]),.non]) (s1:=s) (sIf_not (tOrF_f (s1:=s) rfl (asB_r (f2_run (a:=.int 2) (b:=.int 2) (s1:=s) rfl rfl rfl)))) (sSeq_n (δ1:=[.val (.int p),.val (.tuple [.tuple (T.map .int),.tuple (B.map .int)]),.val (.tuple (B.map .int))]) (s1:=s) ?_ (sRet_run ?_)))
  · exact sFor_seq (i:=1) rfl rfl (forD_cons rfl (isq_turn (c2:=.none) s L.rT L.nT (by have:=L.lT; omega)) (forD_cons rfl (isq_turn (c2:=.none) s L.rB L.nB (by have:=L.lB; omega)) rfl))
  · refine eAnd_t (s1:=s) (f2_run (a:=.tuple (B.map .int)) (b:=.tuple []) (s1:=s) (f2_run (a:=.tuple [.tuple (T.map .int),.tuple (B.map .int)]) (b:=.int 1) rfl rfl rfl) rfl ((gNeT_nil B).trans (by rw [decide_eq_true (List.length_pos_iff.mp L.b0)]))) (eAnd_t (s1:=s) (f2_run (a:=.int (zc B 0)) (b:=.int 1) (s1:=s) (f2_run (a:=.tuple (B.map .int)) (b:=.int 0) (s1:=s) (f2_run (a:=.tuple [.tuple (T.map .int),.tuple (B.map .int)]) (b:=.int 1) rfl rfl rfl) rfl (ix_ints (k:=0) rfl L.b0)) rfl (by rw [gEq_int,L.one]; rfl)) ?_)
    refine f2_run (a:=.int (f.length:Int)) (b:=.int 1) (s1:=s) (f1_run (a:=.tuple (f.map .int)) (fCall_run (ds:=[.int p,.tuple (B.map .int),.tuple (T.map .int)]) (aCons_run (F:=fVar 0) rfl (aCons_run (f2_run (a:=.tuple [.tuple (T.map .int),.tuple (B.map .int)]) (b:=.int 1) rfl rfl rfl) (aCons_run (FL:=aNil) (f2_run (a:=.tuple [.tuple (T.map .int),.tuple (B.map .int)]) (b:=.int 0) rfl rfl rfl) rfl))) ef) (by rw [len_seq (xs:=f.map .int) rfl,List.length_map])) rfl ?_
    rw [gEq_int,hf]; rfl

theorem compD_filt {T:Tgt} {Ft:FT} {F:FE} {δc:Sl} {P:D→Bool} {f:D→D} {s:Sx}:∀ ds:List D,(∀ d ∈ ds,∃ δ1,T.run d δc = some δ1∧Ft δ1 s = some (P d,s)∧F δ1 s = some (f d,s))→compD T Ft F δc ds s = some ((ds.filter P).map f,s)
  | [],_ => rfl
  | d :: ds,h => by
    obtain ⟨δ1,e1,e2,e3⟩:=h d List.mem_cons_self
    have ih:=compD_filt ds fun x hx => h x (List.mem_cons_of_mem _ hx)
    unfold compD
    rw [e1]
    simp only [Option.bind_some,e2]
    cases hP:P d with
    | true => rw [if_pos rfl,List.filter_cons_of_pos hP]; simp only [e3,Option.bind_some,ih,Option.map_some,List.map_cons]
    | false => rw [if_neg (by decide),List.filter_cons_of_neg (by rw [hP]; decide),ih]
noncomputable def lstN (l:List Int):List Nat:=((List.range l.length).filter fun k => decide (zc l k ≠ 0)) ++ [l.length]
theorem lstN_head:∀ l:List Int,∃ r,lstN l = nts l :: r∧∀ x ∈ r,nts l ≤ x
  | [] => ⟨[],rfl,fun _ z => nomatch z⟩
  | a :: l => by
    have e:List.range (a :: l).length = 0 :: (List.range l.length).map Nat.succ:=by rw [List.length_cons,List.range_succ_eq_map]
    by_cases ha:a = 0
    · obtain ⟨r,e2,h2⟩:=lstN_head l
      have e3:lstN (a :: l) = (lstN l).map Nat.succ:=by
        unfold lstN
        rw [e,List.filter_cons_of_neg (by simpa [show zc (a :: l) 0 = a from rfl] using ha),List.filter_map,List.map_append]
        rfl
      rw [e3,e2,nts,if_pos ha]
      refine ⟨r.map Nat.succ,rfl,fun x hx => ?_⟩
      obtain ⟨y,hy,rfl⟩:=List.mem_map.mp hx
      exact Nat.succ_le_succ (h2 y hy)
    · unfold lstN
      rw [e,List.filter_cons_of_pos (by simpa [show zc (a :: l) 0 = a from rfl] using ha),nts,if_neg ha]
      exact ⟨_,rfl,fun _ _ => Nat.zero_le _⟩
theorem best_zero {bt:Nat→Nat→Bool}:∀ n,(∀ k,k ≤ n→bt k 0 = false)→argBest bt n = 0
  | 0,_ => rfl
  | n + 1,h => by rw [argBest,best_zero n (fun k hk => h k (by omega)),if_neg (by rw [h _ (Nat.le_refl _)]; decide)]
theorem least_head {n:Nat} {r:List Nat} (h:∀ x ∈ r,n ≤ x):gMinL (.list (((n :: r).map fun (k:Nat) => (k:Int)).map PyData.int)) = some (.int (n:Int)):=by
  unfold gMinL
  dsimp only
  rw [intsOf_map]
  show (((((n :: r).map fun (k:Nat) => (k:Int)))[leastAt ((n :: r).map fun (k:Nat) => (k:Int))]?).map fun n => PyData.int n) = _
  have e:leastAt ((n :: r).map fun (k:Nat) => (k:Int)) = 0:=best_zero _ (fun k hk => by
    refine decide_eq_false ?_
    cases k with
    | zero => omega
    | succ k =>
      have hk':k < r.length:=by rw [List.length_map,List.length_cons] at hk; omega
      show ¬ (r.map fun (k:Nat) => (k:Int)).getD k 0 < (n:Int)
      rw [List.getD_eq_getElem?_getD,List.getElem?_map,List.getElem?_eq_getElem hk']
      have:=h _ (List.getElem_mem hk')
      show ¬ ((r[k]:Nat):Int) < (n:Int)
      omega)
  rw [e]; rfl
theorem nts_run {l:List Int} (s:Sx) (hl:l.length ≤ 200):g__law_noughts [.tuple (l.map .int)] s = some (.int (nts l:Int),s):=by
  obtain ⟨r,er,hr⟩:=lstN_head l
  have ln:gLen (.tuple (l.map .int)) = some (.int (l.length:Int)):=by rw [len_seq (xs:=l.map .int) rfl,List.length_map]
  have c:asL C__law_noughts_1 [.val (.tuple (l.map .int))] s = some (.list ((((List.range l.length).filter fun k => decide (zc l k ≠ 0)).map fun (k:Nat) => (k:Int)).map PyData.int),s):=by
    have ei:iRange1 (f1 gLen (fVar 0)) [.val (.tuple (l.map .int))] s = some (rng 0 l.length,s):=by
      have:=iRange1_r (F:=f1 gLen (fVar 0)) (δ:=[.val (.tuple (l.map .int))]) (s:=s) (s':=s) (z:=(l.length:Int)) (f1_run (a:=.tuple (l.map .int)) rfl ln) (Int.natCast_nonneg _) (by omega)
      rwa [Int.toNat_natCast] at this
    have cf:=compD_filt (T:=.one 0) (Ft:=asB (f2 gNe (f2 gIx (fVar 1) (fVar 0)) (fC (.int 0)))) (F:=fVar 0) (δc:=[.non,.val (.tuple (l.map .int))]) (s:=s) (P:=fun d => match d with | .int k => decide (zc l k.toNat ≠ 0) | _ => false) (f:=fun d => d) (rng 0 l.length) (fun d hd => by
      obtain ⟨k,hk,rfl⟩:=List.mem_map.mp hd
      have hk':=List.mem_range.mp hk
      refine ⟨[.val (.int (0 + (k:Int))),.val (.tuple (l.map .int))],rfl,?_,rfl⟩
      rw [show (0:Int) + (k:Int) = (k:Int) by omega]
      refine asB_r (f2_run (a:=.int (zc l k)) (b:=.int 0) (s1:=s) (f2_run (a:=.tuple (l.map .int)) (b:=.int (k:Int)) rfl rfl (ix_ints rfl hk')) rfl ?_)
      show gNe (.int (zc l k)) (.int 0) = some (.bool (decide (zc l (k:Int).toNat ≠ 0)))
      rw [gNe_int,Int.toNat_natCast,← decide_not])
    have ex:((rng 0 l.length).filter fun d => match d with | .int k => decide (zc l k.toNat ≠ 0) | _ => false).map (fun d => d) = (((List.range l.length).filter fun k => decide (zc l k ≠ 0)).map fun (k:Nat) => (k:Int)).map PyData.int:=by
      unfold rng
      rw [List.map_id',List.filter_map,List.map_map]
      have h1:((fun d:D => match d with | .int k => decide (zc l k.toNat ≠ 0) | _ => false) ∘ fun (k:Nat) => PyData.int (0 + (k:Int))) = fun k => decide (zc l k ≠ 0):=funext fun k => by
        show decide (zc l (0 + (k:Int)).toNat ≠ 0) = _
        rw [Int.zero_add,Int.toNat_natCast]
      have h2:(fun (k:Nat) => PyData.int (0 + (k:Int))) = PyData.int ∘ fun (k:Nat) => (k:Int):=funext fun k => by
        show PyData.int (0 + (k:Int)) = PyData.int (k:Int)
        rw [Int.zero_add]
      rw [h1,h2]
    rw [ex] at cf
    exact asL_run ei (by rw [rng_len]; omega) cf
  refine fn_run (n:=1) (m:=0) (G:=G__law_noughts) rfl (sRet_run (f1_run (a:=.list (((nts l :: r).map fun (k:Nat) => (k:Int)).map PyData.int)) (f2_run c (eLst_run (aCons_run (FL:=aNil) (f1_run (a:=.tuple (l.map .int)) rfl ln) rfl) (small_le (by simp))) ?_) (least_head hr)))
  rw [← er]
  unfold lstN
  rw [catL (by
    have:=List.length_filter_le (fun k => decide (zc l k ≠ 0)) (List.range l.length)
    rw [List.length_range] at this
    simp only [List.length_map,List.length_cons,List.length_nil]; omega),List.map_append,List.map_append]
  rfl

theorem same_tup {k:Nat} {l:List D} (s:Sx) (h:∀ d ∈ l,r__law_same k [d,d] s = some (.bool true,s)) (hb:l.length ≤ 1000):r__law_same (k + 1) [.tuple l,.tuple l] s = some (.bool true,s):=by
  have hz:(l.zip l).map (fun z => PyData.tuple [z.1,z.2]) = l.map fun d => .tuple [d,d]:=by
    clear hb h
    induction l with
    | nil => rfl
    | cons a r ih => simp [ih]
  have hc:compD (.tup [0,1]) fTrue (fCall (r__law_same k) (aCons (fVar 0) (aCons (fVar 1) aNil))) [.non,.non] (l.map fun d => PyData.tuple [d,d]) s = some ((l.map fun d => PyData.tuple [d,d]).map (fun _ => PyData.bool true),s):=by
    refine compD_pure _ fun d hd => ?_
    obtain ⟨x,hx,rfl⟩:=List.mem_map.mp hd
    exact ⟨[.val x,.val x],rfl,rfl,fCall_run (ds:=[x,x]) rfl (h x hx)⟩
  have ei:iZipF (fVar 0) (fVar 1) [.val (.tuple l),.val (.tuple l)] s = some (l.map fun d => PyData.tuple [d,d],s):=by
    show some ((l.zip l).map (fun z => PyData.tuple [z.1,z.2]),s) = _
    rw [hz]
  have al:=asL_run (k:=2) (fr:=[]) (δ:=[.val (.tuple l),.val (.tuple l)]) ei (by rw [List.length_map]; omega) hc
  refine fn_run (n:=2) (m:=0) (G:=G__law_same (r__law_same k)) rfl (sSeq_n (δ1:=[.val (.tuple l),.val (.tuple l)]) (s1:=s) (sIf_not rfl) ?_)
  have:sIf (tOrF (asT (f1 (gInst "list") (fVar 1))) (asT (f1 (gInst "tuple") (fVar 1)))) (sSeq (sIf (asB (f2 gNe (f1 (gInst "list") (fVar 0)) (f1 (gInst "list") (fVar 1)))) (sRet (fC (.bool false))) sNext) (sSeq (sIf (tOrF (asB (f2 gNe (f1 (gInst "tuple") (fVar 0)) (f1 (gInst "tuple") (fVar 1)))) (asB (f2 gNe (f1 gLen (fVar 0)) (f1 gLen (fVar 1))))) (sRet (fC (.bool false))) sNext) (sRet (f1 gAll (asL (fComp 2 [] (iZipF (fVar 0) (fVar 1)) (.tup [0,1]) fTrue (fCall (r__law_same k) (aCons (fVar 0) (aCons (fVar 1) aNil))))))))) sNext [.val (.tuple l),.val (.tuple l)] s = some (.ret (.bool true),s):=by
    refine sIf_t (s':=s) rfl (sSeq_n (δ1:=[.val (.tuple l),.val (.tuple l)]) (s1:=s) (sIf_not (asB_r (f2_run (a:=.bool false) (b:=.bool false) (s1:=s) rfl rfl rfl))) (sSeq_n (δ1:=[.val (.tuple l),.val (.tuple l)]) (s1:=s) (sIf_not (tOrF_f (s1:=s) (asB_r (f2_run (a:=.bool true) (b:=.bool true) (s1:=s) rfl rfl rfl)) (asB_r (f2_run (a:=.int (l.length:Int)) (b:=.int (l.length:Int)) (s1:=s) rfl rfl (gNe_int' _))))) (sRet_run (f1_run al all_ones))))
  exact sSeq_ret this
theorem same_ints {k:Nat} (l:List Int) (s:Sx) (hb:l.length ≤ 1000):r__law_same (k + 2) [.tuple (l.map .int),.tuple (l.map .int)] s = some (.bool true,s) :=
  same_tup s (fun d hd => by obtain ⟨z,_,rfl⟩:=List.mem_map.mp hd; exact same_int k z s) (by rw [List.length_map]; exact hb)
noncomputable def Made (top below:List Int):Prop:=below ≠ []∧(top = [] ∨ nts below ≤ nts top)
theorem eOr_t {Fa Fb:FE} {δ:Sl} {s s1:Sx} (h:Fa δ s = some (.bool true,s1)):eOr Fa Fb δ s = some (.bool true,s1):=by
  unfold eOr; rw [h]; rfl
theorem eOr_f {Fa Fb:FE} {δ:Sl} {s s1:Sx} {r:Option (D × Sx)} (h:Fa δ s = some (.bool false,s1)) (e:Fb δ s1 = r):eOr Fa Fb δ s = r:=by
  unfold eOr; rw [h]; exact e
theorem made_run {p:Int} {top below:List Int} (s:Sx) (l1:top.length ≤ 200) (l2:below.length ≤ 200):∃ b:Bool,g__law_is_made [.int p,.tuple (top.map .int),.tuple (below.map .int)] s = some (.bool b,s)∧(b = true ↔ Made top below):=by
  have nb:f2 gNe (fVar 2) (eTup aNil) [.val (.int p),.val (.tuple (top.map .int)),.val (.tuple (below.map .int))] s = some (.bool (decide (below ≠ [])),s):=f2_run (a:=.tuple (below.map .int)) (b:=.tuple []) (s1:=s) rfl rfl (gNeT_nil below)
  have nt:f2 gEq (fVar 1) (eTup aNil) [.val (.int p),.val (.tuple (top.map .int)),.val (.tuple (below.map .int))] s = some (.bool (decide (top = [])),s):=f2_run (a:=.tuple (top.map .int)) (b:=.tuple []) (s1:=s) rfl rfl (gEqT_nil top)
  have le:f2 gLe (fCall g__law_noughts (aCons (fVar 2) aNil)) (fCall g__law_noughts (aCons (fVar 1) aNil)) [.val (.int p),.val (.tuple (top.map .int)),.val (.tuple (below.map .int))] s = some (.bool (decide (nts below ≤ nts top)),s):=by
    refine f2_run (a:=.int (nts below:Int)) (b:=.int (nts top:Int)) (s1:=s) (fCall_run (ds:=[.tuple (below.map .int)]) rfl (nts_run s l2)) (fCall_run (ds:=[.tuple (top.map .int)]) rfl (nts_run s l1)) ?_
    have:decide ((nts below:Int) ≤ (nts top:Int)) = decide (nts below ≤ nts top):=decide_eq_decide.mpr (by omega)
    simp only [gLe,gI,if_true,this]
  by_cases hb:below = []
  · refine ⟨false,fn_run (n:=3) (m:=0) (G:=G__law_is_made) rfl (sRet_run (eAnd_f (nb.trans (by rw [decide_eq_false (fun z => z hb)])))),fun z => (nomatch z),fun z => absurd hb z.1⟩
  · have nb':=nb.trans (show _ = some (PyData.bool true,s) by rw [decide_eq_true hb])
    by_cases ht:top = []
    · exact ⟨true,fn_run (n:=3) (m:=0) (G:=G__law_is_made) rfl (sRet_run (eAnd_t nb' (eOr_t (nt.trans (by rw [decide_eq_true ht]))))),fun _ => ⟨hb,.inl ht⟩,fun _ => rfl⟩
    · refine ⟨decide (nts below ≤ nts top),fn_run (n:=3) (m:=0) (G:=G__law_is_made) rfl (sRet_run (eAnd_t nb' (eOr_f (nt.trans (by rw [decide_eq_false ht])) le))),?_⟩
      rw [decide_eq_true_iff]
      exact ⟨fun h => ⟨hb,.inr h⟩,fun h => h.2.resolve_left ht⟩
noncomputable def NoneOk:Prop:=∀ (s:Sx) (p:Int) (top below:List Int) (od othd:D),Prm p→Rs p top→Rs p below→Ends top→Ends below→top.length ≤ 100→below.length ≤ 100→seqOf od = some (top.map .int)→seqOf othd = some (below.map .int)→¬ Made top below→g__law_none [.int p,od,othd] s = some (.bool true,s)
theorem eqL2 (a b:List Int):gEq (.list [.list (a.map .int),.list (b.map .int)]) (.list [.list (a.map .int),.list (b.map .int)]) = some (.bool true):=by
  obtain ⟨a1,a2,a3⟩:=ints_lay a
  obtain ⟨b1,b2,b3⟩:=ints_lay b
  have:SeqAt.shaped (.list [.list (a.map .int),.list (b.map .int)]) = true:=by
    simp [SeqAt.shaped,PyData.canLay0,PyData.canLayAll0,PyData.depth,PyData.depthAll,a1,b1]
    omega
  simp [gEq,this,PyData.eqv,PyData.eqvAll,a3,b3]
theorem right_run (hN:NoneOk) {p:Int} {top below:List Int} (s:Sx) (hp:Prm p) (r1:Rs p top) (r2:Rs p below) (e1:Ends top) (e2:Ends below) (l1:top.length ≤ 100) (l2:below.length ≤ 100) :
    g__law_right [.int p,.tuple (top.map .int),.tuple (below.map .int)] s = some (.bool true,s):=by
  obtain ⟨b,em,hb⟩:=made_run (p:=p) (top:=top) (below:=below) s (by omega) (by omega)
  have gl:∀ l:List Int,gList (.tuple (l.map .int)) = some (.list (l.map .int)):=fun l => rfl
  refine fn_run (n:=3) (m:=2) (G:=G__law_right) rfl ?_
  show G__law_right [.val (.int p),.val (.tuple (top.map .int)),.val (.tuple (below.map .int)),.non,.non] s = _
  have tm:tNotF (asT (fCall g__law_is_made (aCons (fVar 0) (aCons (fVar 1) (aCons (fVar 2) aNil))))) [.val (.int p),.val (.tuple (top.map .int)),.val (.tuple (below.map .int)),.non,.non] s = some (!b,s):=tNotF_r (asT_r (fCall_run (ds:=[.int p,.tuple (top.map .int),.tuple (below.map .int)]) rfl em))
  cases b with
  | false =>
    have hm:¬ Made top below:=fun z => Bool.false_ne_true (hb.mpr z)
    have:sIf (tNotF (asT (fCall g__law_is_made (aCons (fVar 0) (aCons (fVar 1) (aCons (fVar 2) aNil)))))) (sRet (eAnd (fCall g__law_none (aCons (fVar 0) (aCons (fVar 1) (aCons (fVar 2) aNil)))) (fCall g__law_none (aCons (fVar 0) (aCons (f1 gList (fVar 1)) (aCons (f1 gList (fVar 2)) aNil)))))) sNext [.val (.int p),.val (.tuple (top.map .int)),.val (.tuple (below.map .int)),.non,.non] s = some (.ret (.bool true),s) :=
      sIf_t tm (sRet_run (eAnd_t (s1:=s) (fCall_run (ds:=[.int p,.tuple (top.map .int),.tuple (below.map .int)]) rfl (hN s p top below _ _ hp r1 r2 e1 e2 l1 l2 rfl rfl hm)) (fCall_run (ds:=[.int p,.list (top.map .int),.list (below.map .int)]) rfl (hN s p top below _ _ hp r1 r2 e1 e2 l1 l2 rfl rfl hm))))
    unfold G__law_right
    exact sSeq_ret this
  | true =>
    have hm:Made top below:=hb.mp rfl
    have h0:0 < below.length:=List.length_pos_iff.mpr hm.1
    obtain ⟨g,q1,q2,t1,t2,Q,eg,ep1,ep2⟩:=quo_any s hp r1 r2 e1 e2 l1 l2 h0
    obtain ⟨T,B,eq,L⟩:=quot_run s hp h0 Q ((Q.made hp r1 r2 e1 e2 h0).mpr hm.2) eg ep1 ep2
    obtain ⟨m1,em1,P1⟩:=tby_run (ad:=.tuple (T.map .int)) (bd:=.tuple (below.map .int)) s hp rfl rfl L.rT r2 L.lT l2
    obtain ⟨m2,em2,P2⟩:=tby_run (ad:=.tuple (B.map .int)) (bd:=.tuple (top.map .int)) s hp rfl rfl L.rB r1 L.lB l1
    have hmm:m1 = m2:=row_ext (by have:=hp.two; omega) P1.rs P2.rs P1.en P2.en fun k => by
      obtain ⟨a,ha⟩:=P1.eq k
      obtain ⟨b,hb⟩:=P2.eq k
      obtain ⟨c,hc⟩:=L.eq k
      exact ⟨a - b + c,by grind⟩
    subst hmm
    unfold G__law_right
    refine sSeq_n (δ1:=[.val (.int p),.val (.tuple (top.map .int)),.val (.tuple (below.map .int)),.non,.non]) (s1:=s) (sIf_not tm) (sSeq_n (δ1:=[.val (.int p),.val (.tuple (top.map .int)),.val (.tuple (below.map .int)),.val (.tuple [.tuple (T.map .int),.tuple (B.map .int)]),.non]) (s1:=s) (sSet_run (fCall_run (ds:=[.int p,.tuple (top.map .int),.tuple (below.map .int)]) rfl (eq _ _ rfl rfl))) (sSeq_n (δ1:=[.val (.int p),.val (.tuple (top.map .int)),.val (.tuple (below.map .int)),.val (.tuple [.tuple (T.map .int),.tuple (B.map .int)]),.non]) (s1:=s) (sIf_not (tNotF_r (b:=true) (asT_r (fCall_run (ds:=[.int p,.tuple [.tuple (T.map .int),.tuple (B.map .int)]]) rfl (isq_run s hp L))))) (sSeq_n (δ1:=[.val (.int p),.val (.tuple (top.map .int)),.val (.tuple (below.map .int)),.val (.tuple [.tuple (T.map .int),.tuple (B.map .int)]),.non]) (s1:=s) (sIf_not (asB_r (f2_run (a:=.tuple (m1.map .int)) (b:=.tuple (m1.map .int)) (s1:=s) (fCall_run (ds:=[.int p,.tuple (T.map .int),.tuple (below.map .int)]) rfl em1) (fCall_run (ds:=[.int p,.tuple (B.map .int),.tuple (top.map .int)]) rfl em2) (gNeT_ints m1)))) (sSeq_n (δ1:=[.val (.int p),.val (.tuple (top.map .int)),.val (.tuple (below.map .int)),.val (.tuple [.tuple (T.map .int),.tuple (B.map .int)]),.val (.list [.list (top.map .int),.list (below.map .int)])]) (s1:=s) (sSet_run (eLst_run (aCons_run (f1_run rfl (gl top)) (aCons_run (FL:=aNil) (f1_run rfl (gl below)) rfl)) (small2 _ _))) (sRet_run (eAnd_t (s1:=s) (fCall_run (ds:=[.tuple [.tuple (T.map .int),.tuple (B.map .int)],.tuple [.tuple (T.map .int),.tuple (B.map .int)]]) (aCons_run (fCall_run (ds:=[.int p,.list (top.map .int),.list (below.map .int)]) rfl (eq _ _ rfl rfl)) (aCons_run (F:=fVar 3) (FL:=aNil) rfl rfl)) (same_tup (k:=5) s (fun d hd => ?_) (by simp))) (f2_run (a:=.list [.list (top.map .int),.list (below.map .int)]) (b:=.list [.list (top.map .int),.list (below.map .int)]) (s1:=s) rfl (eLst_run (aCons_run (f1_run rfl (gl top)) (aCons_run (FL:=aNil) (f1_run rfl (gl below)) rfl)) (small2 _ _)) (eqL2 top below))))))))
    have hT:=L.lT
    have hB:=L.lB
    simp only [List.mem_cons,List.not_mem_nil,or_false] at hd
    rcases hd with rfl | rfl
    · exact same_ints (k:=3) T s (by omega)
    · exact same_ints (k:=3) B s (by omega)

theorem rSeq_n {G:GS} {R:RS} {δ δ1:Sl} {s s1:Sx} {r:Option Sx} (h:G δ s = some (.next δ1,s1)) (e:R δ1 s1 = r):rSeq G R δ s = r:=by
  unfold rSeq; rw [h]; exact e
theorem rIf_t {Ft:FT} {R:RS} {δ:Sl} {s s1:Sx} (h:Ft δ s = some (true,s1)):rIf Ft R δ s = some s1:=by
  unfold rIf; rw [h]; rfl
theorem rIf_f {Ft:FT} {R:RS} {δ:Sl} {s s1:Sx} {r:Option Sx} (h:Ft δ s = some (false,s1)) (e:R δ s1 = r):rIf Ft R δ s = r:=by
  unfold rIf; rw [h]; exact e
theorem none_ok:NoneOk:=fun s p top below od othd hp r1 r2 e1 e2 l1 l2 ho hot hm => by
  have key:hX_quotient_by [.int p,od,othd] s = some s:=by
    show R_quotient_by [.val (.int p),.val od,.val othd,.non,.non] s = some s
    have a1:sSet 3 (fMake "PrimeField" ["prime","nought","unit"] gI_PrimeField (aCons (fVar 0) aNil)) [.val (.int p),.val od,.val othd,.non,.non] s = some (.next [.val (.int p),.val od,.val othd,.val (fieldP p),.non],s):=sSet_run (makeP (F:=fVar 0) rfl)
    have tl:asB (f2 gEq (f1 gLen (fVar 2)) (fC (.int 0))) [.val (.int p),.val od,.val othd,.val (fieldP p),.non] s = some (decide ((below.length:Int) = 0),s):=asB_r (f2_run (a:=.int (below.length:Int)) (b:=.int 0) (s1:=s) (f1_run (a:=othd) rfl (by rw [len_seq hot,List.length_map])) rfl (gEq_int _ _))
    unfold R_quotient_by
    refine rSeq_n a1 ?_
    by_cases hb:below = []
    · refine rIf_t (tl.trans ?_)
      subst hb
      rfl
    · have h0:0 < below.length:=List.length_pos_iff.mpr hb
      obtain ⟨g,q1,q2,t1,t2,Q,eg,ep1,ep2⟩:=quo_any s hp r1 r2 e1 e2 l1 l2 h0
      have nq:zc q2 0 = 0:=Decidable.byContradiction fun z => hm ⟨hb,(Q.made hp r1 r2 e1 e2 h0).mp z⟩
      have a3:sSet 4 (fCall g_common_in (aCons (fVar 3) (aCons (fVar 1) (aCons (fVar 2) aNil)))) [.val (.int p),.val od,.val othd,.val (fieldP p),.non] s = some (.next [.val (.int p),.val od,.val othd,.val (fieldP p),.val (.tuple (g.map .int))],s):=sSet_run (fCall_run (ds:=[fieldP p,od,othd]) rfl (eg od othd ho hot))
      have a4:sPar 1 2 (aCons (f2 gIx (fCall g_parted_in (aCons (fVar 3) (aCons (fVar 1) (aCons (fVar 4) aNil)))) (fC (.int 0))) (aCons (f2 gIx (fCall g_parted_in (aCons (fVar 3) (aCons (fVar 2) (aCons (fVar 4) aNil)))) (fC (.int 0))) aNil)) [.val (.int p),.val od,.val othd,.val (fieldP p),.val (.tuple (g.map .int))] s = some (.next [.val (.int p),.val (.tuple (q1.map .int)),.val (.tuple (q2.map .int)),.val (fieldP p),.val (.tuple (g.map .int))],s):=by
        unfold sPar
        rw [aCons_run (d:=.tuple (q1.map .int)) (f2_run (a:=.tuple [.tuple (q1.map .int),.tuple (t1.map .int)]) (b:=.int 0) (fCall_run (ds:=[fieldP p,od,.tuple (g.map .int)]) rfl (ep1 od ho)) rfl rfl) (aCons_run (d:=.tuple (q2.map .int)) (FL:=aNil) (f2_run (a:=.tuple [.tuple (q2.map .int),.tuple (t2.map .int)]) (b:=.int 0) (fCall_run (ds:=[fieldP p,othd,.tuple (g.map .int)]) rfl (ep2 othd hot)) rfl rfl) rfl)]
        rfl
      refine rIf_f (tl.trans (by rw [decide_eq_false (by omega)])) (rSeq_n a3 (rSeq_n a4 (rIf_t (asB_r (f2_run (a:=.int (zc q2 0)) (b:=.int 0) (s1:=s) (f2_run (a:=.tuple (q2.map .int)) (b:=.int 0) (s1:=s) rfl rfl (ix_ints (d:=.tuple (q2.map .int)) (l:=q2) (k:=0) rfl Q.z2)) rfl (by rw [gEq_int,decide_eq_true nq]))))))
  show (hX_quotient_by [.int p,od,othd] s).map (fun s' => (PyData.bool true,s')) = _
  rw [key]; rfl

theorem mulR {p a b:Int} (hp:p ≤ 1000) (ha:0 ≤ a∧a < p) (hb:0 ≤ b∧b < p):gMulI (.int a) (.int b) = some (.int (a * b)):=by
  have mk:mulOk a b = true:=(bt10 hp ha).ok (bt10 hp hb) (by decide)
  simp only [gMulI,gI,mk,if_true]

theorem ints_of {P:Int→Prop}:∀ {xs:List D},(∀ x ∈ xs,∃ z,x = .int z∧P z)→∃ l:List Int,xs = l.map .int∧∀ z ∈ l,P z
  | [],_ => ⟨[],rfl,fun _ z => nomatch z⟩
  | x :: xs,h => by
    obtain ⟨l,e,hl⟩:=ints_of (xs:=xs) fun y hy => h y (List.mem_cons_of_mem _ hy)
    obtain ⟨z,rfl,hz⟩:=h x List.mem_cons_self
    exact ⟨z :: l,by rw [e]; rfl,fun y hy => by
      rcases List.mem_cons.mp hy with rfl | hy
      · exact hz
      · exact hl y hy⟩
theorem draws_run {p:Int} (hp:Prm p) (m n:Nat) (s:Sx) (h:Good (n + m) s):∃ (l:List Int) (s':Sx),compD (.one 0) fTrue (fCall g__law_take (aCons (fVar 1) (aCons (fVar 2) aNil))) [.non,.val (.dict []),.val (.int p)] (rng 0 m) s = some (l.map .int,s')∧Rs p l∧l.length = m∧Good n s':=by
  have ht:=hp.two
  obtain ⟨xs,s',e,hx,hl,g⟩:=compD_gen (T:=.one 0) (Ft:=fTrue) (F:=fCall g__law_take (aCons (fVar 1) (aCons (fVar 2) aNil))) (δc:=[.non,.val (.dict []),.val (.int p)]) (fun d => ∃ z,d = .int z∧(0 ≤ z∧z < p)) 1 (fun n s d hg => by
    obtain ⟨r,s1,e1,r0,r1,g1⟩:=draw_le (M:=p) hg (by omega) (by omega)
    exact ⟨[.val d,.val (.dict []),.val (.int p)],.int r,s1,rfl,rfl,fCall_run (ds:=[.dict [],.int p]) rfl e1,⟨r,rfl,r0,r1⟩,g1⟩) (rng 0 m) n s (by rw [rng_len,Nat.one_mul]; exact h)
  obtain ⟨l,rfl,hr⟩:=ints_of hx
  rw [List.length_map,rng_len] at hl
  exact ⟨l,s',e,hr,hl,g⟩
theorem thin_run {p:Int} (hp:Prm p):∀ (l:List Int) (n:Nat) (s:Sx),Rs p l→Good (n + l.length) s→∃ (l':List Int) (s':Sx),compD (.one 0) fTrue (f2 gMulI (fVar 0) (f1 gInt (f2 gEq (fCall g__law_take (aCons (fVar 1) (aCons (fC (.int 3)) aNil))) (fC (.int 0))))) [.non,.val (.dict [])] (l.map .int) s = some (l'.map .int,s')∧Rs p l'∧l'.length = l.length∧Good n s'
  | [],n,s,_,h => ⟨[],s,rfl,(fun _ z => nomatch z),rfl,h⟩
  | a :: l,n,s,hr,h => by
    have ht:=hp.two
    have ha:=hr a List.mem_cons_self
    obtain ⟨j,s1,e1,hj,g1⟩:=draw_nat (n:=n + l.length) (m:=3) (h.mono (by rw [List.length_cons]; omega)) (by decide) (by decide)
    obtain ⟨l',s2,e2,r2,n2,g2⟩:=thin_run hp l n s1 (fun x hx => hr x (List.mem_cons_of_mem _ hx)) g1
    have key:∀ b:Bool,decide ((j:Int) = 0) = b→∃ v:Int,(0 ≤ v∧v < p)∧f2 gMulI (fVar 0) (f1 gInt (f2 gEq (fCall g__law_take (aCons (fVar 1) (aCons (fC (.int 3)) aNil))) (fC (.int 0)))) [.val (.int a),.val (.dict [])] s = some (.int v,s1):=by
      intro b hb
      have hq:gEq (.int (j:Int)) (.int 0) = some (.bool b):=by rw [gEq_int,hb]
      have x1:=f2_run (g:=gEq) (a:=.int (j:Int)) (b:=.int 0) (δ:=[.val (.int a),.val (.dict [])]) (s:=s) (s1:=s1) (s2:=s1) (Fa:=fCall g__law_take (aCons (fVar 1) (aCons (fC (.int 3)) aNil))) (Fb:=fC (.int 0)) (fCall_run (ds:=[.dict [],.int 3]) rfl e1) rfl hq
      cases b with
      | true =>
        have:gMulI (.int a) (.int 1) = some (.int (a * 1)):=mulR (p:=p) (by omega) ha ⟨by omega,by omega⟩
        exact ⟨a * 1,by omega,f2_run (a:=.int a) (b:=.int 1) rfl (f1_run (a:=.bool true) x1 rfl) this⟩
      | false =>
        have:gMulI (.int a) (.int 0) = some (.int (a * 0)):=mulR (p:=p) (by omega) ha ⟨by omega,by omega⟩
        exact ⟨a * 0,by omega,f2_run (a:=.int a) (b:=.int 0) rfl (f1_run (a:=.bool false) x1 rfl) this⟩
    obtain ⟨v,hv,ev⟩:=key _ rfl
    refine ⟨v :: l',s2,?_,fun x hx => ?_,by simp [n2],g2⟩
    · rw [List.map_cons]
      unfold compD
      rw [show Tgt.run (.one 0) (.int a) [.non,.val (.dict [])] = some [.val (.int a),.val (.dict [])] from rfl]
      simp only [Option.bind_some,fTrue,if_true,ev,e2,Option.map_some]
      rfl
    · rcases List.mem_cons.mp hx with rfl | hx
      · exact hv
      · exact r2 x hx
theorem poly_run {p:Int} {most n:Nat} (hp:Prm p) (hm:most ≤ 12) (s:Sx) (h:Good (n + 30) s):∃ (l:List Int) (s':Sx),g__law_poly_by [.dict [],.int p,.int (most:Int)] s = some (.tuple (l.map .int),s')∧Rs p l∧Ends l∧l.length ≤ 13∧Good n s':=by
  have ht:=hp.two
  obtain ⟨u,s1,e1,hu,g1⟩:=draw_nat (n:=n + 29) (m:=3) h (by decide) (by decide)
  obtain ⟨m,s2,e2,hm2,g2⟩:=draw_nat (n:=n + 28) (m:=most + 2) g1 (by omega) (by omega)
  obtain ⟨l,s3,e3,r3,l3,g3⟩:=draws_run hp m (n + 13) s2 (g2.mono (by omega))
  have a1:sSet 3 (f2 gEq (fCall g__law_take (aCons (fVar 0) (aCons (fC (.int 3)) aNil))) (fC (.int 0))) [.val (.dict []),.val (.int p),.val (.int (most:Int)),.non,.non] s = some (.next [.val (.dict []),.val (.int p),.val (.int (most:Int)),.val (.bool (decide ((u:Int) = 0))),.non],s1):=sSet_run (f2_run (a:=.int (u:Int)) (b:=.int 0) (fCall_run (ds:=[.dict [],.int 3]) rfl e1) rfl (gEq_int _ _))
  have a2:sSetL 4 C__law_poly_by_1 [.val (.dict []),.val (.int p),.val (.int (most:Int)),.val (.bool (decide ((u:Int) = 0))),.non] s1 = some (.next [.val (.dict []),.val (.int p),.val (.int (most:Int)),.val (.bool (decide ((u:Int) = 0))),.val (.list (l.map .int))],s3):=by
    unfold sSetL C__law_poly_by_1 fComp
    rw [iRange1_nat (n:=m) (fCall_run (ds:=[.dict [],.int ((most + 2:Nat):Int)]) (aCons_run (F:=fVar 0) rfl (aCons_run (FL:=aNil) (f2_run (a:=.int (most:Int)) (b:=.int 2) rfl rfl (by simp [gAdd,gAddI,gI])) rfl)) e2) (by omega)]
    simp only [Option.bind_some]
    rw [if_pos (small_le (by rw [rng_len]; omega))]
    show ((compD _ _ _ [.non,.val (.dict []),.val (.int p)] (rng 0 m) s2).map _) = _
    rw [e3]; rfl
  obtain ⟨l',s4,r4,l4,g4,a3⟩:∃ (l':List Int) (s4:Sx),Rs p l'∧l'.length ≤ 13∧Good n s4∧sIf (asT (fVar 3)) (sSetL 4 C__law_poly_by_2) sNext [.val (.dict []),.val (.int p),.val (.int (most:Int)),.val (.bool (decide ((u:Int) = 0))),.val (.list (l.map .int))] s3 = some (.next [.val (.dict []),.val (.int p),.val (.int (most:Int)),.val (.bool (decide ((u:Int) = 0))),.val (.list (l'.map .int))],s4):=by
    have tu:asT (fVar 3) [.val (.dict []),.val (.int p),.val (.int (most:Int)),.val (.bool (decide ((u:Int) = 0))),.val (.list (l.map .int))] s3 = some (decide ((u:Int) = 0),s3):=asT_r rfl
    by_cases hz:(u:Int) = 0
    · rw [decide_eq_true hz] at tu ⊢
      obtain ⟨l',s4,e4,r4,l4,g4⟩:=thin_run hp l n s3 r3 (g3.mono (by omega))
      refine ⟨l',s4,r4,by omega,g4,sIf_t tu ?_⟩
      unfold sSetL C__law_poly_by_2 fComp
      rw [show iSeq (fVar 4) [.val (.dict []),.val (.int p),.val (.int (most:Int)),.val (.bool true),.val (.list (l.map .int))] s3 = some (l.map .int,s3) from rfl]
      simp only [Option.bind_some]
      rw [if_pos (small_le (by rw [List.length_map]; omega))]
      show ((compD _ _ _ [.non,.val (.dict [])] (l.map .int) s3).map _) = _
      rw [e4]; rfl
    · rw [decide_eq_false hz] at tu ⊢
      exact ⟨l,s3,r3,by omega,g3.mono (by omega),sIf_f tu rfl⟩
  refine ⟨tz l',s4,fn_run (n:=3) (m:=2) (G:=G__law_poly_by) rfl ?_,r4.tz,fun h => tz_last h,by have:=tz_le l'; omega,g4⟩
  show G__law_poly_by [.val (.dict []),.val (.int p),.val (.int (most:Int)),.non,.non] s = _
  unfold G__law_poly_by
  rw [sSeq_next a1,sSeq_next a2,sSeq_next a3]
  unfold sRet
  exact congrArg (Option.map _) (fCall_run (ds:=[.list (l'.map .int)]) rfl (cut_run s4 rfl (by omega)))
theorem prime_run {n:Nat} {s:Sx} (h:Good (n + 1) s):∃ p s',g__law_prime [.dict []] s = some (.int p,s')∧Prm p∧Good n s':=by
  obtain ⟨j,s1,e1,hj,g1⟩:=draw_nat (n:=n) (m:=8) h (by decide) (by decide)
  obtain ⟨p,hp,ei⟩:∃ p,Prm p∧gIx (.list [(.int 2),(.int 3),(.int 5),(.int 7),(.int 11),(.int 13),(.int 101),(.int 997)]) (.int (j:Int)) = some (.int p):=by
    have:j = 0 ∨ j = 1 ∨ j = 2 ∨ j = 3 ∨ j = 4 ∨ j = 5 ∨ j = 6 ∨ j = 7:=by omega
    rcases this with rfl | rfl | rfl | rfl | rfl | rfl | rfl | rfl
    · exact ⟨2,⟨2,by decide,rfl⟩,rfl⟩
    · exact ⟨3,⟨3,by decide,rfl⟩,rfl⟩
    · exact ⟨5,⟨5,by decide,rfl⟩,rfl⟩
    · exact ⟨7,⟨7,by decide,rfl⟩,rfl⟩
    · exact ⟨11,⟨11,by decide,rfl⟩,rfl⟩
    · exact ⟨13,⟨13,by decide,rfl⟩,rfl⟩
    · exact ⟨101,⟨101,by decide,rfl⟩,rfl⟩
    · exact ⟨997,⟨997,by decide,rfl⟩,rfl⟩
  refine ⟨p,s1,fn_run (n:=1) (m:=0) (G:=G__law_prime) rfl ?_,hp,g1⟩
  show G__law_prime [.val (.dict [])] s = _
  unfold G__law_prime sRet
  exact congrArg (Option.map _) (f2_run (s1:=s) rfl (fCall_run (ds:=[.dict [],.int 8]) rfl e1) ei)

theorem catT {xs ys:List D} (h:xs.length + ys.length ≤ 1000):gAddA (.tuple xs) (.tuple ys) = some (.tuple (xs ++ ys)):=by
  have hs:small (xs ++ ys) = true:=small_le (by rw [List.length_append]; exact h)
  show (Option.or none (gCatT (.tuple xs) (.tuple ys))) = _
  simp only [gCatT,hs,if_true]; rfl
theorem ends_cons {a:Int} {l:List Int} (ha:a ≠ 0) (h:Ends l):Ends (a :: l):=fun _ => by
  cases l with
  | nil => exact ha
  | cons b l => exact h (Nat.succ_pos _)
theorem rs_cons {p a:Int} {l:List Int} (ha:0 ≤ a∧a < p) (h:Rs p l):Rs p (a :: l):=fun x hx => by
  rcases List.mem_cons.mp hx with rfl | hx
  · exact ha
  · exact h x hx
structure Rw (p:Int) (l:List Int):Prop where
  rs:Rs p l
  en:Ends l
  ln:l.length ≤ 30
theorem Rw.ask (hN:NoneOk) {p:Int} {a b:List Int} (s:Sx) (hp:Prm p) (A:Rw p a) (B:Rw p b):g__law_right [.int p,.tuple (a.map .int),.tuple (b.map .int)] s = some (.bool true,s) :=
  right_run hN s hp A.rs B.rs A.en B.en (by have:=A.ln; omega) (by have:=B.ln; omega)
theorem not_right {F:FA} {δ:Sl} {s:Sx} {ds:List D} (h:F δ s = some (ds,s)) (e:g__law_right ds s = some (.bool true,s)):tNotF (asT (fCall g__law_right F)) δ s = some (false,s):=tNotF_r (b:=true) (asT_r (fCall_run h e))
theorem body_run (hN:NoneOk) {n:Nat} {s:Sx} {c0 c2 c3 c4 c5 c6 c7 c8:Ce} (h:Good (n + 93) s):∃ d3 d4 d5 d6 d7 d8 s',B_law_1 [c0,.val (.dict []),c2,c3,c4,c5,c6,c7,c8] s = some (.next [c0,.val (.dict []),c2,d3,d4,d5,d6,d7,d8],s')∧Good n s':=by
  obtain ⟨p,s1,e1,hp,g1⟩:=prime_run (n:=n + 92) h
  have ht:=hp.two
  obtain ⟨j,s2,e2,hj,g2⟩:=draw_nat (n:=n + 91) (m:=8) g1 (by decide) (by decide)
  obtain ⟨most,hm,em⟩:∃ m:Nat,m ≤ 12∧gIx (.list [.int 5,.int 12]) (.int (if (j:Int) = 0 then 1 else 0)) = some (.int (m:Int)):=by
    by_cases h0:(j:Int) = 0
    · rw [if_pos h0]; exact ⟨12,by decide,rfl⟩
    · rw [if_neg h0]; exact ⟨5,by decide,rfl⟩
  have ei:f1 gInt (f2 gEq (fCall g__law_take (aCons (fVar 1) (aCons (fC (.int 8)) aNil))) (fC (.int 0))) [c0,.val (.dict []),c2,.val (.int p),c4,c5,c6,c7,c8] s1 = some (.int (if (j:Int) = 0 then 1 else 0),s2):=by
    refine f1_run (a:=.bool (decide ((j:Int) = 0))) (f2_run (a:=.int (j:Int)) (b:=.int 0) (fCall_run (ds:=[.dict [],.int 8]) rfl e2) rfl (gEq_int _ _)) ?_
    by_cases h0:(j:Int) = 0
    · rw [if_pos h0,decide_eq_true h0]; rfl
    · rw [if_neg h0,decide_eq_false h0]; rfl
  have dv:gDivI (.int (most:Int)) (.int 2) = some (.int ((most / 2:Nat):Int)):=by
    simp only [gDivI,gI,show divOk (most:Int) 2 = true from rfl,if_true,Int.fdiv_eq_ediv_of_nonneg _ (show (0:Int) ≤ 2 by decide)]; rfl
  obtain ⟨top,s3,e3,r3,n3,l3,g3⟩:=poly_run (most:=most / 2) (n:=n + 61) hp (by omega) s2 g2
  obtain ⟨below,s4,e4,r4,n4,l4,g4⟩:=poly_run (most:=most / 2) (n:=n + 31) hp (by omega) s3 g3
  obtain ⟨both,s5,e5,r5,n5,l5,g5⟩:=poly_run (most:=most / 2) (n:=n + 1) hp (by omega) s4 g4
  obtain ⟨t,s6,e6,ht6,g6⟩:=draw_nat (n:=n) (m:=2) g5 (by decide) (by decide)
  have A:Rw p top:=⟨r3,n3,by omega⟩
  have B:Rw p below:=⟨r4,n4,by omega⟩
  obtain ⟨moved,Mv,lm,ev⟩:∃ moved:List Int,Rs p moved∧moved.length ≤ 2∧(gMulT (.tuple [.int 0]) (.int (t:Int))).bind (fun a => gAddA a (.tuple [.int 1])) = some (.tuple (moved.map .int)):=by
    have:t = 0 ∨ t = 1:=by omega
    rcases this with rfl | rfl
    · exact ⟨[1],rs_cons ⟨by decide,by omega⟩ (fun _ z => nomatch z),by decide,rfl⟩
    · exact ⟨[0,1],rs_cons ⟨by decide,by omega⟩ (rs_cons ⟨by decide,by omega⟩ (fun _ z => nomatch z)),by decide,rfl⟩
  obtain ⟨mm,em1,em2⟩:∃ a,gMulT (.tuple [.int 0]) (.int (t:Int)) = some a∧gAddA a (.tuple [.int 1]) = some (.tuple (moved.map .int)):=by
    cases h1:gMulT (.tuple [.int 0]) (.int (t:Int)) with
    | none => rw [h1] at ev; cases ev
    | some a => rw [h1] at ev; exact ⟨a,rfl,ev⟩
  obtain ⟨m1,x1,P1⟩:=tby_run (ad:=.tuple (top.map .int)) (bd:=.tuple (both.map .int)) s6 hp rfl rfl r3 r5 (by omega) (by omega)
  obtain ⟨m2,x2,P2⟩:=tby_run (ad:=.tuple (below.map .int)) (bd:=.tuple (both.map .int)) s6 hp rfl rfl r4 r5 (by omega) (by omega)
  obtain ⟨m3,x3,P3⟩:=tby_run (ad:=.tuple (top.map .int)) (bd:=.tuple (moved.map .int)) s6 hp rfl rfl r3 Mv (by omega) (by omega)
  have q1:=P1.ln
  have q2:=P2.ln
  have q3:=P3.ln
  have C1:Rw p (1 :: below):=⟨rs_cons ⟨by decide,by omega⟩ r4,ends_cons (by decide) n4,by simp; omega⟩
  have ct:=cut_run (d:=.tuple ((0 :: below).map .int)) (l:=0 :: below) s6 rfl (by simp; omega)
  have C2:Rw p (tz (0 :: below)):=⟨(rs_cons ⟨by decide,by omega⟩ r4).tz,fun h => tz_last h,by have:=tz_le (0 :: below); simp at this; omega⟩
  refine ⟨.val (.int p),.val (.int (most:Int)),.val (.tuple (top.map .int)),.val (.tuple (below.map .int)),.val (.tuple (both.map .int)),.val (.tuple (moved.map .int)),s6,?_,g6⟩
  unfold B_law_1
  refine sSeq_n (δ1:=[c0,.val (.dict []),c2,.val (.int p),c4,c5,c6,c7,c8]) (s1:=s1) (sSet_run (fCall_run (ds:=[.dict []]) rfl e1)) (sSeq_n (δ1:=[c0,.val (.dict []),c2,.val (.int p),.val (.int (most:Int)),c5,c6,c7,c8]) (s1:=s2) (sSet_run (f2_run (a:=.list [.int 5,.int 12]) (s1:=s1) rfl ei em)) (sSeq_n (δ1:=[c0,.val (.dict []),c2,.val (.int p),.val (.int (most:Int)),.val (.tuple (top.map .int)),.val (.tuple (below.map .int)),c7,c8]) (s1:=s4) ?_ (sSeq_n (δ1:=[c0,.val (.dict []),c2,.val (.int p),.val (.int (most:Int)),.val (.tuple (top.map .int)),.val (.tuple (below.map .int)),.val (.tuple (both.map .int)),c8]) (s1:=s5) (sSet_run (fCall_run (ds:=[.dict [],.int p,.int ((most / 2:Nat):Int)]) (aCons_run (F:=fVar 1) rfl (aCons_run (F:=fVar 3) rfl (aCons_run (FL:=aNil) (f2_run rfl rfl dv) rfl))) e5)) (sSeq_n (δ1:=[c0,.val (.dict []),c2,.val (.int p),.val (.int (most:Int)),.val (.tuple (top.map .int)),.val (.tuple (below.map .int)),.val (.tuple (both.map .int)),.val (.tuple (moved.map .int))]) (s1:=s6) (sSet_run (f2_run (a:=mm) (b:=.tuple [.int 1]) (s1:=s6) (f2_run (a:=.tuple [.int 0]) (b:=.int (t:Int)) (s1:=s5) rfl (fCall_run (ds:=[.dict [],.int 2]) rfl e6) em1) rfl em2)) ?_))))
  · unfold sPar
    rw [aCons_run (d:=.tuple (top.map .int)) (s1:=s3) (fCall_run (ds:=[.dict [],.int p,.int ((most / 2:Nat):Int)]) (aCons_run (F:=fVar 1) rfl (aCons_run (F:=fVar 3) rfl (aCons_run (FL:=aNil) (f2_run rfl rfl dv) rfl))) e3) (aCons_run (d:=.tuple (below.map .int)) (FL:=aNil) (fCall_run (ds:=[.dict [],.int p,.int ((most / 2:Nat):Int)]) (aCons_run (F:=fVar 1) rfl (aCons_run (F:=fVar 3) rfl (aCons_run (FL:=aNil) (f2_run rfl rfl dv) rfl))) e4) rfl)]
    rfl
  · refine sSeq_n (δ1:=[c0,.val (.dict []),c2,.val (.int p),.val (.int (most:Int)),.val (.tuple (top.map .int)),.val (.tuple (below.map .int)),.val (.tuple (both.map .int)),.val (.tuple (moved.map .int))]) (s1:=s6) (sIf_not (tOrF_f (s1:=s6) (not_right (ds:=[.int p,.tuple (top.map .int),.tuple (below.map .int)]) rfl (Rw.ask hN s6 hp A B)) (not_right (ds:=[.int p,.tuple (top.map .int),.tuple ((1 :: below).map .int)]) (aCons_run (F:=fVar 3) rfl (aCons_run (F:=fVar 5) rfl (aCons_run (FL:=aNil) (f2_run (a:=.tuple [.int 1]) (b:=.tuple (below.map .int)) (s1:=s6) rfl rfl (catT (by simp; omega))) rfl))) (Rw.ask hN s6 hp A C1)))) (sSeq_n (δ1:=[c0,.val (.dict []),c2,.val (.int p),.val (.int (most:Int)),.val (.tuple (top.map .int)),.val (.tuple (below.map .int)),.val (.tuple (both.map .int)),.val (.tuple (moved.map .int))]) (s1:=s6) (sIf_not (not_right (ds:=[.int p,.tuple (m1.map .int),.tuple (m2.map .int)]) (aCons_run (F:=fVar 3) rfl (aCons_run (fCall_run (ds:=[.int p,.tuple (top.map .int),.tuple (both.map .int)]) rfl x1) (aCons_run (FL:=aNil) (fCall_run (ds:=[.int p,.tuple (below.map .int),.tuple (both.map .int)]) rfl x2) rfl))) (Rw.ask hN s6 hp ⟨P1.rs,P1.en,by omega⟩ ⟨P2.rs,P2.en,by omega⟩))) (sIf_not (tOrF_f (s1:=s6) (not_right (ds:=[.int p,.tuple (m3.map .int),.tuple (below.map .int)]) (aCons_run (F:=fVar 3) rfl (aCons_run (fCall_run (ds:=[.int p,.tuple (top.map .int),.tuple (moved.map .int)]) rfl x3) (aCons_run (F:=fVar 6) (FL:=aNil) rfl rfl))) (Rw.ask hN s6 hp ⟨P3.rs,P3.en,by omega⟩ B)) (not_right (ds:=[.int p,.tuple (top.map .int),.tuple ((tz (0 :: below)).map .int)]) (aCons_run (F:=fVar 3) rfl (aCons_run (F:=fVar 5) rfl (aCons_run (FL:=aNil) (fCall_run (ds:=[.tuple ((0 :: below).map .int)]) (aCons_run (FL:=aNil) (f2_run (a:=.tuple [.int 0]) (b:=.tuple (below.map .int)) (s1:=s6) rfl rfl (catT (by simp; omega))) rfl) ct) rfl))) (Rw.ask hN s6 hp A C2)))))
theorem law_run_of (hN:NoneOk):∀ cells:List Int,0 < cells.length→cells.length ≤ 63→∃ s',G_law d_law (cells,0) = some (.ret (.bool true),s'):=fun cells h0 h1 => by
  have g0:Good (93 * 4) ((cells,0):Sx):=⟨h0,h1,(by show (0:Int) ≤ 0; decide),(by show (0:Int) + ((93 * 4:Nat):Int) < 1000000; decide)⟩
  obtain ⟨δ',s1,e1,x2,x3,x4,x5,x6,x7,x8,hδ,g1⟩:=forD_run (T:=.one 2) (G:=B_law_1) (fun k δ s => ∃ x2 x3 x4 x5 x6 x7 x8,δ = [.non,.val (.dict []),x2,x3,x4,x5,x6,x7,x8]∧Good (93 * k) s) (rng 0 4) d_law (cells,0) ⟨.non,.non,.non,.non,.non,.non,.non,rfl,by rw [rng_len]; exact g0⟩ (fun k d δ s _ x__186 => by
    obtain ⟨x2,x3,x4,x5,x6,x7,x8,hδ,hg⟩:=x__186
    subst hδ
    obtain ⟨d3,d4,d5,d6,d7,d8,s',e,g⟩:=body_run hN (n:=93 * k) (c0:=.non) (c2:=.val d) (c3:=x3) (c4:=x4) (c5:=x5) (c6:=x6) (c7:=x7) (c8:=x8) (hg.mono (by omega))
    exact ⟨_,_,s',rfl,e,_,_,_,_,_,_,_,rfl,g⟩)
  subst hδ
  have p2:Prm 2:=⟨2,by decide,rfl⟩
  have p3:Prm 3:=⟨3,by decide,rfl⟩
  have k0:Rw 2 []:=⟨(fun _ z => nomatch z),fun z => absurd z (by decide),by decide⟩
  have k1:Rw 2 [0,1]:=⟨fun x hx => by simp only [List.mem_cons,List.not_mem_nil,or_false] at hx; omega,fun _ => by decide,by decide⟩
  have k2:Rw 3 [0,2]:=⟨fun x hx => by simp only [List.mem_cons,List.not_mem_nil,or_false] at hx; omega,fun _ => by decide,by decide⟩
  have k3:Rw 3 [0,0,1]:=⟨fun x hx => by simp only [List.mem_cons,List.not_mem_nil,or_false] at hx; omega,fun _ => by decide,by decide⟩
  refine ⟨s1,?_⟩
  unfold G_law
  refine sSeq_n (δ1:=[.non,.val (.dict []),x2,x3,x4,x5,x6,x7,x8]) (s1:=s1) ?_ (sRet_run (eAnd_t (s1:=s1) ?_ (eAnd_t (s1:=s1) ?_ ?_)))
  rotate_left
  · exact fCall_run (ds:=[.int 2,.tuple (([]:List Int).map .int),.tuple (([]:List Int).map .int)]) (aCons_run (F:=fC (.int 2)) rfl (aCons_run (eTup_run (FL:=aNil) rfl rfl) (aCons_run (FL:=aNil) (eTup_run (FL:=aNil) rfl rfl) rfl))) (Rw.ask hN s1 p2 k0 k0)
  · exact fCall_run (ds:=[.int 2,.tuple (([]:List Int).map .int),.tuple (([0,1]:List Int).map .int)]) (aCons_run (F:=fC (.int 2)) rfl (aCons_run (eTup_run (FL:=aNil) rfl rfl) (aCons_run (FL:=aNil) (eTup_run rfl (small2 _ _)) rfl))) (Rw.ask hN s1 p2 k0 k1)
  · exact fCall_run (ds:=[.int 3,.tuple (([0,2]:List Int).map .int),.tuple (([0,0,1]:List Int).map .int)]) (aCons_run (F:=fC (.int 3)) rfl (aCons_run (eTup_run rfl (small2 _ _)) (aCons_run (FL:=aNil) (eTup_run rfl (small_le (by simp))) rfl))) (Rw.ask hN s1 p3 k2 k3)
  have er:iRange1 (fC (.int 4)) d_law (cells,0) = some (rng 0 4,(cells,0)):=iRange1_r (z:=4) rfl (by decide) (by decide)
  unfold L_law_2 sFor
  rw [er]
  exact e1
theorem law_run:∀ cells:List Int,0 < cells.length→cells.length ≤ 63→∃ s',G_law d_law (cells,0) = some (.ret (.bool true),s'):=law_run_of none_ok

theorem ok_law {f:Addr} {fd:FuncData} (F:Fun K "law" "law" s_law f fd) (hb:∃ f fd,FnOk P w K mg base CX0 1 f fd ["_law_script"] (spBegin K)∧mg "_law_begin" = some (.ref f)∧PySem.W.keepIn K (.ref f) = true∧Binds K fd ["_law_script"] []) (h__law_take:Cal P w K mg base "_law_take" ["_law_state","_law_many"] 1 g__law_take) (h__law_prime:Cal P w K mg base "_law_prime" ["_law_state"] 2 g__law_prime) (h__law_cut:Cal P w K mg base "_law_cut" ["_law_numbers"] 1 g__law_cut) (h__law_times_by:Cal P w K mg base "_law_times_by" ["_law_p","_law_one","_law_other"] 2 g__law_times_by) (h__law_poly_by:Cal P w K mg base "_law_poly_by" ["_law_state","_law_p","_law_most"] 2 g__law_poly_by) (h__law_right:Cal P w K mg base "_law_right" ["_law_p","_law_top","_law_below"] 8 g__law_right) (n_int:mg "int" = none) (n_range:mg "range" = none)
    (run:∀ cells:List Int,0 < cells.length→cells.length ≤ 63→∃ s',G_law d_law (cells,0) = some (.ret (.bool true),s')):FnOk P w K mg base CX0 9 f fd ["_law_script"] (spLaw K):=by
  obtain ⟨fb,fdb,Gb,mb,kb,bb⟩:=hb
  have nd:=sc_law.nd
  refine F.ok sc_law (fun vs H Q E x__187 => by obtain ⟨a,ns,e,_⟩:=x__187; subst e; rfl) (fun cdv A outer s H vs Q E hr x__188 => ?_)
  obtain ⟨a,ns,e,sq,hl,q⟩:=x__188
  subst e
  refine ⟨_,pss_cons (ps_set (i:=1) nd rfl (by first | exact Or.inl rfl | exact Or.inr rfl) (pe_call Gb (hr.mono (by decide)) rfl mb kb bb .nil pass0 (pa_cons (pv 0) pa_nil)))
    (DSs.any ((dss_cons (ds_for (di_range1 n_range de_int) (dg_name (i:=2) nd) (dss_cons (ds_set (i:=3) nd (de_cal h__law_prime hr (da_cons (dv 1) da_nil)))
      (dss_cons (ds_set (i:=4) nd (de_ix (de_lst (da_cons de_int (da_cons de_int da_nil))).w (de_t1 dc_int (by first | rfl | decide +kernel) n_int (de_cmp (deq hr.units) (de_cal h__law_take hr (da_cons (dv 1) (da_cons de_int da_nil))).w (de_int).w (nomark _)).w).w (fun _ _ => rfl)))
      (dss_cons (ds_par (i:=5) (j:=6) nd (by decide) (da_cons (de_cal h__law_poly_by hr (da_cons (dv 1) (da_cons (dv 3) (da_cons (de_op ddiv_int (dv 4).w (de_int).w) da_nil)))) (da_cons (de_cal h__law_poly_by hr (da_cons (dv 1) (da_cons (dv 3) (da_cons (de_op ddiv_int (dv 4).w (de_int).w) da_nil)))) da_nil)) (by first | rfl | with_unfolding_all rfl))
      (dss_cons (ds_set (i:=7) nd (de_cal h__law_poly_by hr (da_cons (dv 1) (da_cons (dv 3) (da_cons (de_op ddiv_int (dv 4).w (de_int).w) da_nil)))))
      (dss_cons (ds_set (i:=8) nd (de_op dadda (de_op dmulT (de_tup (da_cons de_int da_nil)).w (de_cal h__law_take hr (da_cons (dv 1) (da_cons de_int da_nil))).w).w (de_tup (da_cons de_int da_nil)).w))
      (dss_cons (ds_if (dw_or (dt_not (dt_tru (de_cal h__law_right hr (da_cons (dv 3) (da_cons (dv 5) (da_cons (dv 6) da_nil)))).w (fun _ => rfl))) (dw_or1 (dt_not (dt_tru (de_cal h__law_right hr (da_cons (dv 3) (da_cons (dv 5) (da_cons (de_op dadda (de_tup (da_cons de_int da_nil)).w (dv 6).w) da_nil)))).w (fun _ => rfl))))).t (dss_one (ds_ret de_bl)) dss_nil)
      (dss_cons (ds_if (dt_not (dt_tru (de_cal h__law_right hr (da_cons (dv 3) (da_cons (de_cal h__law_times_by hr (da_cons (dv 3) (da_cons (dv 5) (da_cons (dv 7) da_nil)))) (da_cons (de_cal h__law_times_by hr (da_cons (dv 3) (da_cons (dv 6) (da_cons (dv 7) da_nil)))) da_nil)))).w (fun _ => rfl))) (dss_one (ds_ret de_bl)) dss_nil)
      (dss_one (ds_if (dw_or (dt_not (dt_tru (de_cal h__law_right hr (da_cons (dv 3) (da_cons (de_cal h__law_times_by hr (da_cons (dv 3) (da_cons (dv 5) (da_cons (dv 8) da_nil)))) (da_cons (dv 6) da_nil)))).w (fun _ => rfl))) (dw_or1 (dt_not (dt_tru (de_cal h__law_right hr (da_cons (dv 3) (da_cons (dv 5) (da_cons (de_cal h__law_cut hr (da_cons (de_op dadda (de_tup (da_cons de_int da_nil)).w (dv 6).w) da_nil)) da_nil)))).w (fun _ => rfl))))).t (dss_one (ds_ret de_bl)) dss_nil))))))))))
      (dss_one (ds_ret (de_and (de_cal h__law_right hr (da_cons de_int (da_cons (de_tup da_nil) (da_cons (de_tup da_nil) da_nil)))) (de_and (de_cal h__law_right hr (da_cons de_int (da_cons (de_tup da_nil) (da_cons (de_tup (da_cons de_int (da_cons de_int da_nil))) da_nil)))) (de_one (de_cal h__law_right hr (da_cons de_int (da_cons (de_tup (da_cons de_int (da_cons de_int da_nil))) (da_cons (de_tup (da_cons de_int (da_cons de_int (da_cons de_int da_nil)))) da_nil)))))))))):DSs _ _ G_law)),?_⟩
  refine ⟨_,rfl,a,ns,rfl,sq,hl,fun st c H' same h1 h2 => ?_⟩
  obtain ⟨s',hrun⟩:=run (beginCells ns) (begin_len ns hl).1 (begin_len ns hl).2
  refine ⟨some (st,c),[],[],d_law,(beginCells ns,0),_,s',Al.repS (.non (.val (.st rfl) (.non (.non (.non (.non (.non (.non (.non .nil))))))))) (fun q hq => nomatch hq) (fun b o eb _ => same b o eb),(fun a c h => by cases h; exact ⟨h1,h2⟩),hrun,fun v H2 x S r => by cases r; exact q H2⟩
end
theorem all_mk {l:PySem.W.OpenLaw} {w:World} {K:PySem.W.Frag} {h:Heap} {mg:Str→Option Value} {fa:Addr} (X:K.In h) (G:h.Ns mainGlobals mg) (hfa:mg "law" = some (.ref fa))
    {C0:Addr}
    {E_NoQuotient:Addr}
    {E_FarError:Addr}
    {E_TooShort:Addr}
    {E_Pole:Addr}
    {E_BadRow:Addr}
    (d0:FD K "_wall" s__wall)
    (d1:FD K "inverse_by" s_inverse_by)
    (d2:FD K "trimmed" s_trimmed)
    (d3:FD K "parted_in" s_parted_in)
    (d4:FD K "common_in" s_common_in)
    (d5:FD K "quotient_by" s_quotient_by)
    (d6:FD K "settled_by" s_settled_by)
    (d7:FD K "_law_begin" s__law_begin)
    (d8:FD K "_law_take" s__law_take)
    (d9:FD K "_law_same" s__law_same)
    (d10:FD K "_law_prime" s__law_prime)
    (d11:FD K "_law_inverse" s__law_inverse)
    (d12:FD K "_law_cut" s__law_cut)
    (d13:FD K "_law_times_by" s__law_times_by)
    (d14:FD K "_law_left_by" s__law_left_by)
    (d15:FD K "_law_factor_by" s__law_factor_by)
    (d16:FD K "_law_poly_by" s__law_poly_by)
    (d17:FD K "_law_is_quotient_by" s__law_is_quotient_by)
    (d18:FD K "_law_none" s__law_none)
    (d19:FD K "_law_noughts" s__law_noughts)
    (d20:FD K "_law_is_made" s__law_is_made)
    (d21:FD K "_law_right" s__law_right)
    (d22:FD K "law" s_law)
    (aC0:PySem.W.nsIn K mainGlobals "PrimeField" = some (some (.ref C0))) (cl0:Cls K C0) (mk0:PySem.W.makesIn K C0 = true) (kc0:PySem.W.keepIn K (.ref C0) = true)
    (na0_prime:PySem.W.findIn K (.ref C0) "prime" = some none)
    (na0_nought:PySem.W.findIn K (.ref C0) "nought" = some none)
    (na0_unit:PySem.W.findIn K (.ref C0) "unit" = some none)
    (m0___init__:MD K C0 "__init__" "PrimeField.__init__" s_PrimeField___init__)
    (m0_added:MD K C0 "added" "PrimeField.added" s_PrimeField_added)
    (m0_lessened:MD K C0 "lessened" "PrimeField.lessened" s_PrimeField_lessened)
    (m0_multiplied:MD K C0 "multiplied" "PrimeField.multiplied" s_PrimeField_multiplied)
    (m0_divided:MD K C0 "divided" "PrimeField.divided" s_PrimeField_divided)
    (m0_simplest:MD K C0 "simplest" "PrimeField.simplest" s_PrimeField_simplest)
    (aE_NoQuotient:PySem.W.nsIn K mainGlobals "NoQuotient" = some (some (.ref E_NoQuotient)))
    (aE_FarError:PySem.W.nsIn K mainGlobals "FarError" = some (some (.ref E_FarError)))
    (aE_TooShort:PySem.W.nsIn K mainGlobals "TooShort" = some (some (.ref E_TooShort)))
    (aE_Pole:PySem.W.nsIn K mainGlobals "Pole" = some (some (.ref E_Pole)))
    (aE_BadRow:PySem.W.nsIn K mainGlobals "BadRow" = some (some (.ref E_BadRow)))
    (xE_NoQuotient:PySem.W.excIn K E_NoQuotient [.type "ValueError",.type "Exception",.type "BaseException",.type "object"] "ValueError.__new__" = true)
    (x7_NoQuotient:PySem.W.findIn K (.ref E_NoQuotient) "__getattribute__" = some (some (.builtin "BaseException.__getattribute__")))
    (x8_NoQuotient:PySem.W.findIn K (.ref E_NoQuotient) "__getattr__" = some none)
    (x9_NoQuotient:PySem.W.mroIn K E_NoQuotient (.type "BaseException") = some true)
    (x2_NoQuotient:PySem.W.hasDictIn K E_NoQuotient = true)
    (x3_NoQuotient:PySem.W.findIn K (.ref E_NoQuotient) "__class__" = some (some (.builtin "object.__class__")))
    (x4_NoQuotient:PySem.W.specialIn K (.builtin "object.__class__") "__get__" = some (some (.builtin "getset_descriptor.__get__")))
    (x5_NoQuotient:PySem.W.takesIn K (.builtin "object.__class__") = some true)
    (x6_NoQuotient:PySem.W.mroIn K E_NoQuotient (.type "object") = some true)
    (xm_NoQuotient:PySem.W.exmOne K (.ref E_NoQuotient) (.ref E_FarError) = some true)
    (xk_TooShort:PySem.W.kitOne K (.ref E_NoQuotient) (.ref E_TooShort) = some false)
    (xk_Pole:PySem.W.kitOne K (.ref E_NoQuotient) (.ref E_Pole) = some false)
    (xk_BadRow:PySem.W.kitOne K (.ref E_NoQuotient) (.ref E_BadRow) = some false)
    (xk_NoQuotient:PySem.W.kitOne K (.ref E_NoQuotient) (.ref E_NoQuotient) = some true)
    (xk_ValueError:PySem.W.kitOne K (.ref E_NoQuotient) (.type "ValueError") = some true)
    (z_ValueError:PySem.W.nsIn K mainGlobals "ValueError" = some none)
    (z_all:PySem.W.nsIn K mainGlobals "all" = some none)
    (z_any:PySem.W.nsIn K mainGlobals "any" = some none)
    (z_bool:PySem.W.nsIn K mainGlobals "bool" = some none)
    (z_divmod:PySem.W.nsIn K mainGlobals "divmod" = some none)
    (z_enumerate:PySem.W.nsIn K mainGlobals "enumerate" = some none)
    (z_int:PySem.W.nsIn K mainGlobals "int" = some none)
    (z_isinstance:PySem.W.nsIn K mainGlobals "isinstance" = some none)
    (z_len:PySem.W.nsIn K mainGlobals "len" = some none)
    (z_list:PySem.W.nsIn K mainGlobals "list" = some none)
    (z_max:PySem.W.nsIn K mainGlobals "max" = some none)
    (z_min:PySem.W.nsIn K mainGlobals "min" = some none)
    (z_range:PySem.W.nsIn K mainGlobals "range" = some none)
    (z_reversed:PySem.W.nsIn K mainGlobals "reversed" = some none)
    (z_str:PySem.W.nsIn K mainGlobals "str" = some none)
    (z_tuple:PySem.W.nsIn K mainGlobals "tuple" = some none)
    (z_zip:PySem.W.nsIn K mainGlobals "zip" = some none) :
    ∃ fd:FuncData,(∀ (s:Shared) (v:Value),BindsTo s fd ⟨[v],[]⟩ [("_law_script",v)])∧∀ base:Heap,K.In base→base.Ns mainGlobals mg→FnOk l.prog w K mg base CX0 9 fa fd ["_law_script"] (spLaw K):=by
  cases d22 with
  | @mk fL od an sl oc kV dc pm cd ct aL lL cL kL =>
  have e:=hfa.symm.trans (PySem.W.mg_of X G aL)
  cases e
  have n_ValueError:=PySem.W.mg_none_of X G z_ValueError
  have n_all:=PySem.W.mg_none_of X G z_all
  have n_any:=PySem.W.mg_none_of X G z_any
  have n_bool:=PySem.W.mg_none_of X G z_bool
  have n_divmod:=PySem.W.mg_none_of X G z_divmod
  have n_enumerate:=PySem.W.mg_none_of X G z_enumerate
  have n_int:=PySem.W.mg_none_of X G z_int
  have n_isinstance:=PySem.W.mg_none_of X G z_isinstance
  have n_len:=PySem.W.mg_none_of X G z_len
  have n_list:=PySem.W.mg_none_of X G z_list
  have n_max:=PySem.W.mg_none_of X G z_max
  have n_min:=PySem.W.mg_none_of X G z_min
  have n_range:=PySem.W.mg_none_of X G z_range
  have n_reversed:=PySem.W.mg_none_of X G z_reversed
  have n_str:=PySem.W.mg_none_of X G z_str
  have n_tuple:=PySem.W.mg_none_of X G z_tuple
  have n_zip:=PySem.W.mg_none_of X G z_zip
  have ii0:IsI K mg "PrimeField" "PrimeField.__init__" s_PrimeField___init__ ["prime","nought","unit"]:=MD.init X G aC0 cl0 mk0 kc0 (by intro x hx; simp only [List.mem_cons,List.not_mem_nil,or_false] at hx; (rcases hx with rfl | rfl | rfl) <;> first | exact na0_prime | exact na0_nought | exact na0_unit) m0___init__
  have j_PrimeField_added:=MD.is aC0 cl0 m0_added
  have j_PrimeField_lessened:=MD.is aC0 cl0 m0_lessened
  have j_PrimeField_multiplied:=MD.is aC0 cl0 m0_multiplied
  have j_PrimeField_divided:=MD.is aC0 cl0 m0_divided
  have j_PrimeField_simplest:=MD.is aC0 cl0 m0_simplest
  have f_nought:∀ c ∈ (["PrimeField"]:List Str),FCal K c "nought":=by intro c hc; simp only [List.mem_cons,List.not_mem_nil,or_false] at hc; (rcases hc with rfl) <;> first | exact ⟨C0,aC0,cl0,na0_nought⟩
  have f_prime:∀ c ∈ (["PrimeField"]:List Str),FCal K c "prime":=by intro c hc; simp only [List.mem_cons,List.not_mem_nil,or_false] at hc; (rcases hc with rfl) <;> first | exact ⟨C0,aC0,cl0,na0_prime⟩
  have i__wall:=FD.is X G d0
  have i_inverse_by:=FD.is X G d1
  have i_trimmed:=FD.is X G d2
  have i_parted_in:=FD.is X G d3
  have i_common_in:=FD.is X G d4
  have i_quotient_by:=FD.is X G d5
  have i_settled_by:=FD.is X G d6
  have i__law_begin:=FD.is X G d7
  have i__law_take:=FD.is X G d8
  have i__law_same:=FD.is X G d9
  have i__law_prime:=FD.is X G d10
  have i__law_inverse:=FD.is X G d11
  have i__law_cut:=FD.is X G d12
  have i__law_times_by:=FD.is X G d13
  have i__law_left_by:=FD.is X G d14
  have i__law_factor_by:=FD.is X G d15
  have i__law_poly_by:=FD.is X G d16
  have i__law_is_quotient_by:=FD.is X G d17
  have i__law_none:=FD.is X G d18
  have i__law_noughts:=FD.is X G d19
  have i__law_is_made:=FD.is X G d20
  have i__law_right:=FD.is X G d21
  refine ⟨PySem.W.fnOf "law" "law" (defArgs s_law) (defBody s_law) (defScope s_law) .none kV dc pm an cd ct,fun s v => .of_eq rfl,fun base _ _ => ?_⟩
  have k_PrimeField:KCal l.prog w K mg base "PrimeField" 1 ["prime","nought","unit"] gI_PrimeField:=ok_PrimeField___init__ ii0
  have h__wall:Cal l.prog w K mg base "_wall" ["k"] 1 g__wall:=ok__wall i__wall
  have h_PrimeField_added:MCal l.prog w K mg base "PrimeField" "added" 2 g_PrimeField_added:=ok_PrimeField_added j_PrimeField_added h__wall
  have h_PrimeField_lessened:MCal l.prog w K mg base "PrimeField" "lessened" 1 g_PrimeField_lessened:=ok_PrimeField_lessened j_PrimeField_lessened f_prime
  have h_PrimeField_multiplied:MCal l.prog w K mg base "PrimeField" "multiplied" 1 g_PrimeField_multiplied:=ok_PrimeField_multiplied j_PrimeField_multiplied f_prime
  have h_inverse_by:Cal l.prog w K mg base "inverse_by" ["prime","one"] 1 g_inverse_by:=ok_inverse_by i_inverse_by
  have h_PrimeField_divided:MCal l.prog w K mg base "PrimeField" "divided" 2 g_PrimeField_divided:=ok_PrimeField_divided j_PrimeField_divided h_inverse_by f_prime
  have h_PrimeField_simplest:MCal l.prog w K mg base "PrimeField" "simplest" 2 g_PrimeField_simplest:=ok_PrimeField_simplest j_PrimeField_simplest h__wall
  have h_trimmed:Cal l.prog w K mg base "trimmed" ["nought","row"] 1 g_trimmed:=ok_trimmed i_trimmed n_len n_tuple
  have m_divided:∀ c g,([("PrimeField",g_PrimeField_divided)]:List (Str × GF)).lookup c = some g→∃ k,k ≤ 2∧MCal l.prog w K mg base c "divided" k g:=(tab_cons ⟨2,(by decide),h_PrimeField_divided⟩ tab_nil)
  have m_lessened:∀ c g,([("PrimeField",g_PrimeField_lessened)]:List (Str × GF)).lookup c = some g→∃ k,k ≤ 1∧MCal l.prog w K mg base c "lessened" k g:=(tab_cons ⟨1,(by decide),h_PrimeField_lessened⟩ tab_nil)
  have m_multiplied:∀ c g,([("PrimeField",g_PrimeField_multiplied)]:List (Str × GF)).lookup c = some g→∃ k,k ≤ 1∧MCal l.prog w K mg base c "multiplied" k g:=(tab_cons ⟨1,(by decide),h_PrimeField_multiplied⟩ tab_nil)
  have h_parted_in:Cal l.prog w K mg base "parted_in" ["field","one","other"] 3 g_parted_in:=ok_parted_in i_parted_in h_trimmed n_enumerate n_len n_list n_max n_range n_reversed f_nought m_divided m_lessened m_multiplied
  have h_common_in:Cal l.prog w K mg base "common_in" ["field","one","other"] 4 g_common_in:=ok_common_in i_common_in h_parted_in n_tuple m_divided
  have h_settled_by:Cal l.prog w K mg base "settled_by" ["field","top","below"] 3 g_settled_by:=ok_settled_by i_settled_by n_tuple f_nought m_divided
  have h_quotient_by:Cal l.prog w K mg base "quotient_by" ["p","top","below"] 5 g_quotient_by:=ok_quotient_by i_quotient_by h_parted_in h_common_in h_settled_by n_len k_PrimeField
  have h__law_begin:=ok__law_begin (P:=l.prog) (w:=w) (base:=base) i__law_begin n_list
  have h__law_take:Cal l.prog w K mg base "_law_take" ["_law_state","_law_many"] 1 g__law_take:=ok__law_take i__law_take n_len n_divmod
  have h__law_same:Cal l.prog w K mg base "_law_same" ["_law_found","_law_due"] 7 g__law_same:=rec__law_same i__law_same n_all n_bool n_int n_isinstance n_len n_list n_str n_tuple n_zip 6
  have h__law_prime:Cal l.prog w K mg base "_law_prime" ["_law_state"] 2 g__law_prime:=ok__law_prime i__law_prime h__law_take
  have h__law_inverse:Cal l.prog w K mg base "_law_inverse" ["_law_p","_law_one"] 1 g__law_inverse:=ok__law_inverse i__law_inverse
  have h__law_cut:Cal l.prog w K mg base "_law_cut" ["_law_numbers"] 1 g__law_cut:=ok__law_cut i__law_cut n_list n_tuple
  have h__law_times_by:Cal l.prog w K mg base "_law_times_by" ["_law_p","_law_one","_law_other"] 2 g__law_times_by:=ok__law_times_by i__law_times_by h__law_cut n_enumerate n_len n_max
  have h__law_left_by:Cal l.prog w K mg base "_law_left_by" ["_law_p","_law_one","_law_other"] 2 g__law_left_by:=ok__law_left_by i__law_left_by h__law_inverse h__law_cut n_len n_list n_range n_tuple
  have h__law_factor_by:Cal l.prog w K mg base "_law_factor_by" ["_law_p","_law_one","_law_other"] 3 g__law_factor_by:=ok__law_factor_by i__law_factor_by h__law_left_by
  have h__law_poly_by:Cal l.prog w K mg base "_law_poly_by" ["_law_state","_law_p","_law_most"] 2 g__law_poly_by:=ok__law_poly_by i__law_poly_by h__law_take h__law_cut n_int n_range
  have h__law_is_quotient_by:Cal l.prog w K mg base "_law_is_quotient_by" ["_law_p","_law_thing"] 4 g__law_is_quotient_by:=ok__law_is_quotient_by i__law_is_quotient_by h__law_factor_by n_all n_bool n_int n_isinstance n_len n_tuple
  have hX_quotient_by:=okX_quotient_by (P:=l.prog) (w:=w) (base:=base) (C:=E_NoQuotient) i_quotient_by h_parted_in h_common_in h_settled_by n_len k_PrimeField xE_NoQuotient (PySem.W.mg_of X G aE_NoQuotient)
  have h__law_none:Cal l.prog w K mg base "_law_none" ["_law_p","_law_top","_law_below"] 6 g__law_none:=okN__law_none i__law_none hX_quotient_by ⟨x7_NoQuotient,x8_NoQuotient,x9_NoQuotient,x2_NoQuotient,x3_NoQuotient,x4_NoQuotient,x5_NoQuotient,x6_NoQuotient⟩ (PySem.W.mg_of X G aE_FarError) (PySem.W.mg_of X G aE_TooShort) (PySem.W.mg_of X G aE_Pole) (PySem.W.mg_of X G aE_BadRow) (PySem.W.mg_of X G aE_NoQuotient) n_ValueError n_isinstance n_any xm_NoQuotient xk_TooShort xk_Pole xk_BadRow xk_NoQuotient xk_ValueError
  have h__law_noughts:Cal l.prog w K mg base "_law_noughts" ["_law_one"] 1 g__law_noughts:=ok__law_noughts i__law_noughts n_len n_min n_range
  have h__law_is_made:Cal l.prog w K mg base "_law_is_made" ["_law_p","_law_top","_law_below"] 2 g__law_is_made:=ok__law_is_made i__law_is_made h__law_noughts
  have h__law_right:Cal l.prog w K mg base "_law_right" ["_law_p","_law_top","_law_below"] 8 g__law_right:=ok__law_right i__law_right h_quotient_by h__law_same h__law_times_by h__law_is_quotient_by h__law_none h__law_is_made n_list
  exact ok_law (fun_mk (st:=s_law) lL cL kL) h__law_begin h__law_take h__law_prime h__law_cut h__law_times_by h__law_poly_by h__law_right n_int n_range law_run
theorem walk {l:PySem.W.OpenLaw} {q:Program} {loose:List Str} {XP:(Str→Option Value)→Heap→Prop} {YP:World→Heap→Prop} {d:DefRec} {K:Params→PySem.W.Frag} (hn:l.most = some 63) (hdf:d.params.defaults = [])
    (hY:∀ (w:World) (h:Heap),YP w h→(K w.params).In h)
    (F:∀ (w:World) (mg:Str→Option Value) (fa:Addr) (h:Heap),(K w.params).In h→h.Ns mainGlobals mg→mg d.name = some (.ref fa) →
      ∃ fd:FuncData,(∀ (s:Shared) (u:Value),BindsTo s fd ⟨[u],[]⟩ [("_law_script",u)])∧∀ base:Heap,(K w.params).In base→base.Ns mainGlobals mg→FnOk l.prog w (K w.params) mg base CX0 9 fa fd ["_law_script"] (spLaw (K w.params))) :
    PySem.W.WalkO q loose XP YP l.row.toRowW d [] (fun f vs => PySem.call f vs) :=
  L2.walk_ofK (n:=63) (k:=9) (x:="_law_script") (CX:=CX0) (sp:=spLaw) hn (by decide) hdf ⟨rfl,by decide,by decide⟩ hY F (fun _ H a ns hl _ hS => ⟨a,ns,rfl,hS,hl,fun _ => rfl⟩) fun _ _ _ _ z => z
end Law
namespace PySem.W.Fast
theorem tw4286115559419355125:True:=⟨⟩
theorem tw4173506151493817797:True:=⟨⟩
theorem tw626792682313093620:True:=⟨⟩
theorem tw16614740480506593453:True:=⟨⟩
theorem tw15338831201312429086:True:=⟨⟩
theorem tw960010403251714194:True:=⟨⟩
theorem tw169092842186959821:True:=⟨⟩
theorem tw15089427347940659968:True:=⟨⟩
theorem tw9132000530386130533:True:=⟨⟩
theorem tw12614451332877108882:True:=⟨⟩
theorem tw11522424992785736187:True:=⟨⟩
theorem tw1109404677666979784:True:=⟨⟩
theorem tw16636701307840240680:True:=⟨⟩
theorem tw3938955265808858102:True:=⟨⟩
theorem tw17391654243391922941:True:=⟨⟩
theorem tw3143764486455091436:True:=⟨⟩
theorem tw5398496915374664248:True:=⟨⟩
theorem tw12598196809435359498:True:=⟨⟩
theorem tw17642210858977354880:True:=⟨⟩
theorem tw15291167616085555028:True:=⟨⟩
theorem tw16034833889460094770:True:=⟨⟩
theorem tw1512053259586008363:True:=⟨⟩
theorem tw16711609914685558677:True:=⟨⟩
theorem tw11546913323106641144:True:=⟨⟩
theorem tw4783156359662511227:True:=⟨⟩
theorem tw1408342537128794956:True:=⟨⟩
theorem tw14223601994324559722:True:=⟨⟩
theorem tw17846637950085422202:True:=⟨⟩
theorem tw7178593839153968917:True:=⟨⟩
theorem tw429411085528534115:True:=⟨⟩
theorem tw12718474861706335549:True:=⟨⟩
theorem tw8686272075315286206:True:=⟨⟩
theorem tw10977333703105729808:True:=⟨⟩
theorem tw7451068540023219506:True:=⟨⟩
theorem tw1844740797801750863:True:=⟨⟩
theorem tw9874689950784546540:True:=⟨⟩
theorem tw12793630426027402745:True:=⟨⟩
theorem tw10301858600584317540:True:=⟨⟩
theorem tw12268935217308898229:True:=⟨⟩
theorem tw1869908269522430807:True:=⟨⟩
theorem tw3944969797247496971:True:=⟨⟩
theorem tw12068903706774613703:True:=⟨⟩
theorem tw1537531861784012279:True:=⟨⟩
theorem tw3623255562397672550:True:=⟨⟩
theorem tw15552862346028463143:True:=⟨⟩
theorem tw6846453036645131326:True:=⟨⟩
theorem tw7044890321034705918:True:=⟨⟩
theorem tw4914196889920540361:True:=⟨⟩
theorem tw1070399447393691885:True:=⟨⟩
theorem tw14189044617261792033:True:=⟨⟩
theorem tw17415219624107620021:True:=⟨⟩
theorem tw10373690837716030839:True:=⟨⟩
theorem tw17929522922616614114:True:=⟨⟩
theorem tw17930406593511268492:True:=⟨⟩
theorem tw17282074899840328639:True:=⟨⟩
theorem tw8494987474126183740:True:=⟨⟩
theorem tw15313583319900643454:True:=⟨⟩
theorem tw4751854270024261801:True:=⟨⟩
theorem tw4081909103470452989:True:=⟨⟩
theorem tw5330726105331353140:True:=⟨⟩
theorem tw16070520771312621300:True:=⟨⟩
theorem tw8674664463188828078:True:=⟨⟩
theorem tw5408754332294462786:True:=⟨⟩
theorem tw14763202786189340558:True:=⟨⟩
theorem tw3018236799644874831:True:=⟨⟩
theorem tw1241680587496087859:True:=⟨⟩
theorem tw10163429664593367284:True:=⟨⟩
theorem tw2714099647195505720:True:=⟨⟩
theorem tw13413204955849293507:True:=⟨⟩
theorem tw12551052442300851746:True:=⟨⟩
theorem tw1044514731481313956:True:=⟨⟩
theorem tw262652419926203287:True:=⟨⟩
theorem tw9950369932906691945:True:=⟨⟩
theorem tw15168186713684131898:True:=⟨⟩
theorem tw12256931152596641986:True:=⟨⟩
theorem tw8450602940612763104:True:=⟨⟩
theorem tw10233449313311076677:True:=⟨⟩
theorem tw4784287253276021533:True:=⟨⟩
theorem tw10185949549899210229:True:=⟨⟩
theorem tw4319710319036303031:True:=⟨⟩
theorem tw5680275752715209466:True:=⟨⟩
theorem tw4944834578411761350:True:=⟨⟩
theorem tw1634695977999821256:True:=⟨⟩
theorem tw14856720514041030241:True:=⟨⟩
theorem tw4625341216033676339:True:=⟨⟩
theorem tw15160054520293350450:True:=⟨⟩
theorem tw16407777595005045885:True:=⟨⟩
theorem tw2556912390120347851:True:=⟨⟩
theorem tw13135185628924067124:True:=⟨⟩
theorem tw2155701786284219460:True:=⟨⟩
theorem tw13699843313720147625:True:=⟨⟩
theorem tw16699699168866862115:True:=⟨⟩
theorem tw5133940237922505455:True:=⟨⟩
theorem tw12343291678298788353:True:=⟨⟩
theorem tw10065591840119314584:True:=⟨⟩
theorem tw8151727073298669958:True:=⟨⟩
theorem tw11167823857863175337:True:=⟨⟩
theorem tw5281757743501153920:True:=⟨⟩
theorem tw6611327654457797342:True:=⟨⟩
theorem tw10575712816181721459:True:=⟨⟩
theorem tw16187888221558258987:True:=⟨⟩
theorem tw7171356909439244535:True:=⟨⟩
theorem tw18293845227614882812:True:=⟨⟩
theorem tw3285664446646112045:True:=⟨⟩
theorem tw14023821245728833303:True:=⟨⟩
theorem tw6940721798061944892:True:=⟨⟩
theorem tw12286935607308264556:True:=⟨⟩
theorem tw5113191155105549069:True:=⟨⟩
theorem tw10144711081150595627:True:=⟨⟩
theorem tw3825453846118302587:True:=⟨⟩
theorem tw3288064165456268518:True:=⟨⟩
theorem tw11352329508520840861:True:=⟨⟩
theorem tw7580818669794429384:True:=⟨⟩
theorem tw7541311077761141422:True:=⟨⟩
theorem tw17143220835253718618:True:=⟨⟩
theorem tw16386198174273722432:True:=⟨⟩
theorem tw17531321414301566362:True:=⟨⟩
theorem tw6009428535349829645:True:=⟨⟩
theorem tw8666624040833607143:True:=⟨⟩
theorem tw4906294577300574014:True:=⟨⟩
theorem tw15847962827543064095:True:=⟨⟩
theorem tw9718858263076971324:True:=⟨⟩
theorem tw787564018386343676:True:=⟨⟩
theorem tw8566025658627259315:True:=⟨⟩
theorem tw241767807805954064:True:=⟨⟩
theorem tw8177625289407249086:True:=⟨⟩
theorem tw4537311815771408540:True:=⟨⟩
theorem tw6298475774792120595:True:=⟨⟩
theorem tw6480794637678827087:True:=⟨⟩
theorem tw16649137663548741900:True:=⟨⟩
theorem tw13566826541123031476:True:=⟨⟩
theorem tw2632010637014387991:True:=⟨⟩
theorem tw9174144362464072864:True:=⟨⟩
theorem tw7488303903597722854:True:=⟨⟩
theorem tw7339598694478229523:True:=⟨⟩
theorem tw16653441191715455416:True:=⟨⟩
theorem tw2236290702879004468:True:=⟨⟩
theorem tw3857812824128108239:True:=⟨⟩
theorem tw6688686931986838014:True:=⟨⟩
theorem tw17548549117767774896:True:=⟨⟩
theorem tw2516390073702334828:True:=⟨⟩
theorem tw4954453056378281642:True:=⟨⟩
theorem tw12019065644090460843:True:=⟨⟩
theorem tw7804469197244857424:True:=⟨⟩
theorem tw2519001286657789652:True:=⟨⟩
theorem tw8024516517365391383:True:=⟨⟩
theorem tw2355933575314126430:True:=⟨⟩
theorem tw17371787977227312661:True:=⟨⟩
theorem tw17451725778224982261:True:=⟨⟩
theorem tw16232213160675156257:True:=⟨⟩
theorem tw15895991967707325429:True:=⟨⟩
theorem tw7100052847616828464:True:=⟨⟩
theorem tw12281784378710357319:True:=⟨⟩
theorem tw10891599456126042179:True:=⟨⟩
theorem tw7724331563220835102:True:=⟨⟩
theorem tw13035671904966985650:True:=⟨⟩
theorem tw7429700897807688972:True:=⟨⟩
theorem tw6711427846152181104:True:=⟨⟩
theorem tw15846097017114773026:True:=⟨⟩
theorem tw9047788385268376846:True:=⟨⟩
theorem tw9239639593588267111:True:=⟨⟩
theorem tw15479592311488188207:True:=⟨⟩
theorem tw14709071841309084949:True:=⟨⟩
theorem tw477633256895808066:True:=⟨⟩
theorem tw5732674804075313413:True:=⟨⟩
theorem tw16770043553052904114:True:=⟨⟩
theorem tw4837299654012262484:True:=⟨⟩
theorem tw4206970598583717880:True:=⟨⟩
theorem tw16709526509489037312:True:=⟨⟩
theorem tw5534230986502607208:True:=⟨⟩
theorem tw7296910769042349258:True:=⟨⟩
theorem tw9742696853233289385:True:=⟨⟩
theorem tw3693214578487048617:True:=⟨⟩
theorem tw4848115647822491247:True:=⟨⟩
theorem tw2425693701616601584:True:=⟨⟩
theorem tw1622969387523726832:True:=⟨⟩
theorem tw14686420740171351401:True:=⟨⟩
theorem tw6750524360221922565:True:=⟨⟩
theorem tw12223673298135163500:True:=⟨⟩
theorem tw1189073626176341214:True:=⟨⟩
theorem tw2222025456988922477:True:=⟨⟩
theorem tw1445140517995529436:True:=⟨⟩
theorem tw14012884406346507740:True:=⟨⟩
theorem tw15772530054942238919:True:=⟨⟩
theorem tw6536856188341564264:True:=⟨⟩
theorem tw4429244602735407705:True:=⟨⟩
theorem tw12231227803906839446:True:=⟨⟩
theorem tw322998024064248126:True:=⟨⟩
theorem tw8065179591280158318:True:=⟨⟩
theorem tw7182690758774073576:True:=⟨⟩
theorem tw8537348097474520439:True:=⟨⟩
theorem tw4425635306714457072:True:=⟨⟩
theorem tw11812351524891222333:True:=⟨⟩
theorem tw1902002436855708043:True:=⟨⟩
theorem tw5482238913985174000:True:=⟨⟩
theorem tw13261003872283737834:True:=⟨⟩
theorem tw17407821405446784920:True:=⟨⟩
theorem tw13040940408754414134:True:=⟨⟩
theorem tw6500412225121006408:True:=⟨⟩
theorem tw10331493496188326115:True:=⟨⟩
theorem tw11866982080089780425:True:=⟨⟩
theorem tw1002336659028670067:True:=⟨⟩
theorem tw14629708758942956195:True:=⟨⟩
theorem tw15803995811718633317:True:=⟨⟩
theorem tw12778352807721560463:True:=⟨⟩
theorem tw12302103998149558172:True:=⟨⟩
theorem tw11736639221432032227:True:=⟨⟩
theorem tw15985463209841852996:True:=⟨⟩
theorem tw7855601576540181252:True:=⟨⟩
theorem tw4498902258200754068:True:=⟨⟩
theorem tw17646033707169871861:True:=⟨⟩
theorem tw11959691786135398093:True:=⟨⟩
theorem tw18058832217279899196:True:=⟨⟩
theorem tw5122968740545831433:True:=⟨⟩
theorem tw2544340653088629866:True:=⟨⟩
theorem tw12383543502366490832:True:=⟨⟩
theorem tw5434767892960191035:True:=⟨⟩
theorem tw17497613705433635616:True:=⟨⟩
theorem tw7275275207916048392:True:=⟨⟩
theorem tw5038802901778059074:True:=⟨⟩
theorem tw9480684236210427366:True:=⟨⟩
theorem tw5714925324810824962:True:=⟨⟩
theorem tw17617425016551706706:True:=⟨⟩
theorem tw5216472053885533749:True:=⟨⟩
theorem tw7802481709342791657:True:=⟨⟩
theorem tw18441679978773899088:True:=⟨⟩
theorem tw3652573514539825441:True:=⟨⟩
theorem tw16274907489046475478:True:=⟨⟩
theorem tw7252800838886820098:True:=⟨⟩
theorem tw8476884577955460649:True:=⟨⟩
theorem tw8309956924761292621:True:=⟨⟩
theorem tw7108685977002907317:True:=⟨⟩
theorem tw7452786514856010349:True:=⟨⟩
theorem tw10094486994986975571:True:=⟨⟩
theorem tw1784370472888098996:True:=⟨⟩
theorem tw17794995397812912395:True:=⟨⟩
theorem tw6204121522144337108:True:=⟨⟩
theorem tw13826281052521426709:True:=⟨⟩
theorem tw11987173695147927095:True:=⟨⟩
theorem tw13913231865530169339:True:=⟨⟩
theorem tw14256727162520920387:True:=⟨⟩
theorem tw4970491455405845859:True:=⟨⟩
theorem tw12220062469881703477:True:=⟨⟩
theorem tw713288730615650500:True:=⟨⟩
theorem tw13041950932070018733:True:=⟨⟩
theorem tw8092493178518376021:True:=⟨⟩
theorem tw12252473062520862852:True:=⟨⟩
theorem tw13614447200278941679:True:=⟨⟩
theorem tw11332321186966104807:True:=⟨⟩
theorem tw14171477517062043233:True:=⟨⟩
theorem tw3034764221703783866:True:=⟨⟩
theorem tw15523124256285907878:True:=⟨⟩
theorem tw6696298003664301011:True:=⟨⟩
theorem tw13596055125430230201:True:=⟨⟩
theorem tw15805130373267058193:True:=⟨⟩
theorem tw8675894852340600927:True:=⟨⟩
theorem tw12420569199026314290:True:=⟨⟩
theorem tw5192370906439303938:True:=⟨⟩
theorem tw11627189887723501594:True:=⟨⟩
theorem tw14134418661324852379:True:=⟨⟩
theorem tw7543624123494337505:True:=⟨⟩
theorem tw16702128796396466007:True:=⟨⟩
theorem tw14916400448897654508:True:=⟨⟩
theorem tw13337470189241505711:True:=⟨⟩
theorem tw12334676983580799279:True:=⟨⟩
theorem tw6543049845398792262:True:=⟨⟩
theorem tw12698305345084284857:True:=⟨⟩
theorem tw3151010379226363765:True:=⟨⟩
theorem tw5655586857218472905:True:=⟨⟩
theorem tw4876888289678416191:True:=⟨⟩
theorem tw14757313804450883151:True:=⟨⟩
theorem tw17745636454573911552:True:=⟨⟩
theorem tw9522815875953742658:True:=⟨⟩
theorem tw5575196677154696389:True:=⟨⟩
theorem tw2119182210202500503:True:=⟨⟩
theorem tw9527824645294090913:True:=⟨⟩
theorem tw2647203137113164702:True:=⟨⟩
theorem tw13592188413979068331:True:=⟨⟩
theorem tw6667276193252482331:True:=⟨⟩
end PySem.W.Fast
open PySem PySem.W PyProof.Rows
set_option maxRecDepth 100000 in
set_option maxHeartbeats 0 in
theorem PySem.Challenge.cw_farquotient_k51_quotients_by_a_prime_holds : PySem.Challenge.rw_farquotient_k51_quotients_by_a_prime.Holds := by
  w_on; o_law; k_head; (case hw => w_witness2)
  k_fill
  refine Law.walk (l:=PySem.Challenge.rw_farquotient_k51_quotients_by_a_prime) rfl rfl (fun w h Y => PySem.W.kIn_of Y) ?F
  case F =>
    intro w mg fa h KX G hmg
    refine' Law.all_mk KX G hmg (.mk ?a0 ?l0 ?c0 ?k0) (.mk ?a1 ?l1 ?c1 ?k1) (.mk ?a2 ?l2 ?c2 ?k2) (.mk ?a3 ?l3 ?c3 ?k3) (.mk ?a4 ?l4 ?c4 ?k4) (.mk ?a5 ?l5 ?c5 ?k5) (.mk ?a6 ?l6 ?c6 ?k6) (.mk ?a7 ?l7 ?c7 ?k7) (.mk ?a8 ?l8 ?c8 ?k8) (.mk ?a9 ?l9 ?c9 ?k9) (.mk ?a10 ?l10 ?c10 ?k10) (.mk ?a11 ?l11 ?c11 ?k11) (.mk ?a12 ?l12 ?c12 ?k12) (.mk ?a13 ?l13 ?c13 ?k13) (.mk ?a14 ?l14 ?c14 ?k14) (.mk ?a15 ?l15 ?c15 ?k15) (.mk ?a16 ?l16 ?c16 ?k16) (.mk ?a17 ?l17 ?c17 ?k17) (.mk ?a18 ?l18 ?c18 ?k18) (.mk ?a19 ?l19 ?c19 ?k19) (.mk ?a20 ?l20 ?c20 ?k20) (.mk ?a21 ?l21 ?c21 ?k21) (.mk ?a22 ?l22 ?c22 ?k22) ?aC0 ⟨?pg0,?hd0,?po0,?sa0⟩ ?mk0 ?kc0 ?na0_prime ?na0_nought ?na0_unit (.mk ?am0___init__ ?im0___init__ ?lm0___init__ ?cm0___init__ ?km0___init__) (.mk ?am0_added ?im0_added ?lm0_added ?cm0_added ?km0_added) (.mk ?am0_lessened ?im0_lessened ?lm0_lessened ?cm0_lessened ?km0_lessened) (.mk ?am0_multiplied ?im0_multiplied ?lm0_multiplied ?cm0_multiplied ?km0_multiplied) (.mk ?am0_divided ?im0_divided ?lm0_divided ?cm0_divided ?km0_divided) (.mk ?am0_simplest ?im0_simplest ?lm0_simplest ?cm0_simplest ?km0_simplest) ?aE_NoQuotient ?aE_FarError ?aE_TooShort ?aE_Pole ?aE_BadRow ?xE_NoQuotient ?x7_NoQuotient ?x8_NoQuotient ?x9_NoQuotient ?x2_NoQuotient ?x3_NoQuotient ?x4_NoQuotient ?x5_NoQuotient ?x6_NoQuotient ?xm_NoQuotient ?xk_TooShort ?xk_Pole ?xk_BadRow ?xk_NoQuotient ?xk_ValueError ?z_ValueError ?z_all ?z_any ?z_bool ?z_divmod ?z_enumerate ?z_int ?z_isinstance ?z_len ?z_list ?z_max ?z_min ?z_range ?z_reversed ?z_str ?z_tuple ?z_zip
    (case a0 => k_is)
    (case l0 => k_is)
    (case c0 => k_is)
    (case k0 => k_is)
    (case a1 => k_is)
    (case l1 => k_is)
    (case c1 => k_is)
    (case k1 => k_is)
    (case a2 => k_is)
    (case l2 => k_is)
    (case c2 => k_is)
    (case k2 => k_is)
    (case a3 => k_is)
    (case l3 => k_is)
    (case c3 => k_is)
    (case k3 => k_is)
    (case a4 => k_is)
    (case l4 => k_is)
    (case c4 => k_is)
    (case k4 => k_is)
    (case a5 => k_is)
    (case l5 => k_is)
    (case c5 => k_is)
    (case k5 => k_is)
    (case a6 => k_is)
    (case l6 => k_is)
    (case c6 => k_is)
    (case k6 => k_is)
    (case a7 => k_is)
    (case l7 => k_is)
    (case c7 => k_is)
    (case k7 => k_is)
    (case a8 => k_is)
    (case l8 => k_is)
    (case c8 => k_is)
    (case k8 => k_is)
    (case a9 => k_is)
    (case l9 => k_is)
    (case c9 => k_is)
    (case k9 => k_is)
    (case a10 => k_is)
    (case l10 => k_is)
    (case c10 => k_is)
    (case k10 => k_is)
    (case a11 => k_is)
    (case l11 => k_is)
    (case c11 => k_is)
    (case k11 => k_is)
    (case a12 => k_is)
    (case l12 => k_is)
    (case c12 => k_is)
    (case k12 => k_is)
    (case a13 => k_is)
    (case l13 => k_is)
    (case c13 => k_is)
    (case k13 => k_is)
    (case a14 => k_is)
    (case l14 => k_is)
    (case c14 => k_is)
    (case k14 => k_is)
    (case a15 => k_is)
    (case l15 => k_is)
    (case c15 => k_is)
    (case k15 => k_is)
    (case a16 => k_is)
    (case l16 => k_is)
    (case c16 => k_is)
    (case k16 => k_is)
    (case a17 => k_is)
    (case l17 => k_is)
    (case c17 => k_is)
    (case k17 => k_is)
    (case a18 => k_is)
    (case l18 => k_is)
    (case c18 => k_is)
    (case k18 => k_is)
    (case a19 => k_is)
    (case l19 => k_is)
    (case c19 => k_is)
    (case k19 => k_is)
    (case a20 => k_is)
    (case l20 => k_is)
    (case c20 => k_is)
    (case k20 => k_is)
    (case a21 => k_is)
    (case l21 => k_is)
    (case c21 => k_is)
    (case k21 => k_is)
    (case a22 => k_is)
    (case l22 => k_is)
    (case c22 => k_is)
    (case k22 => k_is)
    (case aC0 => k_is)
    (case pg0 => k_is)
    (case hd0 => k_is)
    (case po0 => k_is)
    (case sa0 => k_is)
    (case mk0 => k_is)
    (case kc0 => k_is)
    (case na0_prime => k_is)
    (case na0_nought => k_is)
    (case na0_unit => k_is)
    (case am0___init__ => k_is)
    (case im0___init__ => k_is)
    (case lm0___init__ => k_is)
    (case cm0___init__ => k_is)
    (case km0___init__ => k_is)
    (case am0_added => k_is)
    (case im0_added => k_is)
    (case lm0_added => k_is)
    (case cm0_added => k_is)
    (case km0_added => k_is)
    (case am0_lessened => k_is)
    (case im0_lessened => k_is)
    (case lm0_lessened => k_is)
    (case cm0_lessened => k_is)
    (case km0_lessened => k_is)
    (case am0_multiplied => k_is)
    (case im0_multiplied => k_is)
    (case lm0_multiplied => k_is)
    (case cm0_multiplied => k_is)
    (case km0_multiplied => k_is)
    (case am0_divided => k_is)
    (case im0_divided => k_is)
    (case lm0_divided => k_is)
    (case cm0_divided => k_is)
    (case km0_divided => k_is)
    (case am0_simplest => k_is)
    (case im0_simplest => k_is)
    (case lm0_simplest => k_is)
    (case cm0_simplest => k_is)
    (case km0_simplest => k_is)
    (case aE_NoQuotient => k_is)
    (case aE_FarError => k_is)
    (case aE_TooShort => k_is)
    (case aE_Pole => k_is)
    (case aE_BadRow => k_is)
    (case xE_NoQuotient => k_exc)
    (case x7_NoQuotient => k_is)
    (case x8_NoQuotient => k_is)
    (case x9_NoQuotient => k_is)
    (case x2_NoQuotient => k_is)
    (case x3_NoQuotient => k_is)
    (case x4_NoQuotient => k_is)
    (case x5_NoQuotient => k_is)
    (case x6_NoQuotient => k_is)
    (case xm_NoQuotient => kts_exm)
    (case xk_TooShort => kit_is)
    (case xk_Pole => kit_is)
    (case xk_BadRow => kit_is)
    (case xk_NoQuotient => kit_is)
    (case xk_ValueError => kit_is)
    (case z_ValueError => k_is)
    (case z_all => k_is)
    (case z_any => k_is)
    (case z_bool => k_is)
    (case z_divmod => k_is)
    (case z_enumerate => k_is)
    (case z_int => k_is)
    (case z_isinstance => k_is)
    (case z_len => k_is)
    (case z_list => k_is)
    (case z_max => k_is)
    (case z_min => k_is)
    (case z_range => k_is)
    (case z_reversed => k_is)
    (case z_str => k_is)
    (case z_tuple => k_is)
    (case z_zip => k_is)
