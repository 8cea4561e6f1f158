import PyProof.Rows.All
import Wide.All
import OpenK.AllK
import Wide.FinOn
import Lean
import PyProof.EqAt
import PyProof.EqKinds
import PyProof.TupleCall
import PySem.Challenge.RW_farquotient_k53_furthest_by_a_prime
set_option Elab.async false
set_option linter.all false
set_option maxRecDepth 100000
namespace L2
open PySem PySem.Spec PyProof.Rows
abbrev Key:=Sum Int Str
def keyIs:Key→Value→Bool
 | .inl k,v=>Value.isInt k v
 | .inr x,v=>Value.isStrOf x v
def keyH(w:World):Key→Int
 | .inl k=>hashInt k
 | .inr x=>hashStr w x
theorem z0k:∀ {k:Key} {v:Value},keyIs k v=true→(∃ i t,k=Sum.inl i∧v=Value.int i t)∨(∃ x t,k=Sum.inr x∧v=Value.str x t)
 | .inl i,v,h=>by
  obtain⟨t,e⟩:=Value.isInt_shape (k:=i) (v:=v) h
  exact .inl ⟨i,t,rfl,e⟩
 | .inr x,v,h=>by
  obtain⟨t,e⟩:=Value.isStrOf_shape (x:=x) (v:=v) h
  exact .inr ⟨x,t,rfl,e⟩
theorem z9b(i:Int)(t:Tok):keyIs (.inl i) (.int i t)=true:=by simp[keyIs,Value.isInt]
theorem z9c(x:Str)(t:Tok):keyIs (.inr x) (.str x t)=true:=by simp[keyIs,Value.isStrOf]
theorem zdC(a b:Int):decide ((Sum.inl a:Key)=Sum.inl b)=(a == b):=by
 by_cases e:a=b
 ·subst e;simp
 ·have h:¬ (Sum.inl a:Key)=Sum.inl b:=fun q=>e (Sum.inl.inj q)
  rw[decide_eq_false h]
  exact(beq_eq_false_iff_ne.mpr e).symm
theorem zdD(a b:Str):decide ((Sum.inr a:Key)=Sum.inr b)=decide (a=b):=by
 by_cases e:a=b
 ·subst e;simp
 ·have h:¬ (Sum.inr a:Key)=Sum.inr b:=fun q=>e (Sum.inr.inj q)
  rw[decide_eq_false h,decide_eq_false e]
theorem zdE(a:Int)(b:Str):decide ((Sum.inl a:Key)=Sum.inr b)=false:=decide_eq_false (fun q=>nomatch q)
theorem zdF(a:Str)(b:Int):decide ((Sum.inr a:Key)=Sum.inl b)=false:=decide_eq_false (fun q=>nomatch q)
def mixKind(prog:Program)(w:World):PySem.KeyKind prog w Key where
 is:=keyIs
 hash:=keyH w
 inj:=fun v a b ha hb=>by
  rcases z0k ha with ⟨i,t,rfl,rfl⟩ | ⟨x,t,rfl,rfl⟩
  ·rcases z0k hb with ⟨j,u,rfl,e⟩ | ⟨y,u,rfl,e⟩
   ·injection e with e1 _;rw[e1]
   ·exact nomatch e
  ·rcases z0k hb with ⟨j,u,rfl,e⟩ | ⟨y,u,rfl,e⟩
   ·exact nomatch e
   ·injection e with e1 _;rw[e1]
 byValue:=fun k v h=>by
  rcases z0k h with ⟨i,t,rfl,rfl⟩ | ⟨x,t,rfl,rfl⟩ <;> rfl
 pyHash:=fun hv h=>by
  rcases z0k hv with ⟨i,t,rfl,rfl⟩ | ⟨x,t,rfl,rfl⟩
  ·exact wpAny_pyHash_int h
  ·exact wpAny_pyHash_str h
 eqBool:=fun hu hv h=>by
  rcases z0k hu with ⟨i,t,rfl,rfl⟩ | ⟨x,t,rfl,rfl⟩
  ·rcases z0k hv with ⟨j,u,rfl,rfl⟩ | ⟨y,u,rfl,rfl⟩
   ·rw[zdC]at h;exact wpAny_eqBool_int h
   ·rw[zdE]at h;exact SeqAt.EqAt.int_str i t y u _ _ _ _ h
  ·rcases z0k hv with ⟨j,u,rfl,rfl⟩ | ⟨y,u,rfl,rfl⟩
   ·rw[zdF]at h;exact SeqAt.EqAt.str_int x t j u _ _ _ _ h
   ·rw[zdD]at h;exact wpAny_eqBool_str h
 «strs»:=fun k x t v h=>by
  rcases z0k h with ⟨i,u,rfl,e⟩ | ⟨y,u,rfl,e⟩
  ·exact nomatch e
  ·injection e with e1 _
   subst e1
   cases v <;> rfl
theorem z7t(prog:Program)(w:World)(i:Int)(t:Tok):(mixKind prog w).is (.inl i) (.int i t)=true:=z9b i t
theorem z7u(prog:Program)(w:World)(x:Str)(t:Tok):(mixKind prog w).is (.inr x) (.str x t)=true:=z9c x t
end L2
namespace L2
open PySem PySem.Spec PyProof.Rows
inductive V where
 | non | bl (b:Bool) | int (i:Int) | str (x:Str) | byt (b:Array UInt8) | flt (b:UInt64) | ref (a:Addr) | ty (n:String)
 deriving DecidableEq
def RelV:V→Value→Prop
 | .non,u=>u=Value.none
 | .bl b,u=>u=Value.bool b
 | .int i,u=>∃ t,u=Value.int i t
 | .str x,u=>∃ t,u=Value.str x t
 | .byt b,u=>∃ t,u=Value.bytes b t
 | .flt b,u=>∃ t,u=Value.float b t
 | .ref a,u=>u=Value.ref a
 | .ty n,u=>u=Value.type n
abbrev Vals:List V→List Value→Prop:=Paired RelV
theorem Vals.length{xs:List V}{us:List Value}(r:Vals xs us):xs.length=us.length:=Paired.length r
theorem Vals.get:∀ {xs:List V} {us:List Value} {i:Nat} {x:V},Vals xs us→xs[i]?=some x→∃ u,us[i]?=some u∧RelV x u
 | _,_,_,_,.nil,e=>by simp at e
 | _,_,0,_,.cons r _,e=>by simp at e;subst e;exact⟨_,rfl,r⟩
 | _,_,i + 1,x,.cons _ t,e=>by
  obtain⟨u,h1,h2⟩:=Vals.get (i:=i) (x:=x) t (by simpa using e)
  exact⟨u,by simpa using h1,h2⟩
theorem Vals.set{x:V}{u:Value}(r:RelV x u):∀ {xs:List V} {us:List Value} (i:Nat),Vals xs us→Vals (xs.set i x) (us.set i u)
 | _,_,_,.nil=>.nil
 | _,_,0,.cons _ t=>.cons r t
 | _,_,i + 1,.cons q t=>.cons q (Vals.set r i t)
theorem Vals.append{xs ys:List V}{us ws:List Value}(h:Vals xs us)(s:Vals ys ws):Vals (xs++ys) (us++ws):=by
 induction h with
 | nil=>exact s
 | cons r t ih=>exact .cons r ih
theorem Vals.take:∀ {xs:List V} {us:List Value} (n:Nat),Vals xs us→Vals (xs.take n) (us.take n)
 | _,_,0,_=>.nil
 | _,_,_ + 1,.nil=>.nil
 | _,_,n + 1,.cons r t=>.cons r (Vals.take n t)
theorem Vals.drop:∀ {xs:List V} {us:List Value} (n:Nat),Vals xs us→Vals (xs.drop n) (us.drop n)
 | _,_,0,r=>r
 | _,_,_ + 1,.nil=>.nil
 | _,_,n + 1,.cons _ t=>Vals.drop n t
theorem Vals.none_of:∀ {xs:List V} {us:List Value} {i:Nat},Vals xs us→xs[i]?=none→us[i]?=none:=fun{xs us i} r e=>by
 have h1:=r.length
 have h2:xs.length≤i:=List.getElem?_eq_none_iff.mp e
 exact List.getElem?_eq_none_iff.mpr (by omega)
def RelO:Option V→Option Value→Prop
 | some v,some u=>RelV v u
 | none,none=>True
 | _,_=>False
def KV{κ:Type}:List (κ × V)→List (κ × Value)→Prop:=Paired fun(p:κ × V) (q:κ × Value)=>p.1=q.1∧RelV p.2 q.2
def kV:Key→V
 | .inl i=>.int i
 | .inr x=>.str x
inductive HO where
 | lst (xs:List V)
 | tup (xs:List V)
 | dK (kvs:List (Key × V)) | dT (kvs:List (List Key × V))
 | set (S:Int→Bool) (n:Nat)
 | ins (C dx:Addr) (fs:List (Str × V))
 | own (x:Addr)
 | xd (fs:List (Str × V))
 | met (f x:Addr)
 | rng (lo hi:Int)
 | frz (o:Obj) (u:HO)
 | tbl (ps:Array Value)
 | ext (φ:Heap→Prop)
abbrev Hp:=Addr→Option HO
def upd(H:Hp)(a:Addr)(o:HO):Hp:=fun b=>if b=a then some o else H b
theorem zq{H:Hp}{a:Addr}{o:HO}:upd H a o a=some o:=by unfold upd;rw[if_pos rfl]
theorem zj{H:Hp}{a b:Addr}{o:HO}(h:b≠a):upd H a o b=H b:=by unfold upd;rw[if_neg h]
theorem zdG{H:Hp}{a b:Addr}{o u:HO}(h:H a=some o)(h':H b=some u)(d:o≠u):a≠b:=by
 intro e;subst e;rw[h]at h';exact d (Option.some.inj h')
theorem zm{H:Hp}{a b:Addr}{o:HO}(h:H a=some o)(h':H b=none):a≠b:=by
 intro e;subst e;rw[h]at h';cases h'
section
variable (P:Program) (w:World)
def ObjOk(H:Hp)(h:Heap)(a:Addr):HO→Prop
 | .lst xs=>xs.length≤sizeLine∧∃ (its:List Value) (n:Nat),Vals xs its∧h.get? a=some {cls:=.type "list",data:=.seq its.toArray n}
 | .tup xs=>xs.length≤sizeLine∧∃ its:List Value,Vals xs its∧IsTup h a its.toArray
 | .dK kvs=>kvs.length≤sizeLine∧(a == sysModules)=false∧∃ vs,KV kvs vs∧h.DictOf (mixKind P w) a vs
 | .dT kvs=>kvs.length≤sizeLine∧(a == sysModules)=false∧∃ xs:List (List Key × Addr × Value),
   Paired (fun(p:List Key × V) (q:List Key × Addr × Value)=>p.1=q.1∧H q.2.1=some (.tup (p.1.map kV))∧RelV p.2 q.2.2) kvs xs ∧
   ∃ o es ep,h.get? a=some o∧o.ExactDict∧o.data=.dict es ep∧es.toList=xs.map (entryOfKey (tupleKind (mixKind P w)))∧(xs.map (·.1)).Nodup
 | .set S n=>h.SetOf (intKind P w) a S n
 | .ins C dx fs=>H dx=some (.own a)∧fs.length≤1000∧dx≠a∧h.get? a=some (PySem.W.instObj C dx) ∧
   ∃ mA,h.Ns1 dx mA∧(∀ f,RelO (fs.lookup f) (mA f))∧PySem.Within mA (fs.map (·.1))
 | .own _=>∃ o,h.get? a=some o
 | .xd fs=>∃ mA,h.Ns1 a mA∧∀ f,RelO (fs.lookup f) (mA f)
 | .rng lo hi=>∃ t u v,h.get? a=some {cls:=.type "range",data:=.fields #[.int lo t,.int hi u,.int 1 v]}
 | .frz o u=>h.get? a=some o∧ObjOk H h a u
 | .tbl ps=>h.get? a=some {cls:=.none,data:=.fields ps}
 | .met f x=>h.get? a=some (PySem.W.methodObj (.ref f) (.ref x))
 | .ext φ=>φ h∧(∃ o,h.get? a=some o)∧∀ h1 h2:Heap,φ h1→(∀ o,h1.get? a=some o→h2.get? a=some o)→φ h2
def HOk(H:Hp)(h:Heap):Prop:=∀ a o,H a=some o→ObjOk P w H h a o
end
section
variable {P:Program} {w:World} {H H':Hp} {h h':Heap} {a:Addr} {o:HO}
theorem ObjOk.lt(x:ObjOk P w H h a o):a < h.objs.size:=by
 cases o with
 | lst xs=>obtain⟨_,_,_,_,e⟩:=x;exact Heap.lt_size e
 | tup xs=>obtain⟨_,_,_,p⟩:=x;exact p.lt
 | dK kvs=>obtain⟨_,_,_,_,o,_,_,e,_⟩:=x;exact Heap.lt_size e
 | dT kvs=>obtain⟨_,_,_,_,o,_,_,e,_⟩:=x;exact Heap.lt_size e
 | set S n=>obtain⟨o,_,_,_,e,_⟩:=x;exact Heap.lt_size e
 | ins C dx fs=>obtain⟨_,_,_,e,_⟩:=x;exact Heap.lt_size e
 | own y=>obtain⟨_,e⟩:=x;exact Heap.lt_size e
 | xd fs=>obtain⟨_,⟨_,_,_,e,_⟩,_⟩:=x;exact Heap.lt_size e
 | rng lo hi=>obtain⟨_,_,_,e⟩:=x;exact Heap.lt_size e
 | frz ob u=>obtain⟨e,_⟩:=x;exact Heap.lt_size e
 | tbl ps=>exact Heap.lt_size (show h.get? a=some _ from x)
 | met f y=>exact Heap.lt_size (show h.get? a=some _ from x)
 | ext φ=>obtain⟨_,⟨_,e⟩,_⟩:=x;exact Heap.lt_size e
theorem Paired.mapP{α β:Type}{F G:α→β→Prop}{l₁:List α}{l₂:List β}(h:Paired F l₁ l₂)(f:∀ a b,F a b→G a b):Paired G l₁ l₂:=by
 induction h with
 | nil=>exact .nil
 | cons r t ih=>exact .cons (f _ _ r) ih
theorem ObjOk.stay(x:ObjOk P w H h a o)(k:∀ b u,(b=a∨H b=some (.own a))→h.get? b=some u→h'.get? b=some u)
  (ho:∀ b,H b=some (.own a)→H' b=some (.own a)) (ht:∀ b xs,H b=some (.tup xs)→H' b=some (.tup xs)):ObjOk P w H' h' a o:=by
 induction o with
 | lst xs=>obtain⟨z,its,n,r,e⟩:=x;exact⟨z,its,n,r,k _ _ (.inl rfl) e⟩
 | tup xs=>obtain⟨z,its,r,ob,e,c⟩:=x;exact⟨z,its,r,ob,k _ _ (.inl rfl) e,c⟩
 | dK kvs=>obtain⟨z,y,vs,r,ob,es,ep,e,c⟩:=x;exact⟨z,y,vs,r,ob,es,ep,k _ _ (.inl rfl) e,c⟩
 | dT kvs =>
  obtain⟨z,y,xs,r,ob,es,ep,e,c⟩:=x
  exact⟨z,y,xs,Paired.mapP r fun p q z=>⟨z.1,ht _ _ z.2.1,z.2.2⟩,ob,es,ep,k _ _ (.inl rfl) e,c⟩
 | set S n=>obtain⟨ob,es,ep,t,e,c⟩:=x;exact⟨ob,es,ep,t,k _ _ (.inl rfl) e,c⟩
 | ins C dx fs =>
  obtain⟨d,z,ne,e,mA,⟨od,es,ep,e2,c⟩,r⟩:=x
  exact⟨ho _ d,z,ne,k _ _ (.inl rfl) e,mA,⟨od,es,ep,k _ _ (.inr d) e2,c⟩,r⟩
 | own y=>obtain⟨ob,e⟩:=x;exact⟨ob,k _ _ (.inl rfl) e⟩
 | xd fs=>obtain⟨mA,⟨od,es,ep,e,c⟩,r⟩:=x;exact⟨mA,⟨od,es,ep,k _ _ (.inl rfl) e,c⟩,r⟩
 | rng lo hi=>obtain⟨t,u,v,e⟩:=x;exact⟨t,u,v,k _ _ (.inl rfl) e⟩
 | frz ob u ih=>obtain⟨e,q⟩:=x;exact⟨k _ _ (.inl rfl) e,ih q⟩
 | tbl ps =>
  have e:h.get? a=some {cls:=.none,data:=.fields ps}:=x
  show h'.get? a=some {cls:=.none,data:=.fields ps}
  exact k a _ (.inl rfl) e
 | met f y =>
  have e:h.get? a=some (PySem.W.methodObj (.ref f) (.ref y)):=x
  show h'.get? a=some (PySem.W.methodObj (.ref f) (.ref y))
  exact k a _ (.inl rfl) e
 | ext φ=>obtain⟨p,⟨o,e⟩,st⟩:=x;exact⟨st _ _ p fun o q=>k _ _ (.inl rfl) q,⟨o,k _ _ (.inl rfl) e⟩,st⟩
theorem HOk.lt(x:HOk P w H h)(e:H a=some o):a < h.objs.size:=(x a o e).lt
theorem HOk.fresh(x:HOk P w H h)(e:h.objs.size≤a):H a=none:=by
 cases q:H a with
 | none=>rfl
 | some u=>exact absurd (Nat.lt_of_lt_of_le (x.lt q) e) (Nat.lt_irrefl _)
theorem HOk.kept(x:HOk P w H h)(k:∀ b u,h.get? b=some u→h'.get? b=some u):HOk P w H h':=fun a o e =>
 (x a o e).stay (fun b u _ q=>k b u q) (fun _ q=>q) fun _ _ q=>q
theorem HOk.laid(x:HOk P w H h)(k:∀ b u,h.get? b=some u→h'.get? b=some u)(hp:h.objs.size≤a)(new:ObjOk P w (upd H a o) h' a o):HOk P w (upd H a o) h':=fun b u e=>by
 have hn:=x.fresh hp
 by_cases hb:b=a
 ·subst hb;rw[zq]at e;cases e;exact new
 ·rw[zj hb]at e
  exact(x b u e).stay (fun c v _ q=>k c v q) (fun c q=>by rw[zj (zm q hn)];exact q) fun c xs q=>by rw[zj (zm q hn)];exact q
end
def Rd(H:Hp)(a:Addr)(u:HO):Prop:=H a=some u∨∃ o,H a=some (.frz o u)
theorem Rd.ok{P:Program}{w:World}{H:Hp}{h:Heap}{a:Addr}{u:HO}(r:Rd H a u)(x:HOk P w H h):ObjOk P w H h a u:=by
 rcases r with r | ⟨o,r⟩
 ·exact x a u r
 ·obtain⟨_,q⟩:=x a _ r
  exact q
def Mut:Option HO→Prop
 | some (.lst _)=>True
 | some (.dK _)=>True
 | some (.dT _)=>True
 | some (.set _ _)=>True
 | some (.ins _ _ _)=>True
 | some (.ext _)=>True
 | _=>False
section
variable {P:Program} {w:World} {H:Hp} {h h':Heap} {x e:Addr} {o':HO}
theorem HOk.write(ok:HOk P w H h)(mu:Mut (H x))(he:e=x∨H e=some (.own x))(k:∀ b u,b≠e→h.get? b=some u→h'.get? b=some u)(heo:∃ u,h'.get? e=some u)
  (new:ObjOk P w (upd H x o') h' x o'):HOk P w (upd H x o') h':=fun b u q=>by
 have nown:∀ c y,H c=some (.own y)→c≠x:=fun c y r z=>by subst z;rw[r]at mu;exact mu
 have ntup:∀ c xs,H c=some (.tup xs)→c≠x:=fun c xs r z=>by subst z;rw[r]at mu;exact mu
 by_cases hb:b=x
 ·subst hb;rw[zq]at q;cases q;exact new
 ·rw[zj hb]at q
  by_cases hbe:b=e
  ·have q':H b=some (.own x):=by
    rcases he with z | z
    ·exact absurd (hbe.trans z) hb
    ·rw[hbe];exact z
   rw[q]at q';cases q'
   obtain⟨v,hv⟩:=heo
   exact⟨v,by rw[hbe];exact hv⟩
  ·refine(ok b u q).stay (fun c v hc r=>k c v ?_ r) (fun c r=>by rw[zj (nown c b r)];exact r) fun c xs r=>by rw[zj (ntup c xs r)];exact r
   rcases hc with rfl | hc
   ·exact hbe
   ·rintro rfl
    rcases he with z | z
    ·exact nown c b hc z
    ·rw[hc]at z;cases z;exact hb rfl
end
structure Un(fs ex:List Addr)(H H':Hp)(h h':Heap):Prop where
 keep:∀ b o,h.get? b=some o→H b=none→b ∉ fs→b ∉ ex→h'.get? b=some o
 slot:∀ b o,h.get? b=some o→H b=none→b∈fs→b ∉ ex→∃ sl,h'.get? b=some {o with slots:=sl}
 free:∀ b o,h.get? b=some o→H b=none→b ∉ ex→H' b=none
 there:∀ b o,h.get? b=some o→b ∉ ex→∃ o',h'.get? b=some o'
 tups:∀ b xs,H b=some (.tup xs)→H' b=some (.tup xs)
 frzs:∀ b o u,H b=some (.frz o u)→H' b=some (.frz o u)
 tbls:∀ b ps,H b=some (.tbl ps)→∃ more,H' b=some (.tbl (ps++more))
section
variable {fs fs' ex ex':List Addr} {H H1 H2:Hp} {h h1 h2 h':Heap} {a x e:Addr} {o:HO}
theorem Un.any(u:Un fs ex H H1 h h1){b:Addr}{ob:Obj}(q:h.get? b=some ob)(n:H b=none)(hx:b ∉ ex):∃ sl,h1.get? b=some {ob with slots:=sl}:=by
 by_cases hb:b∈fs
 ·exact u.slot b ob q n hb hx
 ·exact⟨ob.slots,u.keep b ob q n hb hx⟩
theorem Un.kept(k:∀ b u,h.get? b=some u→h'.get? b=some u):Un fs ex H H h h' :=
 ⟨fun b ob q _ _ _=>k b ob q,fun b ob q _ _ _=>⟨ob.slots,k b ob q⟩,fun _ _ _ n _=>n,fun b ob q _=>⟨ob,k b ob q⟩,fun _ _ q=>q,fun _ _ _ q=>q,fun _ ps q=>⟨#[],by rw[q];simp⟩⟩
theorem Un.refl:Un fs ex H H h h:=Un.kept fun _ _ q=>q
theorem Un.laid(k:∀ b u,h.get? b=some u→h'.get? b=some u)(hp:h.objs.size≤a)(hn:H a=none):Un fs ex H (upd H a o) h h' where
 keep:=fun b u q _ _ _=>k b u q
 slot:=fun b u q _ _ _=>⟨u.slots,k b u q⟩
 free:=fun b u q n _=>by rw[zj (Nat.ne_of_lt (Nat.lt_of_lt_of_le (Heap.lt_size q) hp))];exact n
 there:=fun b u q _=>⟨u,k b u q⟩
 tups:=fun b xs q=>by rw[zj (zm q hn)];exact q
 frzs:=fun b u xs q=>by rw[zj (zm q hn)];exact q
 tbls:=fun b ps q=>⟨#[],by rw[zj (zm q hn),q];simp⟩
theorem Un.write(mu:Mut (H x))(he:e=x∨H e=some (.own x))(k:∀ b u,b≠e→h.get? b=some u→h'.get? b=some u)(heo:∃ u,h'.get? e=some u):Un fs ex H (upd H x o) h h':=by
 have hx:∀ b,H b=none→b≠x:=fun b n z=>by subst z;rw[n]at mu;exact mu
 have hb:∀ b,H b=none→b≠e:=fun b n z=>by
  subst z
  rcases he with r | r
  ·exact hx b n r
  ·rw[n]at r;cases r
 have hm:∀ b u,H b=some u→¬ Mut (some u)→b≠x:=fun b u q nm z=>by subst z;rw[q]at mu;exact nm mu
 refine⟨fun b u q n _ _=>k b u (hb b n) q,fun b u q n _ _=>⟨u.slots,k b u (hb b n) q⟩,fun b u q n _=>by rw[zj (hx b n)];exact n,fun b u q _=>?_,
  fun b xs q=>by rw[zj (hm b _ q fun z=>z)];exact q,fun b u xs q=>by rw[zj (hm b _ q fun z=>z)];exact q,fun b ps q=>⟨#[],by rw[zj (hm b _ q fun z=>z),q];simp⟩⟩
 by_cases hbe:b=e
 ·subst hbe;exact heo
 ·exact⟨u,k b u hbe q⟩
end
def trk(h:Heap)(H:Hp):List Addr:=(List.range h.objs.size).filter fun a=>(H a).isSome
def hidT(h:Heap)(H:Hp):Heap:=PySem.W.hideAll h (trk h H)
theorem z9d(h:Heap)(H:Hp):(hidT h H).objs.size=h.objs.size:=PySem.W.hideAll_size _ _
theorem zaN{h:Heap}{H:Hp}{b:Addr}{o:Obj}(e:h.get? b=some o)(n:H b=none):(hidT h H).get? b=some o :=
 PySem.W.hideAll_get _ e fun hm=>by
  have q:(H b).isSome=true:=(List.mem_filter.mp hm).2
  rw[n]at q;simp at q
theorem zcj{h:Heap}{H:Hp}{b:Addr}{o:Obj}(e:(hidT h H).get? b=some o):h.get? b=some o∧H b=none:=by
 have e':h.get? b=some o:=PySem.W.of_hideAll (trk h H) e
 refine⟨e',?_⟩
 cases q:H b with
 | none=>rfl
 | some x =>
  have hm:b∈trk h H:=List.mem_filter.mpr ⟨List.mem_range.mpr (Heap.lt_size e'),by simp[q]⟩
  have z:(hidT h H).get? b=none:=PySem.W.hideAll_none (trk h H) hm
  rw[z]at e;cases e
def allNews(g h:Heap)(L:Addr):List (Addr × Obj):=(List.range h.objs.size).filterMap fun a=>if a=L∨(g.get? a).isSome=true then none else (h.get? a).map fun o=>(a,o)
def rest(g h:Heap)(L d:Addr):List (Addr × Obj):=(allNews g h L).filter fun p=>decide (p.1≠d)
end L2
namespace L2
open PySem PySem.Spec PyProof.Rows
structure Mod(K:PySem.W.Frag)(mg:Str→Option Value)(base:Heap):Prop where
 kin:K.In base
 glob:base.Ns mainGlobals mg
 blt:∃ mb,base.Ns builtinsNs mb∧∀ x:Str,x≠"__name__"→mb x=bootBuiltins x
 nolimit:base.NoLimit
structure Cx where
 prog:Program
 w:World
 K:PySem.W.Frag
 mg:Str→Option Value
 base:Heap
 A:Around
 N:List Str
 s₀:Shared
 H₀:Hp
 env:Env
 outer:List Env
 stack:List Env
 ex:List Addr
 fn:Str→Bool
 calm:Bool
 pn:List (Addr × Obj)
 xe:Value→Shared→Prop
def frs(l:List Env):List Addr:=l.filterMap (·.frame)
abbrev Cx.fs(X:Cx):List Addr:=frs X.outer
def Vis(sc:Scope)(x:Str):Prop:=sc.names.lookup x=some .local∨sc.names.lookup x=some .cell∨sc.names.lookup x=some .free
def Loc(sc:Scope)(x:Str):Prop:=sc.names.lookup x=some .local∨sc.names.lookup x=some .cell
def Look(env:Env)(h:Heap)(m:Str→Option Value)(x:Str)(u:Value):Prop :=
 (env.kindOf x=some .local∧m x=some u)∨((env.kindOf x=some .cell∨env.kindOf x=some .free)∧∃ c,env.cells.lookup x=some c∧h.IsCell c (some u))
structure Cx.Ok(X:Cx):Prop where
 mod:Mod X.K X.mg X.base
 kind:X.env.scope.kind=.function
 glob:X.env.globals=mainGlobals
 blt:X.env.builtins=builtinsNs
 above:X.s₀.heap.objs.size≤X.env.locals
 inj:∀ x y c,X.env.cells.lookup x=some c→X.env.cells.lookup y=some c→x=y
 has:∀ x,(X.env.kindOf x=some .cell∨X.env.kindOf x=some .free)→∃ c,X.env.cells.lookup x=some c
 cab:∀ x c,X.fn x=true→X.env.cells.lookup x=some c→X.s₀.heap.objs.size≤c
 hd:X.calm=true→X.A.handled=none
 frames:X.A.frames=some X.stack
 stk:X.stack=X.outer∨(X.stack=X.env::X.outer∧X.env.frame=some X.env.locals)
 exf:∀ b∈X.ex,b≠X.env.locals∧∀ x c,X.env.cells.lookup x=some c→c≠b
 bs:∀ b o,X.base.get? b=some o→X.s₀.heap.get? b=some o∧X.H₀ b=none
 bsz:X.base.objs.size≤X.s₀.heap.objs.size
 noex:∀ b o,X.base.get? b=some o→b ∉ X.ex
 exfs:∀ b∈X.ex,b ∉ X.fs
 funs:X.s₀.heap.FunFrames X.base X.outer
 frf:∀ b∈X.fs,X.H₀ b=none
structure Inv(X:Cx)(pins:List (Addr × Obj))(σ:List (Option V))(H:Hp)(s:Shared):Prop where
 ok:X.Ok
 os:s.os=X.s₀.os
 bare:AllBare s.gens
 base:Un X.fs X.ex X.H₀ H X.s₀.heap s.heap
 loc:∃ m,s.heap.Ns X.env.locals m∧∀ (i:Nat) (x:Str) (v:V),X.N[i]?=some x→σ[i]?=some (some v)→Vis X.env.scope x→∃ u,RelV v u∧Look X.env s.heap m x u
 cell:∀ x c,X.env.cells.lookup x=some c→∃ v,s.heap.IsCell c v
 free:H X.env.locals=none
 freeC:∀ x c,X.env.cells.lookup x=some c→H c=none
 pin:∀ p∈X.pn++pins,s.heap.get? p.1=some p.2∧H p.1=none∧p.1≠X.env.locals∧p.1 ∉ X.fs∧∀ v,p.2.data≠.cell v
 hok:HOk X.prog X.w H s.heap
 len:σ.length=X.N.length
section
variable {X:Cx} {pins:List (Addr × Obj)} {σ:List (Option V)} {H H':Hp} {s:Shared} {h':Heap}
theorem Cx.Ok.nofr(ok:X.Ok){b:Addr}{o:Obj}(e:X.base.get? b=some o):b ∉ X.fs:=fun hb=>by
 have:=(ok.funs.mem hb).1
 rw[e]at this;cases this
theorem Inv.bs(I:Inv X pins σ H s):∀ b o,X.base.get? b=some o→s.heap.get? b=some o∧H b=none:=fun b o e =>
 ⟨I.base.keep b o (I.ok.bs b o e).1 (I.ok.bs b o e).2 (I.ok.nofr e) (I.ok.noex b o e),I.base.free b o (I.ok.bs b o e).1 (I.ok.bs b o e).2 (I.ok.noex b o e)⟩
theorem Inv.bk(I:Inv X pins σ H s):∀ b o,X.base.get? b=some o→s.heap.get? b=some o:=fun b o e=>(I.bs b o e).1
theorem Inv.mod(I:Inv X pins σ H s):Mod X.K X.mg X.base:=I.ok.mod
theorem Inv.kIn(I:Inv X pins σ H s):X.K.In s.heap:=I.ok.mod.kin.keeps I.bk
theorem Inv.fr(I:Inv X pins σ H s):∃ m,Fr X.base X.env.locals s.heap m :=
 let ⟨m,hn,_⟩:=I.loc
 ⟨m,hn,I.bk,Nat.le_trans I.ok.bsz I.ok.above⟩
theorem Inv.lt(I:Inv X pins σ H s):X.env.locals < s.heap.objs.size:=let ⟨_,hn,_⟩:=I.loc;hn.lt
theorem Inv.sz(I:Inv X pins σ H s):X.s₀.heap.objs.size≤s.heap.objs.size:=Nat.le_trans I.ok.above (Nat.le_of_lt I.lt)
theorem Inv.nofs(I:Inv X pins σ H s){a:Addr}(h:s.heap.objs.size≤a):a ∉ X.fs:=fun hb=>by
 obtain⟨_,o,ho,_⟩:=I.ok.funs.mem hb
 exact absurd (Nat.lt_of_lt_of_le (Heap.lt_size ho) (Nat.le_trans I.sz h)) (Nat.lt_irrefl _)
theorem Inv.cne(I:Inv X pins σ H s):∀ x c,X.env.cells.lookup x=some c→c≠X.env.locals:=fun x c e z=>by
 obtain⟨v,o,ho,hd⟩:=I.cell x c e
 obtain⟨m,⟨o',es,ep,ho',hd',_⟩,_⟩:=I.loc
 rw[z,ho']at ho;cases ho;rw[hd']at hd;cases hd
theorem Inv.funs(I:Inv X pins σ H s):s.heap.FunFrames X.base X.outer:=by
 have all:∀ (l:List Env),(∀ b∈frs l,b∈X.fs)→X.s₀.heap.FunFrames X.base l→s.heap.FunFrames X.base l:=by
  intro l
  induction l with
  | nil=>intro _ _;trivial
  | cons env r ih =>
   intro hs hl
   obtain⟨hk,⟨L,o,hf,hn,ho,hd⟩,hr⟩:=hl
   have hL:L∈X.fs:=hs L (by unfold frs;rw[List.filterMap_cons,hf];exact List.mem_cons_self)
   obtain⟨sl,e⟩:=I.base.slot L o ho (I.ok.frf L hL) hL fun z=>I.ok.exfs L z hL
   exact⟨hk,⟨L,_,hf,hn,e,hd⟩,ih (fun b hb=>hs b (by unfold frs;rw[List.filterMap_cons,hf];exact List.mem_cons_of_mem _ hb)) hr⟩
 exact all X.outer (fun _ hb=>hb) I.ok.funs
theorem Inv.stack(I:Inv X pins σ H s):s.heap.FunFrames X.base X.stack:=by
 rcases I.ok.stk with e | ⟨e,hf⟩
 ·rw[e];exact I.funs
 ·rw[e]
  obtain⟨m,hn,_⟩:=I.loc
  refine .cons (by rw[I.ok.kind];decide) hf hn ?_ I.funs
  exact Heap.get?_none_of_le (Nat.le_trans I.ok.bsz I.ok.above)
theorem Inv.stkSub(I:Inv X pins σ H s):∀ b∈frs X.stack,b∈X.env.locals::X.fs:=fun b hb=>by
 rcases I.ok.stk with e | ⟨e,hf⟩
 ·rw[e]at hb;exact List.mem_cons_of_mem _ hb
 ·rw[e]at hb
  unfold frs at hb
  rw[List.filterMap_cons,hf]at hb
  exact hb
theorem Inv.stkFree(I:Inv X pins σ H s):∀ b∈frs X.stack,H b=none:=fun b hb=>by
 rcases List.mem_cons.mp (I.stkSub b hb) with e | hb
 ·rw[e];exact I.free
 ·obtain⟨_,o,ho,_⟩:=I.ok.funs.mem hb
  exact I.base.free b o ho (I.ok.frf b hb) fun z=>I.ok.exfs b z hb
theorem Inv.step{g':Array GenState}{t':Nat}{d':Drawn}{ch:List Addr}(I:Inv X pins σ H s)
  (hch:∀ b∈ch,(b∈X.ex∨X.s₀.heap.objs.size≤b)∧b≠X.env.locals∧(∀ x c,X.env.cells.lookup x=some c→c≠b)∧∀ p∈X.pn++pins,p.1≠b)
  (keep:∀ b o,b≠X.env.locals→b ∉ X.fs→b ∉ ch→s.heap.get? b=some o→H b=none→h'.get? b=some o)
  (slot:∀ b o,b≠X.env.locals→b∈X.fs→b ∉ ch→s.heap.get? b=some o→H b=none→∃ sl,h'.get? b=some {o with slots:=sl}) (free:∀ b o,b ∉ ch→s.heap.get? b=some o→H b=none→H' b=none)
  (there:∀ b o,b ∉ ch→s.heap.get? b=some o→∃ o',h'.get? b=some o')
  (tups:∀ b xs,H b=some (.tup xs)→H' b=some (.tup xs)) (frzs:∀ b o u,H b=some (.frz o u)→H' b=some (.frz o u)) (tbls:∀ b ps,H b=some (.tbl ps)→∃ more,H' b=some (.tbl (ps++more)))
  (ns:∀ m,s.heap.Ns X.env.locals m→h'.Ns X.env.locals m) (hok:HOk X.prog X.w H' h') (hg:AllBare g') :
  Inv X pins σ H' {s with heap:=h',gens:=g',drawn:=d',toks:=t'}:=by
 have neL:∀ b o,X.s₀.heap.get? b=some o→b≠X.env.locals:=fun b o e=>Nat.ne_of_lt (Nat.lt_of_lt_of_le (Heap.lt_size e) I.ok.above)
 have neC:∀ b o,X.s₀.heap.get? b=some o→b ∉ X.ex→b ∉ ch:=fun b o e hx hb=>by
  rcases(hch b hb).1 with z | z
  ·exact hx z
  ·exact absurd (Nat.lt_of_lt_of_le (Heap.lt_size e) z) (Nat.lt_irrefl _)
 have cellK:∀ x c,X.env.cells.lookup x=some c→∀ v,s.heap.IsCell c v→h'.IsCell c v:=fun x c e v x__1=>by
  obtain⟨o,ho,hd⟩:=x__1
  have nch:c ∉ ch:=fun z=>(hch c z).2.2.1 x c e rfl
  by_cases hc:c∈X.fs
  ·obtain⟨sl,q⟩:=slot c o (I.cne x c e) hc nch ho (I.freeC x c e)
   exact⟨_,q,hd⟩
  ·exact⟨o,keep c o (I.cne x c e) hc nch ho (I.freeC x c e),hd⟩
 refine⟨I.ok,I.os,hg,⟨fun b o e n hb hx=>?_,fun b o e n hb hx=>?_,fun b o e n hx=>?_,fun b o e hx=>?_,fun b xs e=>tups b xs (I.base.tups b xs e),fun b o xs e=>frzs b o xs (I.base.frzs b o xs e),fun b ps e=>?_⟩,?_,fun x c e=>?_,?_,fun x c e=>?_,fun p hp=>?_,hok,I.len⟩
 ·exact keep b o (neL b o e) hb (neC b o e hx) (I.base.keep b o e n hb hx) (I.base.free b o e n hx)
 ·obtain⟨sl,e1⟩:=I.base.slot b o e n hb hx
  obtain⟨sl',e2⟩:=slot b _ (neL b o e) hb (neC b o e hx) e1 (I.base.free b o e n hx)
  exact⟨sl',e2⟩
 ·obtain⟨o',e1⟩:=I.base.there b o e hx
  exact free b o' (neC b o e hx) e1 (I.base.free b o e n hx)
 ·obtain⟨o',e1⟩:=I.base.there b o e hx
  exact there b o' (neC b o e hx) e1
 ·obtain⟨m1,e1⟩:=I.base.tbls b ps e
  obtain⟨m2,e2⟩:=tbls b _ e1
  exact⟨m1++m2,by rw[e2,Array.append_assoc]⟩
 ·obtain⟨m,hn,hl⟩:=I.loc
  refine⟨m,ns m hn,fun i x v e1 e2 e3=>?_⟩
  obtain⟨u,r,l⟩:=hl i x v e1 e2 e3
  refine⟨u,r,?_⟩
  rcases l with l | ⟨k,c,e,z⟩
  ·exact .inl l
  ·exact .inr ⟨k,c,e,cellK x c e _ z⟩
 ·obtain⟨v,z⟩:=I.cell x c e
  exact⟨v,cellK x c e v z⟩
 ·obtain⟨m,⟨o,_,_,ho,_⟩,_⟩:=I.loc
  exact free _ o (fun z=>(hch _ z).2.1 rfl) ho I.free
 ·obtain⟨v,o,ho,hd⟩:=I.cell x c e
  exact free c o (fun z=>(hch c z).2.2.1 x c e rfl) ho (I.freeC x c e)
 ·obtain⟨e,n,ne,nf,d⟩:=I.pin p hp
  have nch:p.1 ∉ ch:=fun z=>(hch p.1 z).2.2.2 p hp rfl
  exact⟨keep p.1 p.2 ne nf nch e n,free p.1 p.2 nch e n,ne,nf,d⟩
theorem Inv.un{t':Nat}(I:Inv X pins σ H s)(u:Un X.fs [] H H' s.heap h')(hok:HOk X.prog X.w H' h'):Inv X pins σ H' {s with heap:=h',toks:=t'}:=by
 obtain⟨m,⟨o,es,ep,ho,r⟩,_⟩:=id I.loc
 obtain⟨sl,hL⟩:=u.any ho I.free (by simp)
 exact I.step (g':=s.gens) (d':=s.drawn) (ch:=[]) (fun _ z=>nomatch z) (fun b o _ hb _ e n=>u.keep b o e n hb (by simp)) (fun b o _ hb _ e n=>u.slot b o e n hb (by simp)) (fun b o _ e n=>u.free b o e n (by simp)) (fun b o _ e=>u.there b o e (by simp)) u.tups u.frzs u.tbls (fun m' hm=>by
  obtain⟨o',es',ep',ho',r'⟩:=hm
  rw[ho]at ho';cases ho'
  exact⟨_,es',ep',hL,r'⟩) hok I.bare
theorem Inv.call{g':Array GenState}{t':Nat}{d':Drawn}{ch:List Addr}(I:Inv X pins σ H s)(u:Un (frs X.stack) ch H H' s.heap h')(hok:HOk X.prog X.w H' h')(hg:AllBare g')
  (hch:∀ b∈ch,(b∈X.ex∨X.s₀.heap.objs.size≤b)∧b≠X.env.locals∧(∀ x c,X.env.cells.lookup x=some c→c≠b)∧∀ p∈X.pn++pins,p.1≠b) :
  Inv X pins σ H' {s with heap:=h',gens:=g',drawn:=d',toks:=t'}:=by
 obtain⟨m,⟨o,es,ep,ho,r⟩,_⟩:=id I.loc
 obtain⟨sl,hL⟩:=u.any ho I.free fun z=>(hch _ z).2.1 rfl
 exact I.step (ch:=ch) hch (fun b o hL hb hc e n=>u.keep b o e n (fun z=>(List.mem_cons.mp (I.stkSub b z)).elim hL hb) hc) (fun b o _ _ hc e n=>u.any e n hc) (fun b o hc e n=>u.free b o e n hc) (fun b o hc e=>u.there b o e hc) u.tups u.frzs u.tbls (fun m' hm=>by
  obtain⟨o',es',ep',ho',r'⟩:=hm
  rw[ho]at ho';cases ho'
  exact⟨_,es',ep',hL,r'⟩) hok hg
theorem Inv.turned{t':Nat}{it:Addr}(I:Inv X pins σ H s)(k:∀ b o,b≠it→s.heap.get? b=some o→h'.get? b=some o)(hn:H it=none)(hL:it≠X.env.locals)
  (h1:it∈X.ex∨X.s₀.heap.objs.size≤it) (h2:∀ x c,X.env.cells.lookup x=some c→c≠it) (h3:∀ p∈X.pn++pins,p.1≠it):Inv X pins σ H {s with heap:=h',toks:=t'}:=by
 have nit:∀ b u,H b=some u→b≠it:=fun b u e z=>by rw[z,hn]at e;cases e
 refine I.step (g':=s.gens) (d':=s.drawn) (ch:=[it]) (fun b hb=>?_) (fun b o _ _ hc e _=>k b o (fun z=>hc (by simp[z])) e) (fun b o _ _ hc e _=>⟨o.slots,k b o (fun z=>hc (by simp[z])) e⟩) (fun _ _ _ _ n=>n)
  (fun b o hc e=>⟨o,k b o (fun z=>hc (by simp[z])) e⟩) (fun _ _ e=>e) (fun _ _ _ e=>e) (fun b ps e=>⟨#[],by rw[e];simp⟩) (fun m hm=>?_) (fun b u e=>?_) I.bare
 ·have e:b=it:=by simpa using hb
  subst e
  exact⟨h1,hL,h2,h3⟩
 ·obtain⟨o,es,ep,ho,r⟩:=hm
  exact⟨o,es,ep,k _ o (Ne.symm hL) ho,r⟩
 ·refine(I.hok b u e).stay (fun c v hc q=>k c v ?_ q) (fun _ q=>q) fun _ _ q=>q
  rcases hc with z | z
  ·rw[z];exact nit b u e
  ·exact nit c _ z
theorem Inv.tok(I:Inv X pins σ H s)(t:Nat):Inv X pins σ H {s with toks:=t}:=I.un (h':=s.heap) (t':=t) Un.refl I.hok
theorem Inv.kept{t':Nat}(I:Inv X pins σ H s)(k:∀ b u,s.heap.get? b=some u→h'.get? b=some u):Inv X pins σ H {s with heap:=h',toks:=t'}:=I.un (Un.kept k) (I.hok.kept k)
theorem Inv.laid{a:Addr}{o:HO}{t':Nat}(I:Inv X pins σ H s)(k:∀ b u,s.heap.get? b=some u→h'.get? b=some u)(hp:s.heap.objs.size≤a)(new:ObjOk X.prog X.w (upd H a o) h' a o) :
  Inv X pins σ (upd H a o) {s with heap:=h',toks:=t'}:=I.un (Un.laid k hp (I.hok.fresh hp)) (I.hok.laid k hp new)
theorem Inv.write{x e:Addr}{o:HO}{t':Nat}(I:Inv X pins σ H s)(mu:Mut (H x))(he:e=x∨H e=some (.own x))(k:∀ b u,b≠e→s.heap.get? b=some u→h'.get? b=some u)(heo:∃ u,h'.get? e=some u)
  (new:ObjOk X.prog X.w (upd H x o) h' x o):Inv X pins σ (upd H x o) {s with heap:=h',toks:=t'}:=I.un (Un.write mu he k heo) (I.hok.write mu he k heo new)
theorem Inv.weak{σ':List (Option V)}(I:Inv X pins σ H s)(hl:σ'.length=σ.length)(w:∀ (i:Nat) v,σ'[i]?=some (some v)→σ[i]?=some (some v)):Inv X pins σ' H s :=
 ⟨I.ok,I.os,I.bare,I.base,let ⟨m,hn,hl'⟩:=I.loc;⟨m,hn,fun i x v e1 e2 e3=>hl' i x v e1 (w i v e2) e3⟩,I.cell,I.free,I.freeC,I.pin,I.hok,hl.trans I.len⟩
theorem Inv.pins_of{pins':List (Addr × Obj)}(I:Inv X pins σ H s)(h:∀ p∈pins',s.heap.get? p.1=some p.2∧H p.1=none∧p.1≠X.env.locals∧p.1 ∉ X.fs∧∀ v,p.2.data≠.cell v):Inv X pins' σ H s :=
 ⟨I.ok,I.os,I.bare,I.base,I.loc,I.cell,I.free,I.freeC,fun p hp=>(List.mem_append.mp hp).elim (fun z=>I.pin p (List.mem_append_left _ z)) (h p),I.hok,I.len⟩
theorem z62{N:List Str}(hN:N.Nodup){i j:Nat}{x:Str}(a:N[i]?=some x)(b:N[j]?=some x):i=j:=by
 obtain⟨h1,e1⟩:=List.getElem?_eq_some_iff.mp a
 obtain⟨h2,e2⟩:=List.getElem?_eq_some_iff.mp b
 exact(List.getElem_inj hN).mp (e1.trans e2.symm)
theorem z6I{M:Model}{A:Around}{E:Value→Shared→Prop}{i:Nat}{x:Str}{v:V}{u:Value}{Q:Unit→Shared→Prop}(I:Inv X pins σ H s)(hN:X.N.Nodup)(hi:X.N[i]?=some x)(hx:Loc X.env.scope x)(r:RelV v u)
  (h:∀ s',Inv X pins (σ.set i (some v)) H s'→(∃ a,Heap.SameBut a s.heap s'.heap∧(a=X.env.locals∨X.env.cells.lookup x=some a))→Q () s') (hf:X.fn x=true∨X.env.scope.names.lookup x=some .local:=by first | exact .inl rfl | exact .inr rfl | assumption):wpAny M A (storeName X.env x u) Q E s:=by
 obtain⟨m,hn,hl⟩:=id I.loc
 have hcls:(X.env.scope.kind == .class || (X.env.scope.kind == .module && X.env.locals != X.env.globals))=false:=by rw[I.ok.kind];rfl
 have hiσ:i < σ.length:=by rw[I.len];exact(List.getElem?_eq_some_iff.mp hi).1
 have cne:=I.cne
 have tracked:∀ {a:Addr} {h':Heap},(∃ o,s.heap.get? a=some o∧H a=none)→Heap.SameBut a s.heap h'→HOk X.prog X.w H h':=fun{a h'} ha hs b ob e=>by
  obtain⟨_,_,hfree⟩:=ha
  refine(I.hok b ob e).stay (fun c w' hc q=>(hs.2 c ?_).trans q) (fun _ q=>q) fun _ _ q=>q
  rintro rfl
  rcases hc with rfl | hc
  ·rw[hfree]at e;cases e
  ·rw[hfree]at hc;cases hc
 rcases hx with hk | hk
 ·refine wpAny_storeName_local hk hn (fun h' hn' hs=>?_) hcls
  obtain⟨oL,_,_,hoL,_⟩:=id hn
  refine h _ ⟨I.ok,I.os,I.bare,⟨fun b o e n hb hx=>?_,fun b o e n hb hx=>?_,I.base.free,fun b o e hx=>?_,I.base.tups,I.base.frzs,I.base.tbls⟩,⟨_,hn',fun j y v' e1 e2 e3=>?_⟩,fun y c e=>?_,I.free,I.freeC,fun p hp=>?_,tracked ⟨oL,hoL,I.free⟩ hs,by simpa using I.len⟩ ⟨_,hs,.inl rfl⟩
  ·exact(hs.2 b (Nat.ne_of_lt (Nat.lt_of_lt_of_le (Heap.lt_size e) I.ok.above))).trans (I.base.keep b o e n hb hx)
  ·obtain⟨sl,e1⟩:=I.base.slot b o e n hb hx
   exact⟨sl,(hs.2 b (Nat.ne_of_lt (Nat.lt_of_lt_of_le (Heap.lt_size e) I.ok.above))).trans e1⟩
  ·obtain⟨o',e1⟩:=I.base.there b o e hx
   exact⟨o',(hs.2 b (Nat.ne_of_lt (Nat.lt_of_lt_of_le (Heap.lt_size e) I.ok.above))).trans e1⟩
  ·by_cases hj:j=i
   ·subst hj
    rw[hi]at e1;cases e1
    rw[List.getElem?_set_self hiσ]at e2
    cases e2
    exact⟨u,r,.inl ⟨hk,by simp⟩⟩
   ·rw[List.getElem?_set_ne (Ne.symm hj)]at e2
    obtain⟨u',r',q⟩:=hl j y v' e1 e2 e3
    refine⟨u',r',?_⟩
    rcases q with ⟨k,e⟩ | ⟨k,c,e,z⟩
    ·refine .inl ⟨k,?_⟩
     have:y≠x:=fun e=>hj (z62 hN e1 (e ▸ hi))
     simp[this,e]
    ·exact .inr ⟨k,c,e,z.sameBut hs (cne y c e)⟩
  ·obtain⟨w',z⟩:=I.cell y c e
   exact⟨w',z.sameBut hs (cne y c e)⟩
  ·obtain⟨e,n,ne,nf,d⟩:=I.pin p hp
   exact⟨(hs.2 p.1 ne).trans e,n,ne,nf,d⟩
 ·have hfn:X.fn x=true:=by
   rcases hf with z | z
   ·exact z
   ·rw[z]at hk;cases hk
  obtain⟨c,hc⟩:=I.ok.has x (.inl hk)
  obtain⟨w',z⟩:=I.cell x c hc
  refine wpAny_storeName_cell I.ok.kind hk hc z (fun h' hc' hs=>?_)
  obtain⟨oc,hoc,hocd⟩:=id z
  refine h {s with heap:=h'} ⟨I.ok,I.os,I.bare,⟨fun b o e n hb hx=>?_,fun b o e n hb hx=>?_,I.base.free,fun b o e hx=>?_,I.base.tups,I.base.frzs,I.base.tbls⟩,⟨m,hn.sameBut hs (Ne.symm (cne x c hc)),fun j y v' e1 e2 e3=>?_⟩,fun y c' e=>?_,I.free,I.freeC,fun p hp=>?_,tracked ⟨oc,hoc,I.freeC x c hc⟩ hs,by simpa using I.len⟩ ⟨c,hs,.inr hc⟩
  ·exact(hs.2 b (Nat.ne_of_lt (Nat.lt_of_lt_of_le (Heap.lt_size e) (I.ok.cab x c hfn hc)))).trans (I.base.keep b o e n hb hx)
  ·obtain⟨sl,e1⟩:=I.base.slot b o e n hb hx
   exact⟨sl,(hs.2 b (Nat.ne_of_lt (Nat.lt_of_lt_of_le (Heap.lt_size e) (I.ok.cab x c hfn hc)))).trans e1⟩
  ·obtain⟨o',e1⟩:=I.base.there b o e hx
   exact⟨o',(hs.2 b (Nat.ne_of_lt (Nat.lt_of_lt_of_le (Heap.lt_size e) (I.ok.cab x c hfn hc)))).trans e1⟩
  ·by_cases hj:j=i
   ·subst hj
    rw[hi]at e1;cases e1
    rw[List.getElem?_set_self hiσ]at e2
    cases e2
    exact⟨u,r,.inr ⟨.inl hk,c,hc,hc'⟩⟩
   ·rw[List.getElem?_set_ne (Ne.symm hj)]at e2
    obtain⟨u',r',q⟩:=hl j y v' e1 e2 e3
    refine⟨u',r',?_⟩
    rcases q with q | ⟨k,c',e,z'⟩
    ·exact .inl q
    ·refine .inr ⟨k,c',e,z'.sameBut hs ?_⟩
     rintro rfl
     exact hj (z62 hN e1 (I.ok.inj _ _ _ e hc ▸ hi))
  ·by_cases hcc:c'=c
   ·subst hcc;exact⟨_,hc'⟩
   ·obtain⟨w2,z2⟩:=I.cell y c' e
    exact⟨w2,z2.sameBut hs hcc⟩
  ·obtain⟨e,n,ne,nf,d⟩:=I.pin p hp
   refine⟨(hs.2 p.1 ?_).trans e,n,ne,nf,d⟩
   intro q
   rw[q,hoc]at e
   have q':oc=p.2:=Option.some.inj e
   exact d w' (by rw[← q'];exact hocd)
theorem z1J{M:Model}{A:Around}{E:Value→Shared→Prop}{i:Nat}{x:Str}{v:V}{u:Value}{Q:Unit→Shared→Prop}(I:Inv X pins σ H s)(hN:X.N.Nodup)(hi:X.N[i]?=some x)(hx:Loc X.env.scope x)(r:RelV v u)
  (h:∀ s',Inv X pins (σ.set i (some v)) H s'→Q () s') (hf:X.fn x=true∨X.env.scope.names.lookup x=some .local:=by first | exact .inl rfl | exact .inr rfl | assumption):wpAny M A (storeName X.env x u) Q E s :=
 z6I I hN hi hx r (fun s' I' _=>h s' I') hf
theorem Inv.call'{s':Shared}{ch:List Addr}(I:Inv X pins σ H s)(ho:s'.os=s.os)(u:Un (frs X.stack) ch H H' s.heap s'.heap)(hok:HOk X.prog X.w H' s'.heap)(hg:AllBare s'.gens)
  (hch:∀ b∈ch,(b∈X.ex∨X.s₀.heap.objs.size≤b)∧b≠X.env.locals∧(∀ x c,X.env.cells.lookup x=some c→c≠b)∧∀ p∈X.pn++pins,p.1≠b):Inv X pins σ H' s':=by
 obtain⟨h',g',d',t',o'⟩:=s'
 have e:o'=s.os:=ho
 subst e
 exact I.call (g':=g') (t':=t') (d':=d') u hok hg hch
end
abbrev XK:=Value→Option Addr→Hp→Prop
abbrev St:=List (Option V)
abbrev VK:=V→Hp→Prop
abbrev TE:=St→Hp→VK→Prop
abbrev TT:=St→Hp→(Bool→Hp→Prop)→Prop
abbrev TA:=St→Hp→(List V→Hp→Prop)→Prop
structure Ends where
 nx:St→Hp→Prop
 rt:VK
 bk:St→Hp→Prop:=fun _ _=>False
 ct:St→Hp→Prop:=fun _ _=>False
abbrev TS:=Ends→St→Hp→Prop
inductive NP(X:Cx)(pins:List (Addr × Obj))(Q:St→Hp→Prop)(s':Shared):Prop
 | mk (σ':St) (H':Hp) (h0:Inv X pins σ' H' s') (h1:Q σ' H')
inductive RP(X:Cx)(pins:List (Addr × Obj))(Q:VK)(u:Value)(s':Shared):Prop
 | mk (v:V) (σ':St) (H':Hp) (h0:Inv X pins σ' H' s') (h1:RelV v u) (h2:Q v H')
inductive EP(X:Cx)(pins:List (Addr × Obj))(σ:St)(Q:VK)(u:Value)(s':Shared):Prop
 | mk (v:V) (H':Hp) (h0:Inv X pins σ H' s') (h1:RelV v u) (h2:Q v H')
inductive TP(X:Cx)(pins:List (Addr × Obj))(σ:St)(Q:Bool→Hp→Prop)(b:Bool)(s':Shared):Prop
 | mk (H':Hp) (h0:Inv X pins σ H' s') (h1:Q b H')
inductive AP(X:Cx)(pins:List (Addr × Obj))(σ:St)(Q:List V→Hp→Prop)(us:List Value)(s':Shared):Prop
 | mk (vs:List V) (H':Hp) (h0:Inv X pins σ H' s') (h1:Vals vs us) (h2:Q vs H')
def SP(X:Cx)(pins:List (Addr × Obj))(D:Ends)(f:Flow)(s':Shared):Prop :=
 match f with
 | .next=>NP X pins D.nx s'
 | .brk=>NP X pins D.bk s'
 | .cont=>NP X pins D.ct s'
 | .ret u=>RP X pins D.rt u s'
def PE(X:Cx)(e:Expr)(t:TE):Prop :=
 ∀ (pins:List (Addr × Obj)) (s:Shared) (σ:St) (H:Hp) (Q:VK),Inv X pins σ H s→t σ H Q→wpAny (model X.prog X.w) X.A (eval e X.env) (EP X pins σ Q) X.xe s
def PT(X:Cx)(e:Expr)(t:TT):Prop :=
 ∀ (pins:List (Addr × Obj)) (s:Shared) (σ:St) (H:Hp) (Q:Bool→Hp→Prop),Inv X pins σ H s→t σ H Q→wpAny (model X.prog X.w) X.A (isTrue e X.env (eval e X.env)) (TP X pins σ Q) X.xe s
def PW(X:Cx)(e:Expr)(t:TT):Prop :=
 ∀ (whole:Sem Value) (pins:List (Addr × Obj)) (s:Shared) (σ:St) (H:Hp) (Q:Bool→Hp→Prop),Inv X pins σ H s→t σ H Q→wpAny (model X.prog X.w) X.A (isTrue e X.env whole) (TP X pins σ Q) X.xe s
theorem PW.pt{X:Cx}{e:Expr}{t:TT}(h:PW X e t):PT X e t:=h _
def PA(X:Cx)(es:List Expr)(t:TA):Prop :=
 ∀ (pos:Pos) (pins:List (Addr × Obj)) (s:Shared) (σ:St) (H:Hp) (Q:List V→Hp→Prop),Inv X pins σ H s→t σ H Q→wpAny (model X.prog X.w) X.A (spliced (backTo pos (starEach es X.env))) (AP X pins σ Q) X.xe s
def PS(X:Cx)(st:Stmt)(t:TS):Prop :=
 ∀ (pins:List (Addr × Obj)) (s:Shared) (σ:St) (H:Hp) (D:Ends),Inv X pins σ H s→t D σ H→wpAny (model X.prog X.w) X.A (exec st X.env) (SP X pins D) X.xe s
def PSs(X:Cx)(st:List Stmt)(t:TS):Prop :=
 ∀ (pins:List (Addr × Obj)) (s:Shared) (σ:St) (H:Hp) (D:Ends),Inv X pins σ H s→t D σ H→wpAny (model X.prog X.w) X.A (execs st X.env) (SP X pins D) X.xe s
theorem thn{α:Type}{t:Sem α}{Q Q':α→Shared→Prop}{M:Model}{A:Around}{E:Value→Shared→Prop}{s:Shared}(h:wpAny M A t Q E s)(hQ:∀ a s,Q a s→Q' a s):wpAny M A t Q' E s:=wpAny_mono h hQ fun _ _ x=>x
end L2
namespace L2
open PySem PySem.Spec PyProof.Rows
section
variable {X:Cx}
def tVar(i:Nat):TE:=fun σ H Q=>∃ v,σ[i]?=some (some v)∧Q v H
def tC(v:V):TE:=fun _ H Q=>Q v H
theorem zdH{i:Nat}{x:Str}{pos:Pos}(hN:X.N[i]?=some x)(hv:Vis X.env.scope x)(hd:(x == ("__debug__":Str))=false:=by decide)(hcd:(x == ("__classdict__":Str))=false:=by decide):PE X (.Name x pos) (tVar i):=by
 intro pins s σ H Q I h
 obtain⟨v,e,h⟩:=h
 obtain⟨m,hn,hl⟩:=I.loc
 obtain⟨u,r,l⟩:=hl i x v hN e hv
 have fin:EP X pins σ Q u s:=⟨v,H,I,r,h⟩
 rcases l with ⟨hk,hm⟩ | ⟨hk,c,hc,hcell⟩
 ·exact wpAny_Name (wpAny_loadName_local I.ok.kind hk hn hm fin) hd
 ·rcases hk with hk | hk
  ·exact wpAny_Name (wpAny_loadName_cell I.ok.kind hk hc hcell fin) hd
  ·exact wpAny_Name (wpAny_loadName_free I.ok.kind hk hc hcell fin hcd) hd
theorem z4V{i j pos}:PE X (.Constant (.int i) j pos) (tC (.int i)):=fun _ _ _ H _ I h=>wpAny_Constant_int ⟨.int i,H,I.tok _,⟨_,rfl⟩,h⟩
theorem zgv{b j pos}:PE X (.Constant (.bool b) j pos) (tC (.bl b)):=fun _ _ _ H _ I h=>Constant_bool ⟨.bl b,H,I,rfl,h⟩
theorem zbN{j pos}:PE X (.Constant .none j pos) (tC .non):=fun _ _ _ H _ I h=>Constant_none ⟨.non,H,I,rfl,h⟩
theorem z4m{x j pos}:PE X (.Constant (.str x) j pos) (tC (.str x)):=fun _ _ _ H _ I h=>Calls.Constant_str ⟨.str x,H,I.tok _,⟨_,rfl⟩,h⟩
def Gl(X:Cx)(x:Str):Prop:=X.env.kindOf x=some .globalImplicit
theorem z4W{E:Value→Shared→Prop}{pins:List (Addr × Obj)}{s:Shared}{σ:St}{H:Hp}{x:Str}{u:Value}{pos:Pos}{Q:Value→Shared→Prop}(I:Inv X pins σ H s)(hg:Gl X x)(hm:X.mg x=some u)(h:Q u s)
  (hd:(x == ("__debug__":Str))=false:=by decide):wpAny (model X.prog X.w) X.A (eval (.Name x pos) X.env) Q E s :=
 Calls.Name_function_global I.ok.kind hg (Calls.loadGlobal_global (by rw[I.ok.glob];exact I.mod.glob.keeps I.bk) hm h) hd
theorem z3N{E:Value→Shared→Prop}{pins:List (Addr × Obj)}{s:Shared}{σ:St}{H:Hp}{x:Str}{u:Value}{pos:Pos}{Q:Value→Shared→Prop}(I:Inv X pins σ H s)(hg:Gl X x)(hm:X.mg x=none)(hv:bootBuiltins x=some u)(h:Q u s)
  (hn:x≠"__name__":=by decide) (hd:(x == ("__debug__":Str))=false:=by decide):wpAny (model X.prog X.w) X.A (eval (.Name x pos) X.env) Q E s:=by
 obtain⟨mb,h1,h2⟩:=I.mod.blt
 exact Calls.Name_function_global I.ok.kind hg (Calls.loadGlobal_builtin (by rw[I.ok.glob];exact I.mod.glob.keeps I.bk) hm (by rw[I.ok.blt];exact h1.keeps I.bk) ((h2 x hn).trans hv) h) hd
theorem z63{x:Str}{v:V}{u:Value}{pos:Pos}(hg:Gl X x)(hm:X.mg x=some u)(r:RelV v u)(hd:(x == ("__debug__":Str))=false:=by decide):PE X (.Name x pos) (tC v) :=
 fun _ _ _ H _ I h=>z4W I hg hm ⟨v,H,I,r,h⟩ hd
theorem z9e{x:Str}{v:V}{u:Value}{pos:Pos}(hg:Gl X x)(hm:X.mg x=none)(hv:bootBuiltins x=some u)(r:RelV v u)(hn:x≠"__name__":=by decide)(hd:(x == ("__debug__":Str))=false:=by decide):PE X (.Name x pos) (tC v) :=
 fun _ _ _ H _ I h=>z3N I hg hm hv ⟨v,H,I,r,h⟩ hn hd
variable {a b:Expr} {ta tb:TE} {pos:Pos}
variable {tA tB':TT} {rest:List Expr}
def tAnd(t u:TT):TT:=fun σ H Q=>t σ H fun c H1=>if c=true then u σ H1 Q else Q false H1
def tOr(t u:TT):TT:=fun σ H Q=>t σ H fun c H1=>if c=true then Q true H1 else u σ H1 Q
def tNot(t:TT):TT:=fun σ H Q=>t σ H fun c H1=>Q (!c) H1
theorem zck(ha:PT X a tA):PW X (.BoolOp .And [a] pos) tA:=by
 intro wh pins s σ H Q I h
 refine isTrue_and (thn (ha pins s σ H Q I h) fun c s1 e=>?_)
 cases c with
 | true=>exact isTrue_and_nil e
 | false=>exact e
theorem zdI(ha:PT X a tA):PW X (.BoolOp .Or [a] pos) tA:=by
 intro wh pins s σ H Q I h
 refine isTrue_or (thn (ha pins s σ H Q I h) fun c s1 e=>?_)
 cases c with
 | false=>exact isTrue_or_nil e
 | true=>exact e
theorem zdJ(ha:PT X a tA)(hb:PW X (.BoolOp .And (b::rest) pos) tB'):PW X (.BoolOp .And (a::b::rest) pos) (tAnd tA tB'):=by
 intro wh pins s σ H Q I h
 refine isTrue_and (thn (ha pins s σ H _ I h) fun c s1 x__2=>?_)
 obtain⟨H1,I1,q1⟩:=x__2
 cases c with
 | true=>exact hb wh pins s1 σ H1 Q I1 q1
 | false=>exact⟨H1,I1,q1⟩
theorem zgw(ha:PT X a tA)(hb:PW X (.BoolOp .Or (b::rest) pos) tB'):PW X (.BoolOp .Or (a::b::rest) pos) (tOr tA tB'):=by
 intro wh pins s σ H Q I h
 refine isTrue_or (thn (ha pins s σ H _ I h) fun c s1 x__3=>?_)
 obtain⟨H1,I1,q1⟩:=x__3
 cases c with
 | true=>exact⟨H1,I1,q1⟩
 | false=>exact hb wh pins s1 σ H1 Q I1 q1
theorem zdK(ha:PT X a tA):PT X (.UnaryOp .Not a pos) (tNot tA):=by
 intro pins s σ H Q I h
 exact isTrue_not (thn (ha pins s σ H (fun c H1=>Q (!c) H1) I h) fun c s1 x__4=>(by obtain⟨H1,I1,q1⟩:=x__4;exact⟨H1,I1,q1⟩))
def tAndV(ta tb:TE):TE:=fun σ H Q=>ta σ H fun x H1=>∃ c,x=.bl c∧if c=true then tb σ H1 Q else Q (.bl false) H1
def tOrV(ta tb:TE):TE:=fun σ H Q=>ta σ H fun x H1=>∃ c,x=.bl c∧if c=true then Q (.bl true) H1 else tb σ H1 Q
def tNotV(ta:TE):TE:=fun σ H Q=>ta σ H fun x H1=>∃ c,x=.bl c∧Q (.bl (!c)) H1
theorem zbO{op}{t:TE}(h:PE X a t):PE X (.BoolOp op [a] pos) t:=fun pins s σ H Q I hw=>BoolOp_one (h pins s σ H Q I hw)
theorem z9f(ha:PE X a ta)(hb:PE X (.BoolOp .And (b::rest) pos) tb):PE X (.BoolOp .And (a::b::rest) pos) (tAndV ta tb):=by
 intro pins s σ H Q I h
 refine BoolOp_and (thn (ha pins s σ H _ I h) fun v s1 x__5=>?_)
 obtain⟨x,H1,I1,r1,q1⟩:=x__5
 obtain⟨c,rfl,q1⟩:=q1
 cases r1
 refine wpAny_truthy_bool ?_
 cases c with
 | true=>exact hb pins s1 σ H1 Q I1 q1
 | false=>exact⟨.bl false,H1,I1,rfl,q1⟩
theorem zgx(ha:PE X a ta)(hb:PE X (.BoolOp .Or (b::rest) pos) tb):PE X (.BoolOp .Or (a::b::rest) pos) (tOrV ta tb):=by
 intro pins s σ H Q I h
 refine BoolOp_or (thn (ha pins s σ H _ I h) fun v s1 x__6=>?_)
 obtain⟨x,H1,I1,r1,q1⟩:=x__6
 obtain⟨c,rfl,q1⟩:=q1
 cases r1
 refine wpAny_truthy_bool ?_
 cases c with
 | false=>exact hb pins s1 σ H1 Q I1 q1
 | true=>exact⟨.bl true,H1,I1,rfl,q1⟩
theorem zbP(ha:PE X a ta):PE X (.UnaryOp .Not a pos) (tNotV ta):=by
 intro pins s σ H Q I h
 refine UnaryOp_ (thn (ha pins s σ H _ I h) fun v s1 x__7=>?_)
 obtain⟨x,H1,I1,r1,q1⟩:=x__7
 obtain⟨c,rfl,q1⟩:=q1
 cases r1
 exact not_of (wpAny_truthy_bool ⟨.bl (!c),H1,I1,rfl,q1⟩)
def tIf(t:TT)(ta tb:TE):TE:=fun σ H Q=>t σ H fun c H1=>if c=true then ta σ H1 Q else tb σ H1 Q
theorem zaO{c:Expr}(hc:PT X c tA)(ha:PE X a ta)(hb:PE X b tb):PE X (.IfExp c a b pos) (tIf tA ta tb):=by
 intro pins s σ H Q I h
 refine wpAny_IfExp (thn (hc pins s σ H _ I h) fun d s1 x__8=>?_)
 obtain⟨H1,I1,q1⟩:=x__8
 cases d with
 | true=>exact ha pins s1 σ H1 Q I1 q1
 | false=>exact hb pins s1 σ H1 Q I1 q1
end
end L2
namespace L2
open PySem PySem.Spec PyProof.Rows
def SqL(K:PySem.W.Frag)(H:Hp)(a:Addr)(xs:List V):Prop :=
 Rd H a (.lst xs) ∨
  ∃ (o:Obj) (its:Array Value) (n:Nat),K.lookup a=some o∧o.cls=.type "list"∧o.dict=none∧o.data=.seq its n∧its.size≤sizeLine∧Vals xs its.toList
def SqT(K:PySem.W.Frag)(H:Hp)(a:Addr)(xs:List V):Prop :=
 Rd H a (.tup xs) ∨
  ∃ (o:Obj) (its:Array Value) (n:Nat),K.lookup a=some o∧o.cls=.type "tuple"∧o.data=.seq its n∧its.size≤sizeLine∧Vals xs its.toList
def absV:Value→Option V
 | .none=>some .non
 | .bool b=>some (.bl b)
 | .int i _=>some (.int i)
 | .str x _=>some (.str x)
 | .bytes b _=>some (.byt b)
 | .float b _=>some (.flt b)
 | .ref a=>some (.ref a)
 | .type n=>some (.ty n)
 | _=>none
theorem RelV.abs{x:V}{u:Value}(r:RelV x u):absV u=some x:=by
 cases x with
 | non=>cases r;rfl
 | bl _=>cases r;rfl
 | int _=>obtain⟨t,rfl⟩:=r;rfl
 | str _=>obtain⟨t,rfl⟩:=r;rfl
 | byt _=>obtain⟨t,rfl⟩:=r;rfl
 | flt _=>obtain⟨t,rfl⟩:=r;rfl
 | ref _=>cases r;rfl
 | ty _=>cases r;rfl
theorem RelV.inj{x y:V}{u:Value}(r:RelV x u)(q:RelV y u):x=y:=Option.some.inj (r.abs.symm.trans q.abs)
theorem Vals.inj{xs ys:List V}{us:List Value}(h:Vals xs us)(g:Vals ys us):xs=ys:=by
 induction h generalizing ys with
 | nil=>cases g;rfl
 | cons r t ih =>
  cases g with
  | cons r' t'=>rw[r.inj r',ih t']
section
variable {X:Cx} {pins:List (Addr × Obj)} {σ:St} {H:Hp} {s:Shared} {a:Addr} {xs ys:List V}
theorem SqL.of{K:PySem.W.Frag}(h:H a=some (.lst xs)):SqL K H a xs:=.inl (.inl h)
theorem SqT.of{K:PySem.W.Frag}(h:H a=some (.tup xs)):SqT K H a xs:=.inl (.inl h)
theorem Inv.list(I:Inv X pins σ H s)(h:SqL X.K H a xs):∃ its:List Value,Vals xs its∧PlainL s.heap a its.toArray∧xs.length≤sizeLine:=by
 rcases h with h | ⟨o,its,n,hk,hc,hd,hs,hz,r⟩
 ·obtain⟨z,its,n,r,e⟩:=h.ok I.hok
  exact⟨its,r,⟨_,n,e,rfl,rfl,rfl⟩,z⟩
 ·refine⟨its.toList,r,⟨o,n,I.kIn a o hk,hc,hd,by simpa using hs⟩,?_⟩
  have e:=r.length
  simp only[Array.length_toList]at e
  omega
theorem Inv.tuple(I:Inv X pins σ H s)(h:SqT X.K H a xs):∃ its:List Value,Vals xs its∧IsTup s.heap a its.toArray∧xs.length≤sizeLine:=by
 rcases h with h | ⟨o,its,n,hk,hc,hs,hz,r⟩
 ·obtain⟨z,its,r,p⟩:=h.ok I.hok
  exact⟨its,r,p,z⟩
 ·refine⟨its.toList,r,⟨o,I.kIn a o hk,hc,n,by simpa using hs⟩,?_⟩
  have e:=r.length
  simp only[Array.length_toList]at e
  omega
theorem Inv.list_inj(I:Inv X pins σ H s)(h:SqL X.K H a xs)(h':SqL X.K H a ys):xs=ys:=by
 obtain⟨its,r,⟨o,n,e,_,_,d⟩,_⟩:=I.list h
 obtain⟨its',r',⟨o',n',e',_,_,d'⟩,_⟩:=I.list h'
 rw[e]at e';cases e'
 rw[d]at d'
 injection d' with d1 _
 have:its=its':=by simpa using congrArg Array.toList d1
 subst this
 exact r.inj r'
theorem Inv.tuple_inj(I:Inv X pins σ H s)(h:SqT X.K H a xs)(h':SqT X.K H a ys):xs=ys:=by
 obtain⟨its,r,⟨o,e,_,n,d⟩,_⟩:=I.tuple h
 obtain⟨its',r',⟨o',e',_,n',d'⟩,_⟩:=I.tuple h'
 rw[e]at e';cases e'
 rw[d]at d'
 injection d' with d1 _
 have:its=its':=by simpa using congrArg Array.toList d1
 subst this
 exact r.inj r'
end
abbrev Cx.wish(X:Cx)(E:Value→Shared→Prop):Cx:={X with xe:=E}
abbrev Cx.nox(X:Cx):Cx:=X.wish fun _ _=>False
theorem Cx.Ok.wish{X:Cx}(ok:X.Ok)(E:Value→Shared→Prop):(X.wish E).Ok :=
 ⟨ok.mod,ok.kind,ok.glob,ok.blt,ok.above,ok.inj,ok.has,ok.cab,ok.hd,ok.frames,ok.stk,ok.exf,ok.bs,ok.bsz,ok.noex,ok.exfs,ok.funs,ok.frf⟩
theorem Cx.Ok.unwish{X:Cx}{E:Value→Shared→Prop}(ok:(X.wish E).Ok):X.Ok :=
 ⟨ok.mod,ok.kind,ok.glob,ok.blt,ok.above,ok.inj,ok.has,ok.cab,ok.hd,ok.frames,ok.stk,ok.exf,ok.bs,ok.bsz,ok.noex,ok.exfs,ok.funs,ok.frf⟩
section
variable {X:Cx} {pins:List (Addr × Obj)} {σ:St} {H:Hp} {s:Shared} {E:Value→Shared→Prop}
theorem Inv.wish(I:Inv X pins σ H s)(E:Value→Shared→Prop):Inv (X.wish E) pins σ H s:=⟨I.ok.wish E,I.os,I.bare,I.base,I.loc,I.cell,I.free,I.freeC,I.pin,I.hok,I.len⟩
theorem Inv.unwish(I:Inv (X.wish E) pins σ H s):Inv X pins σ H s:=⟨I.ok.unwish,I.os,I.bare,I.base,I.loc,I.cell,I.free,I.freeC,I.pin,I.hok,I.len⟩
theorem SP.unwish{D:Ends}{f:Flow}{s':Shared}(h:SP (X.wish E) pins D f s'):SP X pins D f s':=by
 cases f with
 | next=>obtain⟨σ',H',I,q⟩:=h;exact⟨σ',H',I.unwish,q⟩
 | brk=>obtain⟨σ',H',I,q⟩:=h;exact⟨σ',H',I.unwish,q⟩
 | cont=>obtain⟨σ',H',I,q⟩:=h;exact⟨σ',H',I.unwish,q⟩
 | ret u=>obtain⟨v,σ',H',I,r,q⟩:=h;exact⟨v,σ',H',I.unwish,r,q⟩
theorem PE.nox{e:Expr}{t:TE}(h:PE X.nox e t):PE X e t:=fun pins s σ H Q I hw =>
 wpAny_mono (h pins s σ H Q (I.wish _) hw) (fun _ _ x__9=>(by obtain⟨v,H',I',r,q⟩:=x__9;exact⟨v,H',I'.unwish,r,q⟩)) fun _ _ z=>False.elim z
theorem PT.nox{e:Expr}{t:TT}(h:PT X.nox e t):PT X e t:=fun pins s σ H Q I hw =>
 wpAny_mono (h pins s σ H Q (I.wish _) hw) (fun _ _ zgO=>(by obtain⟨H',I',q⟩:=zgO;exact⟨H',I'.unwish,q⟩)) fun _ _ z=>False.elim z
theorem PSs.nox{st:List Stmt}{t:TS}(h:PSs X.nox st t):PSs X st t:=fun pins s σ H D I hw =>
 wpAny_mono (h pins s σ H D (I.wish _) hw) (fun _ _ q=>q.unwish) fun _ _ z=>False.elim z
end
section
variable {X:Cx} {st:Stmt} {rest:List Stmt} {t u:TS} {e:Expr} {te:TE} {pos:Pos}
def tNext:TS:=fun D σ H=>D.nx σ H
def tSeq(t u:TS):TS:=fun D σ H=>t {D with nx:=u D} σ H
theorem z4X:PSs X [] tNext:=fun _ _ σ H _ I h=>wpAny_execs_nil ⟨σ,H,I,h⟩
theorem z0b(h1:PS X st t)(h2:PSs X rest u):PSs X (st::rest) (tSeq t u):=by
 intro pins s σ H D I h
 refine wpAny_execs_cons (thn (h1 pins s σ H {D with nx:=u D} I h) fun f s1 q=>?_)
 cases f with
 | next =>
  obtain⟨σ',H',I',q⟩:=q
  exact h2 pins s1 σ' H' D I' q
 | ret v=>exact q
 | brk=>exact q
 | cont=>exact q
theorem z47(h1:PS X st t):PSs X [st] t:=by
 intro pins s σ H D I h
 refine wpAny_execs_cons (thn (h1 pins s σ H D I h) fun f s1 q=>?_)
 cases f with
 | next=>exact wpAny_execs_nil q
 | ret v=>exact q
 | brk=>exact q
 | cont=>exact q
theorem Inv.quiet{pins:List (Addr × Obj)}{σ:St}{H:Hp}{s:Shared}(I:Inv X pins σ H s):interactive X.env=false:=by simp[interactive,I.ok.kind]
def tDrop(te:TE):TS:=fun D σ H=>te σ H fun _ H1=>D.nx σ H1
theorem z64(he:PE X e te)(hs:swapsWith e none pos.line X.env=pure false:=by rfl):PS X (.Expr e pos) (tDrop te):=by
 intro pins s σ H D I h
 exact wpAny_Expr_any (thn (he pins s σ H _ I h) fun v s1 zgP=>(by obtain⟨x,H1,I1,r1,q1⟩:=zgP;exact⟨σ,H1,I1,q1⟩)) I.quiet hs
def tRet(te:TE):TS:=fun D σ H=>te σ H D.rt
theorem z6J(he:PE X e te):PS X (.Return (some e) pos) (tRet te):=by
 intro pins s σ H D I h
 exact wpAny_Return_some (thn (he pins s σ H _ I h) fun v s1 zgQ=>(by obtain⟨x,H1,I1,r1,q1⟩:=zgQ;exact⟨x,σ,H1,I1,r1,q1⟩))
def tIfS(c:TT)(t u:TS):TS:=fun D σ H=>c σ H fun b H1=>if b=true then t D σ H1 else u D σ H1
theorem zcl{c:Expr}{a b:List Stmt}{tc:TT}(hc:PT X c tc)(ha:PSs X a t)(hb:PSs X b u):PS X (.If c a b pos) (tIfS tc t u):=by
 intro pins s σ H D I h
 refine wpAny_If (thn (hc pins s σ H _ I h) fun d s1 zgR=>?_)
 obtain⟨H1,I1,q1⟩:=zgR
 cases d with
 | true=>exact ha pins s1 σ H1 D I1 q1
 | false=>exact hb pins s1 σ H1 D I1 q1
end
abbrev TG:=V→St→Hp→(St→Hp→Prop)→Prop
abbrev TGs:=List V→St→Hp→(St→Hp→Prop)→Prop
def PG(X:Cx)(target:Expr)(t:TG):Prop :=
 ∀ (pins:List (Addr × Obj)) (s:Shared) (σ:St) (H:Hp) (v:V) (u:Value) (Q:St→Hp→Prop),Inv X pins σ H s→RelV v u→t v σ H Q →
  wpAny (model X.prog X.w) X.A (assign target X.env u) (fun _ s'=>NP X pins Q s') X.xe s
def PGs(X:Cx)(ts:List Expr)(t:TGs):Prop :=
 ∀ (pins:List (Addr × Obj)) (s:Shared) (σ:St) (H:Hp) (vs:List V) (us:List Value) (Q:St→Hp→Prop),Inv X pins σ H s→Vals vs us→t vs σ H Q →
  wpAny (model X.prog X.w) X.A (assignInOrder ((assignEach ts X.env).map (·.2)) us) (fun _ s'=>NP X pins Q s') X.xe s
abbrev TSet:=V→V→V→Hp→(Hp→Prop)→Prop
def PSet(X:Cx)(t:TSet):Prop :=
 ∀ (pins:List (Addr × Obj)) (s:Shared) (σ:St) (H:Hp) (o i v:V) (ov iv u:Value) (Q:Hp→Prop),Inv X pins σ H s→RelV o ov→RelV i iv→RelV v u→t o i v H Q →
  wpAny (model X.prog X.w) X.A (setItem ov iv u) (fun _ s'=>∃ H',Inv X pins σ H' s'∧Q H') X.xe s
abbrev TIp:=V→V→Hp→VK→Prop
def PIp(X:Cx)(op:Operator)(t:TIp):Prop :=
 ∀ (pins:List (Addr × Obj)) (s:Shared) (σ:St) (H:Hp) (x y:V) (v u:Value) (Q:VK),Inv X pins σ H s→RelV x v→RelV y u→t x y H Q →
  wpAny (model X.prog X.w) X.A (inplaceOp op v u) (EP X pins σ Q) X.xe s
section
variable {X:Cx} {pos:Pos}
def gName(i:Nat):TG:=fun v σ H Q=>Q (σ.set i (some v)) H
theorem z7v{i:Nat}{x:Str}(hN:X.N.Nodup)(hi:X.N[i]?=some x)(hx:Loc X.env.scope x)(hf:X.fn x=true∨X.env.scope.names.lookup x=some .local:=by first | exact .inl rfl | exact .inr rfl | assumption):PG X (.Name x pos) (gName i):=by
 intro pins s σ H v u Q I r h
 exact wpAny_assign_Name (z1J I hN hi hx r (fun s' I'=>⟨_,H,I',h⟩) hf)
def gNil:TGs:=fun vs σ H Q=>vs=[]∧Q σ H
def gCons(t:TG)(u:TGs):TGs:=fun vs σ H Q=>∃ v r,vs=v::r∧t v σ H fun σ' H'=>u r σ' H' Q
theorem z9g:PGs X [] gNil:=by
 intro pins s σ H vs us Q I r h
 obtain⟨e,h⟩:=h
 subst e
 cases r
 exact assignInOrder_nil ⟨σ,H,I,h⟩
theorem z65{e:Expr}{es:List Expr}{t:TG}{u:TGs}(h1:PG X e t)(h2:PGs X es u)
  (hs:(assignEach (e::es) X.env).map (·.2)=assign e X.env::(assignEach es X.env).map (·.2):=by rfl):PGs X (e::es) (gCons t u):=by
 intro pins s σ H vs us Q I r h
 obtain⟨v,vr,e1,h⟩:=h
 subst e1
 cases r with
 | cons r rr =>
  rw[hs]
  refine assignInOrder_cons (thn (h1 pins s σ H _ _ _ I r h) fun _ s1 zgS=>?_)
  obtain⟨σ1,H1,I1,q1⟩:=zgS
  exact h2 pins s1 σ1 H1 _ _ Q I1 rr q1
def gTup(K:PySem.W.Frag)(n:Nat)(t:TGs):TG:=fun v σ H Q=>∃ a xs,v=.ref a∧SqT K H a xs∧xs.length=n∧t xs σ H Q
theorem zbQ{es:List Expr}{k:Nat}{t:TGs}{n:Nat}(hc:X.calm=true)(h:PGs X es t)
  (hn:(assignEach es X.env).length=n:=by rfl) (hst:(assignEach es X.env).findIdx? (·.1)=none:=by rfl):PG X (.Tuple es k pos) (gTup X.K n t):=by
 intro pins s σ H v u Q I r hw
 obtain⟨a,xs,e1,hq,hl,hw⟩:=hw
 subst e1
 cases r
 obtain⟨its,rv,ht,hz⟩:=I.tuple hq
 refine assign_Tuple_tuple (I.ok.hd hc) ht (by simp[hn,← hl,rv.length]) hst fun h' hx=>?_
 have I1:Inv X pins σ H {s with heap:=h'}:=I.kept (t':=s.toks) fun b o e=>hx b o (Nat.ne_of_lt (Heap.lt_size e)) e
 exact h pins _ σ H xs _ Q I1 (by simpa using rv) hw
def gSub(to ti:TE)(t:TSet):TG:=fun v σ H Q=>to σ H fun o H1=>ti σ H1 fun i H2=>t o i v H2 fun H3=>Q σ H3
theorem zbR{o i:Expr}{to ti:TE}{t:TSet}(ho:PE X o to)(hi:PE X i ti)(hs:PSet X t)
  (ha:∀ v,assign (.Subscript o i pos) X.env v=(do
   let ov ← holding [v] (eval o X.env)
   let iv ← holding [v,ov] (eval i X.env)
   standAt pos
   holding [v,ov,iv] (setItem ov iv v)
   release [v,ov,iv] []):=by intro _;rfl):PG X (.Subscript o i pos) (gSub to ti t):=by
 intro pins s σ H v u Q I r h
 rw[ha]
 refine wpAny_bind (wpAny_holding (thn (ho pins s σ H _ I h) fun ov s1 zgT=>?_))
 obtain⟨x,H1,I1,r1,q1⟩:=zgT
 refine wpAny_bind (wpAny_holding (thn (hi pins s1 σ H1 _ I1 q1) fun iv s2 zgU=>?_))
 obtain⟨y,H2,I2,r2,q2⟩:=zgU
 refine wpAny_bind (wpAny_standAt (wpAny_bind (wpAny_holding (thn (hs pins s2 σ H2 x y v ov iv u _ I2 r1 r2 r q2) fun _ s3 zgV=>?_))))
 obtain⟨H3,I3,q3⟩:=zgV
 exact wpAny_release ⟨σ,H3,I3,q3⟩
def tAsg(te:TE)(g:TG):TS:=fun D σ H=>te σ H fun x H1=>g x σ H1 D.nx
theorem z9h{tg e:Expr}{te:TE}{g:TG}(he:PE X e te)(hg:PG X tg g)(hs:swapsWithSole [tg] e pos.line X.env=pure false:=by rfl)(hw:swappedStores [tg] e X.env=pure none:=by rfl)
  (h1:(assignEach [tg] X.env).map (·.2)=[assign tg X.env]:=by rfl):PS X (.Assign [tg] e pos) (tAsg te g):=by
 intro pins s σ H D I h
 refine wpAny_Assign_stores (thn (he pins s σ H _ I h) fun v s1 zgW=>?_) hs hw
 obtain⟨x,H1,I1,r1,q1⟩:=zgW
 rw[h1]
 exact thn (hg pins s1 σ H1 x v _ I1 r1 q1) fun _ s2 q=>q
theorem z2P{i:Nat}{x:Str}{e:Expr}{te:TE}{pos':Pos}(hN:X.N.Nodup)(hi:X.N[i]?=some x)(hx:Loc X.env.scope x)(he:PE X e te)(hs:swapsWith e (some (.Name x pos')) pos.line X.env=pure false:=by rfl)(hf:X.fn x=true∨X.env.scope.names.lookup x=some .local:=by first | exact .inl rfl | exact .inr rfl | assumption) :
  PS X (.Assign [.Name x pos'] e pos) (tAsg te (gName i)):=by
 intro pins s σ H D I h
 refine wpAny_Assign_Name (thn (he pins s σ H _ I h) fun v s1 zgX=>?_) hs
 obtain⟨y,H1,I1,r1,q1⟩:=zgX
 exact z1J I1 hN hi hx r1 (fun s2 I2=>⟨_,H1,I2,q1⟩) hf
def tPar(i j:Nat)(ta:TA):TS:=fun D σ H=>ta σ H fun vs H1=>∃ v w,vs=[v,w]∧D.nx ((σ.set i (some v)).set j (some w)) H1
theorem zdL{i j:Nat}{x y:Str}{a b:Expr}{ta:TA}{px py pt:Pos}{kt k2 pt2}(hc:X.calm=true)(hN:X.N.Nodup)(hi:X.N[i]?=some x)(hj:X.N[j]?=some y)(hij:i≠j)
  (hx:X.env.scope.names.lookup x=some .local) (hy:X.env.scope.names.lookup y=some .local) (ha:PA X [a,b] ta)
  (hw:swappedStores [.Tuple [.Name x px,.Name y py] kt pt] (.Tuple [a,b] k2 pt2) X.env=pure (some [x,y]))
  (hs:swapsWithSole [.Tuple [.Name x px,.Name y py] kt pt] (.Tuple [a,b] k2 pt2) pos.line X.env=pure false:=by rfl) :
  PS X (.Assign [.Tuple [.Name x px,.Name y py] kt pt] (.Tuple [a,b] k2 pt2) pos) (tPar i j ta):=by
 intro pins s σ H D I h
 rw[exec_Assign_arm]
 refine wpAny_bind (wpAny_standAt ?_)
 rw[hs]
 refine wpAny_bind (wpAny_pure ?_)
 rw[if_neg (by decide)]
 refine wpAny_bind (Tuple_ (thn (ha _ pins s σ H _ I h) fun us s1 zgY=>?_))
 obtain⟨vs,H1,I1,r1,q1⟩:=zgY
 obtain⟨v,w,e1,q1⟩:=q1
 subst e1
 obtain⟨u1,u2,rfl,rv,rw'⟩:∃ u1 u2,us=[u1,u2]∧RelV v u1∧RelV w u2:=by
  cases r1 with
  | cons p q =>
   cases q with
   | cons p' q' =>
    cases q'
    exact⟨_,_,rfl,p,p'⟩
 refine wpAny_newObj_type ?_ (by show 2≤sizeLine;decide)
 have I2:Inv X pins σ H1 {s1 with heap:=s1.heap.push {cls:=.type "tuple",data:=.seq [u1,u2].toArray}}:=I1.kept (t':=s1.toks) fun b o e=>Heap.get?_push_of_some _ e
 rw[hw]
 refine wpAny_bind (wpAny_pure ?_)
 show wpAny (model X.prog X.w) X.A (do rule "assign.swapped-stores";let items ← unpackItems (.ref s1.heap.objs.size) 2 none;assignInOrder [fun v=>bindName X.env y v,fun v=>bindName X.env x v] items.reverse;pure Flow.next) _ _ _
 refine wpAny_bind (wpAny_rule (wpAny_bind (unpackItems_tuple (items:=#[u1,u2]) (I.ok.hd hc) (IsTup.new s1.heap _) fun h' hx'=>?_)))
 have I3:=I2.kept (h':=h') (t':=s1.toks) fun b o e=>hx' b o (Nat.ne_of_lt (Heap.lt_size e)) e
 show wpAny _ _ (assignInOrder [fun v=>bindName X.env y v,fun v=>bindName X.env x v] [u2,u1] >>= fun _=>pure Flow.next) _ _ _
 refine wpAny_bind (assignInOrder_cons (wpAny_bindName (z1J I3 hN hj (.inl hy) rw' (fun s2 I4=>?_) (.inr hy))))
 refine assignInOrder_cons (wpAny_bindName (z1J I4 hN hi (.inl hx) rv (fun s3 I5=>assignInOrder_nil (wpAny_pure ?_)) (.inr hx)))
 rw[List.set_comm _ _ (Ne.symm hij)]at I5
 exact⟨_,H1,I5,q1⟩
def tAug(i:Nat)(te:TE)(ti:TIp):TS:=fun D σ H=>∃ x,σ[i]?=some (some x)∧te σ H fun y H1=>ti x y H1 fun z H2=>D.nx (σ.set i (some z)) H2
theorem zdM{i:Nat}{x:Str}{e:Expr}{te:TE}{op:Operator}{ti:TIp}{pos':Pos}(hN:X.N.Nodup)(hi:X.N[i]?=some x)(hx:Loc X.env.scope x)(he:PE X e te)(ho:PIp X op ti)(hf:X.fn x=true∨X.env.scope.names.lookup x=some .local:=by first | exact .inl rfl | exact .inr rfl | assumption) :
  PS X (.AugAssign (.Name x pos') op e pos) (tAug i te ti):=by
 intro pins s σ H D I h
 obtain⟨v,e1,h⟩:=h
 obtain⟨m,hn,hl⟩:=I.loc
 have vis:Vis X.env.scope x:=by rcases hx with k | k;exact .inl k;exact .inr (.inl k)
 obtain⟨u,r,l⟩:=hl i x v hi e1 vis
 refine wpAny_AugAssign_Name ?_
 have go:wpAny (model X.prog X.w) X.A (eval e X.env) (fun w s₂=>wpAny (model X.prog X.w) X.A (inplaceOp op u w) (fun r s₃=>wpAny (model X.prog X.w) X.A (storeName X.env x r) (fun _=>SP X pins D .next) X.xe s₃) X.xe s₂) X.xe s:=by
  refine thn (he pins s σ H _ I h) fun w s1 zgZ=>?_
  obtain⟨y,H1,I1,r1,q1⟩:=zgZ
  refine thn (ho pins s1 σ H1 v y u w _ I1 r r1 q1) fun z s2 zh0=>?_
  obtain⟨zv,H2,I2,r2,q2⟩:=zh0
  exact z1J I2 hN hi hx r2 (fun s3 I3=>⟨_,H2,I3,q2⟩) hf
 rcases l with ⟨hk,hm⟩ | ⟨hk,c,hc,hcell⟩
 ·exact wpAny_loadName_local I.ok.kind hk hn hm go
 ·rcases hk with hk | hk
  ·exact wpAny_loadName_cell I.ok.kind hk hc hcell go
  ·rcases hx with k | k
   ·have:X.env.scope.names.lookup x=some .free:=hk
    rw[k]at this;cases this
   ·have:X.env.scope.names.lookup x=some .free:=hk
    rw[k]at this;cases this
end
section
variable {X:Cx} {pos:Pos}
def tWhile(c:TT)(tb:TS):TS:=fun D σ H=>∃ W:Nat→St→Hp→Prop,(∃ m,W m σ H)∧∀ m σ H,W m σ H →
 c σ H fun b H1=>if b=true then ∃ N:St→Hp→Prop,(∀ σ' H',N σ' H'→∃ m',m' < m∧W m' σ' H')∧tb {D with nx:=N,ct:=N,bk:=D.nx} σ H1 else D.nx σ H1
theorem zaP{c:Expr}{body:List Stmt}{tc:TT}{tb:TS}(hp:PassesOwn (model X.prog X.w) X.A X.env X.xe)(hc:PT X c tc)(hb:PSs X body tb):PS X (.While c body [] pos) (tWhile tc tb):=by
 intro pins s σ H D I h
 obtain⟨W,⟨m0,w0⟩,turn⟩:=h
 refine wpAny_While (codeAny_whileLoop (fun n s'=>NP X pins (W n) s') ?_ m0 ⟨σ,H,I,w0⟩)
 rintro n s1 ⟨σ1,H1,I1,w1⟩
 refine wpAny_passesOwn hp (thn (hc pins s1 σ1 H1 _ I1 (turn n σ1 H1 w1)) fun b s2 zh1=>?_)
 obtain⟨H2,I2,q2⟩:=zh1
 cases b with
 | true =>
  obtain⟨N,hN,q2⟩:=q2
  rw[if_pos rfl]
  refine wpAny_passesOwn hp (thn (hb pins s2 σ1 H2 _ I2 q2) fun f s3 q3=>?_)
  cases f with
  | next =>
   obtain⟨σ3,H3,I3,n3⟩:=q3
   obtain⟨m',hm,w3⟩:=hN σ3 H3 n3
   exact⟨m',hm,σ3,H3,I3,w3⟩
  | cont =>
   obtain⟨σ3,H3,I3,n3⟩:=q3
   obtain⟨m',hm,w3⟩:=hN σ3 H3 n3
   exact⟨m',hm,σ3,H3,I3,w3⟩
  | brk=>exact q3
  | ret v=>exact q3
 | false =>
  rw[if_neg Bool.false_ne_true]
  exact wpAny_execs_nil ⟨σ1,H2,I2,q2⟩
end
structure It where
 go:Nat→Hp→Prop
 yld:Nat→Hp→V→Hp→Prop
 stop:Nat→Hp→Prop
def FpOk(X:Cx)(pins:List (Addr × Obj))(H:Hp)(b:Addr):Prop :=
 H b=none∧b≠X.env.locals∧b ∉ X.fs∧(b∈X.ex∨X.s₀.heap.objs.size≤b)∧(∀ x c,X.env.cells.lookup x=some c→c≠b)∧∀ p∈X.pn++pins,p.1≠b
theorem Inv.fpOk{X:Cx}{pins:List (Addr × Obj)}{σ:St}{H H':Hp}{s:Shared}{b:Addr}(I:Inv X pins σ H s)(hb:s.heap.objs.size≤b)(hn:H' b=none):FpOk X pins H' b:=by
 refine⟨hn,Nat.ne_of_gt (Nat.lt_of_lt_of_le I.lt hb),I.nofs hb,.inr (Nat.le_trans I.sz hb),fun x c e z=>?_,fun p hp z=>?_⟩
 ·obtain⟨v,q⟩:=I.cell x c e
  exact absurd (Nat.lt_of_lt_of_le q.lt (by rw[z];exact hb)) (Nat.lt_irrefl _)
 ·exact absurd (Nat.lt_of_lt_of_le (Heap.lt_size (I.pin p hp).1) (by rw[z];exact hb)) (Nat.lt_irrefl _)
inductive Yl(X:Cx)(pins:List (Addr × Obj))(σ:St)(J:It)(i:Nat)(H:Hp)(fp:List Addr)(tn:Nat→Heap→Prop)(u:Value)(s2:Shared):Prop
 | mk (x:V) (H':Hp) (h0:Inv X pins σ H' s2) (h1:RelV x u) (h2:J.yld i H x H') (h3:tn (i + 1) s2.heap) (h4:∀ b∈fp,H' b=none)
inductive ForI(X:Cx)(pins:List (Addr × Obj))(fp:List Addr)(tn:Nat→Heap→Prop)(W:Nat→Nat→St→Hp→Prop)(n:Nat)(s':Shared):Prop
 | mk (i:Nat) (σ':St) (H':Hp) (h0:Inv X pins σ' H' s') (h1:tn i s'.heap) (h2:∀ b∈fp,H' b=none) (h3:W i n σ' H')
structure Turn(P:Program)(w:World)(K:PySem.W.Frag)(tg:Expr)(J:It)(fp:List Addr)(it:Addr)(tn:Nat→Heap→Prop):Prop where
 mem:it∈fp
 obj:∀ i h,tn i h→∀ b∈fp,∃ o,h.get? b=some o∧∀ v,o.data≠.cell v
 keep:∀ i h h',tn i h→(∀ b∈fp,∀ o,h.get? b=some o→h'.get? b=some o)→tn i h'
 item:∀ (X:Cx),X.prog=P→X.w=w→X.K=K→X.calm=true→∀ (i:Nat) (pins:List (Addr × Obj)) (s:Shared) (σ:St) (H:Hp) (E:Value→Shared→Prop),Inv X pins σ H s→(∀ b∈fp,FpOk X pins H b)→tn i s.heap→J.go i H →
  wpAny (model P w) X.A (pyNext (.ref it)) (fun r s1=>∃ u,r=some u ∧
   wpAny (model P w) X.A (letOwnedTupleGo tg (.ref it) u) (fun _ s2=>Yl X pins σ J i H fp tn u s2) E s1) E s
 done:∀ (X:Cx),X.prog=P→X.w=w→X.K=K→X.calm=true→∀ (i:Nat) (pins:List (Addr × Obj)) (s:Shared) (σ:St) (H:Hp) (E:Value→Shared→Prop),Inv X pins σ H s→(∀ b∈fp,FpOk X pins H b)→tn i s.heap→J.stop i H →
  wpAny (model P w) X.A (pyNext (.ref it)) (fun r s1=>r=none∧Inv X pins σ H s1) E s
 self:∀ (A:Around) (i:Nat) (s:Shared) (Q:Value→Shared→Prop) (E:Value→Shared→Prop),tn i s.heap→Q (.ref it) s→wpAny (model P w) A (pyIter (.ref it)) Q E s
abbrev TI:=St→Hp→(It→Hp→Prop)→Prop
inductive PIE(X:Cx)(pins:List (Addr × Obj))(σ:St)(tg:Expr)(R:It→Hp→Prop)(itv:Value)(s2:Shared):Prop
 | mk (it:Addr) (fp:List Addr) (tn:Nat→Heap→Prop) (J:It) (H':Hp) (h0:itv=.ref it) (h1:Inv X pins σ H' s2) (h2:Turn X.prog X.w X.K tg J fp it tn) (h3:tn 0 s2.heap) (h4:(∀ b∈fp,FpOk X pins H' b)) (h5:R J H')
def PI(X:Cx)(tg iter:Expr)(wi:TI):Prop :=
 ∀ (pins:List (Addr × Obj)) (s:Shared) (σ:St) (H:Hp) (R:It→Hp→Prop),Inv X pins σ H s→wi σ H R →
  wpAny (model X.prog X.w) X.A (eval iter X.env) (fun v s1=>wpAny (model X.prog X.w) X.A (pyIter v) (PIE X pins σ tg R) X.xe s1) X.xe s
theorem zaQ{M:Model}{A:Around}{E:Value→Shared→Prop}{s:Shared}{tg:Expr}{it:Addr}{u:Value}{o:Obj}{n:String}{vs:Array Value}{Q:Unit→Shared→Prop}(ho:s.heap.get? it=some o)(hc:o.cls=.type n)(hd:o.data=.fields vs)
    (hn:["enumerate","zip","dict_itemiterator","dict_reverseitemiterator","odict_iterator","itertools.zip_longest","itertools.pairwise"].contains n=false) (hQ:Q () s):wpAny M A (letOwnedTupleGo tg (.ref it) u) Q E s:=by
  unfold letOwnedTupleGo
  cases tg <;> first
    | exact wpAny_pure hQ
    | (cases u <;> first
        | exact wpAny_pure hQ
        | (refine wpAny_bind (wpAny_load ho ?_)
           rw[hc,hd]
           show wpAny M A (if (["enumerate","zip","dict_itemiterator","dict_reverseitemiterator","odict_iterator","itertools.zip_longest","itertools.pairwise"].contains n && vs[0]? == some (rawInt _))=true then _ else _) Q E s
           rw[if_neg (by intro h;rw[hn,Bool.false_and]at h;cases h)]
           exact wpAny_pure hQ))
def Itl(K:PySem.W.Frag)(a:Addr):It :=
 ⟨fun i H=>∃ xs x,SqL K H a xs∧xs[i]?=some x,fun i H x H'=>H'=H∧∀ xs,SqL K H a xs→xs[i]?=some x,fun i H=>∃ xs,SqL K H a xs∧xs.length≤i⟩
def Itt(K:PySem.W.Frag)(a:Addr):It :=
 ⟨fun i H=>∃ xs x,SqT K H a xs∧xs[i]?=some x,fun i H x H'=>H'=H∧∀ xs,SqT K H a xs→xs[i]?=some x,fun i H=>∃ xs,SqT K H a xs∧xs.length≤i⟩
def Itr(lo:Int)(n:Nat):It:=⟨fun i _=>i < n,fun i H x H'=>H'=H∧x=.int (lo + i),fun i _=>n≤i⟩
theorem z9i{P:Program}{w:World}{K:PySem.W.Frag}{tg:Expr}(a it:Addr):Turn P w K tg (Itl K a) [it] it (fun i h=>h.IsListIter it a i) where
 mem:=by simp
 obj:=fun i h st b hb=>by
  have e:b=it:=by simpa using hb
  subst e
  obtain⟨o,e,c,d⟩:=st
  exact⟨o,e,fun v z=>by rw[d]at z;cases z⟩
 keep:=fun i h h' st k=>st.at fun o e=>k it (by simp) o e
 item:=by
  intro X hP hw hK hc i pins s σ H E I hf st hg
  subst hP hw hK
  obtain⟨xs,x,hq,hx⟩:=hg
  obtain⟨its,rv,p,hz⟩:=I.list hq
  obtain⟨u,hu,ru⟩:=rv.get hx
  obtain⟨f0,f1,f2,f3,f4,f5⟩:=hf it (by simp)
  refine wpAny_pyNext_list_item st p.isList (x:=u) (by simpa using hu) fun h' st' sb=>?_
  have I1:Inv X pins σ H {s with heap:=h'}:=I.turned (t':=s.toks) (fun b o hb e=>(sb.2 b hb).trans e) f0 f1 f3 f4 f5
  obtain⟨o,e,c,d⟩:=id st'
  exact⟨u,rfl,zaQ (s:={s with heap:=h'}) e c d (by decide) ⟨x,H,I1,ru,⟨rfl,fun ys hy=>by rw[I.list_inj hy hq];exact hx⟩,st',fun b hb=>(hf b hb).1⟩⟩
 done:=by
  intro X hP hw hK hc i pins s σ H E I hf st hg
  subst hP hw hK
  obtain⟨xs,hq,hx⟩:=hg
  obtain⟨its,rv,p,hz⟩:=I.list hq
  obtain⟨f0,f1,f2,f3,f4,f5⟩:=hf it (by simp)
  have hl:=rv.length
  exact wpAny_pyNext_list_end (I.ok.hd hc) st p.isList (by simp;omega) fun h' eb=>⟨rfl,I.turned (t':=s.toks) (fun b o hb e=>eb b o hb e) f0 f1 f3 f4 f5⟩
 self:=fun _ _ _ _ _ st h=>wpAny_pyIter_listiter st h
theorem z8E{P:Program}{w:World}{K:PySem.W.Frag}{tg:Expr}(a it:Addr):Turn P w K tg (Itt K a) [it] it (fun i h=>h.IsTupleIter it a i) where
 mem:=by simp
 obj:=fun i h st b hb=>by
  have e:b=it:=by simpa using hb
  subst e
  obtain⟨o,e,c,d⟩:=st
  exact⟨o,e,fun v z=>by rw[d]at z;cases z⟩
 keep:=fun i h h' st k=>st.at fun o e=>k it (by simp) o e
 item:=by
  intro X hP hw hK hc i pins s σ H E I hf st hg
  subst hP hw hK
  obtain⟨xs,x,hq,hx⟩:=hg
  obtain⟨its,rv,p,hz⟩:=I.tuple hq
  obtain⟨u,hu,ru⟩:=rv.get hx
  obtain⟨f0,f1,f2,f3,f4,f5⟩:=hf it (by simp)
  refine wpAny_pyNext_tuple_item st (show s.heap.IsTuple a its.toArray from p) (x:=u) (by simpa using hu) fun h' st' sb=>?_
  have I1:Inv X pins σ H {s with heap:=h'}:=I.turned (t':=s.toks) (fun b o hb e=>(sb.2 b hb).trans e) f0 f1 f3 f4 f5
  obtain⟨o,e,c,d⟩:=id st'
  exact⟨u,rfl,zaQ (s:={s with heap:=h'}) e c d (by decide) ⟨x,H,I1,ru,⟨rfl,fun ys hy=>by rw[I.tuple_inj hy hq];exact hx⟩,st',fun b hb=>(hf b hb).1⟩⟩
 done:=by
  intro X hP hw hK hc i pins s σ H E I hf st hg
  subst hP hw hK
  obtain⟨xs,hq,hx⟩:=hg
  obtain⟨its,rv,p,hz⟩:=I.tuple hq
  obtain⟨f0,f1,f2,f3,f4,f5⟩:=hf it (by simp)
  have hl:=rv.length
  exact wpAny_pyNext_tuple_end (I.ok.hd hc) st (show s.heap.IsTuple a its.toArray from p) (by simp;omega) fun h' eb=>⟨rfl,I.turned (t':=s.toks) (fun b o hb e=>eb b o hb e) f0 f1 f3 f4 f5⟩
 self:=fun _ _ _ _ _ st h=>wpAny_pyIter_tupleiter st h
theorem z8F{P:Program}{w:World}{K:PySem.W.Frag}{tg:Expr}(it:Addr)(lo:Int)(n:Nat):Turn P w K tg (Itr lo n) [it] it (fun i h=>IsRangeIter h it (lo + (i:Nat) * 1) ((n:Int) - (i:Nat)) 1) where
 mem:=by simp
 obj:=fun i h st b hb=>by
  have e:b=it:=by simpa using hb
  subst e
  exact⟨_,st,fun v z=>by
   have z':Data.fields _=Data.cell v:=z
   cases z'⟩
 keep:=fun i h h' st k=>k it (by simp) _ st
 item:=by
  intro X hP hw hK hc i pins s σ H E I hf st hg
  subst hP hw hK
  obtain⟨f0,f1,f2,f3,f4,f5⟩:=hf it (by simp)
  have W:=Walks.range (prog:=X.prog) (w:=X.w) (I.ok.hd hc) it lo 1 n
  refine W.item i s _ _ hg st fun v h' tk hv st' kk=>?_
  obtain⟨t,rfl⟩:=hv
  have I1:Inv X pins σ H {s with heap:=h',toks:=tk}:=I.turned (fun b o hb e=>kk b o (by simpa using hb) e) f0 f1 f3 f4 f5
  refine⟨_,rfl,zaQ (s:={s with heap:=h',toks:=tk}) (n:="range_iterator") st' rfl rfl (by decide) ⟨.int (lo + i),H,I1,⟨t,?_⟩,⟨rfl,rfl⟩,st',fun b hb=>(hf b hb).1⟩⟩
  rw[Int.mul_one]
 done:=by
  intro X hP hw hK hc i pins s σ H E I hf st hg
  subst hP hw hK
  obtain⟨f0,f1,f2,f3,f4,f5⟩:=hf it (by simp)
  exact wpAny_pyNext_range_end (I.ok.hd hc) st (by have:n≤i:=hg;omega) fun h' eb=>⟨rfl,I.turned (t':=s.toks) (fun b o hb e=>eb b o hb e) f0 f1 f3 f4 f5⟩
 self:=fun _ _ _ _ _ st h=>wpAny_pyIter_rangeiter st h
end L2
namespace L2
open PySem PySem.Spec PyProof.Rows
section
variable {X:Cx} {tg:Expr}
theorem z82{pins:List (Addr × Obj)}{σ:St}{H:Hp}{s:Shared}{R:It→Hp→Prop}{E:Value→Shared→Prop}{lo hi:Int}{t u v:Tok}{tk:Nat}(I:Inv X pins σ H s)(h1:-(2 ^ 62)≤lo)(h2:lo < 2 ^ 62)(h3:-(2 ^ 62)≤hi)(h4:hi < 2 ^ 62)
  (q:R (Itr lo (hi - lo).toNat) H):wpAny (model X.prog X.w) X.A (pyIter (.ref s.heap.objs.size)) (PIE X pins σ tg R) E {s with heap:=s.heap.push {cls:=.type "range",data:=.fields #[.int lo t,.int hi u,.int 1 v]},toks:=tk}:=by
 refine wpAny_pyIter_range (IsRange.new ..) (small_one h1 h2 h3 h4) ?_
 have I1:Inv X pins σ H {s with heap:=s.heap.push {cls:=.type "range",data:=.fields #[.int lo t,.int hi u,.int 1 v]},toks:=tk}:=I.kept fun b o e=>Heap.get?_push_of_some _ e
 refine⟨(s.heap.push {cls:=.type "range",data:=.fields #[.int lo t,.int hi u,.int 1 v]}).objs.size,[(s.heap.push {cls:=.type "range",data:=.fields #[.int lo t,.int hi u,.int 1 v]}).objs.size],_,_,H,rfl,
  I1.kept (t':=tk) fun b o e=>Heap.get?_push_of_some _ e,z8F _ lo (hi - lo).toNat,?_,fun b hb=>?_,q⟩
 ·have e1:lo + ((0:Nat):Int) * 1=lo:=by simp
  have e2:(((hi - lo).toNat:Nat):Int) - ((0:Nat):Int)=Builtin.Range.rangeSize lo hi 1:=by rw[rangeSize_one];split <;> omega
  show IsRangeIter _ _ (lo + ((0:Nat):Int) * 1) ((((hi - lo).toNat:Nat):Int) - ((0:Nat):Int)) 1
  rw[e1,e2]
  exact Heap.get?_push_size _ rfl
 ·have e:b=(s.heap.push {cls:=.type "range",data:=.fields #[.int lo t,.int hi u,.int 1 v]}).objs.size:=by simpa using hb
  subst e
  exact I1.fpOk (Nat.le_refl _) (I1.hok.fresh (Nat.le_refl _))
def iRng1(ta:TA):TI:=fun σ H R=>ta σ H fun vs H1=>∃ j:Int,vs=[.int j]∧-(2 ^ 62)≤j∧j < 2 ^ 62∧R (Itr 0 j.toNat) H1
def iRng2(ta:TA):TI:=fun σ H R=>ta σ H fun vs H1=>∃ i j:Int,vs=[.int i,.int j]∧(-(2 ^ 62)≤i∧i < 2 ^ 62∧-(2 ^ 62)≤j∧j < 2 ^ 62)∧R (Itr i (j - i).toNat) H1
theorem z9j{a:Expr}{ta:TA}{p pos:Pos}(hg:Gl X "range")(hm:X.mg "range"=none)(ha:PA X [a] ta)(hs:starEach [a] X.env=[(false,eval a X.env)]:=by rfl):PI X tg (.Call (.Name "range" p) [a] [] pos) (iRng1 ta):=by
 intro pins s σ H R I h
 refine Call_ (z3N I hg hm boot_range (PyProof.Rows.callWith_type1 (thn (ha pos pins s σ H _ I h) fun us s1 zh2=>?_) hs rfl))
 obtain⟨vs,H1,I1,r1,q1⟩:=zh2
 obtain⟨j,e,q1,q2,q⟩:=q1
 subst e
 cases r1 with
 | cons r rr =>
  cases rr
  obtain⟨t,rfl⟩:=r
  exact call_range_1 (z82 I1 (by omega) (by omega) q1 q2 (by simpa using q))
theorem z9k{a b:Expr}{ta:TA}{p pos:Pos}(hg:Gl X "range")(hm:X.mg "range"=none)(ha:PA X [a,b] ta)(hs:starEach [a,b] X.env=[(false,eval a X.env),(false,eval b X.env)]:=by rfl)(hs2:starEach [b] X.env=[(false,eval b X.env)]:=by rfl) :
  PI X tg (.Call (.Name "range" p) [a,b] [] pos) (iRng2 ta):=by
 intro pins s σ H R I h
 refine Call_ (z3N I hg hm boot_range (PyProof.Rows.callWith_type1 (thn (ha pos pins s σ H _ I h) fun us s1 zh3=>?_) (by rw[hs,hs2]) (by rw[hs2];rfl)))
 obtain⟨vs,H1,I1,r1,q1⟩:=zh3
 obtain⟨i,j,e,⟨q1,q2,q3,q4⟩,q⟩:=q1
 subst e
 cases r1 with
 | cons r rr =>
  cases rr with
  | cons r' rr =>
   cases rr
   obtain⟨t,rfl⟩:=r
   obtain⟨t',rfl⟩:=r'
   exact call_range_2 (z82 I1 q1 q2 q3 q4 q)
def tFor(wi:TI)(g:TG)(tb:TS):TS:=fun D σ H=>wi σ H fun J H1=>∃ W:Nat→Nat→St→Hp→Prop,(∃ m,W 0 m σ H1)∧∀ i m σ H,W i m σ H →
 (J.stop i H∧D.nx σ H)∨(J.go i H∧∃ N:St→Hp→Prop,(∀ σ' H',N σ' H'→∃ m',m' < m∧W (i + 1) m' σ' H')∧∀ x H',J.yld i H x H'→g x σ H' fun σ2 H2=>tb {D with nx:=N,ct:=N,bk:=D.nx} σ2 H2)
def pinsAt(fp:List Addr)(h:Heap):List (Addr × Obj):=fp.filterMap fun b=>(h.get? b).map fun o=>(b,o)
theorem z3b{fp:List Addr}{h:Heap}{b:Addr}{o:Obj}(hb:b∈fp)(e:h.get? b=some o):(b,o)∈pinsAt fp h:=List.mem_filterMap.mpr ⟨b,hb,by rw[e];rfl⟩
theorem z9l{fp:List Addr}{h:Heap}{p:Addr × Obj}(hp:p∈pinsAt fp h):p.1∈fp∧h.get? p.1=some p.2:=by
 obtain⟨b,hb,e⟩:=List.mem_filterMap.mp hp
 cases q:h.get? b with
 | none=>rw[q]at e;cases e
 | some o =>
  rw[q]at e
  have e':(b,o)=p:=Option.some.inj e
  subst e'
  exact⟨hb,q⟩
theorem Inv.pinned{pins:List (Addr × Obj)}{σ:St}{H:Hp}{s:Shared}{fp:List Addr}(I:Inv X pins σ H s)(hf:∀ b∈fp,FpOk X pins H b)(ho:∀ b∈fp,∃ o,s.heap.get? b=some o∧∀ v,o.data≠.cell v):Inv X (pins++pinsAt fp s.heap) σ H s :=
 I.pins_of fun p hp=>(List.mem_append.mp hp).elim (fun z=>I.pin p (List.mem_append_right _ z)) fun z=>by
  obtain⟨hb,e⟩:=z9l z
  obtain⟨f0,f1,f2,_⟩:=hf p.1 hb
  obtain⟨o,e',d⟩:=ho p.1 hb
  rw[e]at e';cases e'
  exact⟨e,f0,f1,f2,d⟩
theorem Inv.unpinned{pins pl:List (Addr × Obj)}{σ:St}{H:Hp}{s:Shared}(I:Inv X (pins++pl) σ H s):Inv X pins σ H s:=I.pins_of fun p hp=>I.pin p (List.mem_append_right _ (List.mem_append_left _ hp))
theorem zdN{iter:Expr}{body:List Stmt}{wi:TI}{g:TG}{tb:TS}{pos:Pos}(hp:PassesOwn (model X.prog X.w) X.A X.env X.xe)(hc:X.calm=true)(hi:PI X tg iter wi)(hg:PG X tg g)(hb:PSs X body tb)
  (hs:∀ x,foldedSetIterable iter X.env x=pure x:=by intro _;rfl):PS X (.For tg iter body [] pos) (tFor wi g tb):=by
 intro pins s σ H D I h
 refine wpAny_For (thn (hi pins s σ H _ I h) fun v s1 h1=>thn h1 fun itv s2 h2=>?_) hs
 obtain⟨it,fp,tn,J,H2,e,I2,T,st2,f2,W,⟨m0,w0⟩,turn⟩:=h2
 subst e
 have stat:∀ {H':Hp},(∀ b∈fp,H' b=none)→∀ b∈fp,FpOk X pins H' b:=fun hn b hb=>⟨hn b hb,(f2 b hb).2⟩
 refine codeAny_forLoop_any (ForI X pins fp tn W) ?_ m0 ⟨0,σ,H2,I2,st2,fun b hb=>(f2 b hb).1,w0⟩
 rintro n s3 ⟨i,σ3,H3,I3,st3,fr3,w3⟩
 rcases turn i n σ3 H3 w3 with ⟨stop,qn⟩ | ⟨go,N,hN,step⟩
 ·refine wpAny_passesOwn hp (thn (T.done X rfl rfl rfl hc i pins s3 σ3 H3 X.xe I3 (stat fr3) st3 stop) fun r s4 ⟨hr,I4⟩=>?_)
  subst hr
  exact wpAny_execs_nil ⟨σ3,H3,I4,qn⟩
 ·refine wpAny_passesOwn hp (thn (T.item X rfl rfl rfl hc i pins s3 σ3 H3 X.xe I3 (stat fr3) st3 go) fun r s4 ⟨u,hr,h4⟩=>?_)
  subst hr
  refine wpAny_passesOwn hp (thn h4 fun _ s5 zh4=>?_)
  obtain⟨x,H5,I5,r5,y5,st5,fr5⟩:=zh4
  have I5':=I5.pinned (stat fr5) (T.obj _ _ st5)
  refine wpAny_passesOwn hp (thn (hg _ s5 σ3 H5 x u _ I5' r5 (step x H5 y5)) fun _ s6 zh5=>?_)
  obtain⟨σ6,H6,I6,q6⟩:=zh5
  refine wpAny_passesOwn hp (thn (hb _ s6 σ6 H6 _ I6 q6) fun f s7 q7=>?_)
  have again:∀ {σ7:St} {H7:Hp},Inv X (pins++pinsAt fp s5.heap) σ7 H7 s7→N σ7 H7→∃ m,m < n∧ForI X pins fp tn W m s7:=fun{σ7 H7} I7 n7=>by
   obtain⟨m',hm,w7⟩:=hN σ7 H7 n7
   refine⟨m',hm,i + 1,σ7,H7,I7.unpinned,T.keep _ _ _ st5 fun b hb o e=>(I7.pin (b,o) (List.mem_append_right _ (List.mem_append_right _ (z3b hb e)))).1,fun b hb=>?_,w7⟩
   obtain⟨o,e,d⟩:=T.obj _ _ st5 b hb
   exact(I7.pin (b,o) (List.mem_append_right _ (List.mem_append_right _ (z3b hb e)))).2.1
  cases f with
  | next=>obtain⟨σ7,H7,I7,n7⟩:=q7;exact again I7 n7
  | cont=>obtain⟨σ7,H7,I7,n7⟩:=q7;exact again I7 n7
  | brk=>obtain⟨σ7,H7,I7,q7⟩:=q7;exact⟨σ7,H7,I7.unpinned,q7⟩
  | ret v=>obtain⟨x7,σ7,H7,I7,r7,q7⟩:=q7;exact⟨x7,σ7,H7,I7.unpinned,r7,q7⟩
end
end L2
namespace L2
open PySem PySem.Spec PyProof.Rows
abbrev R2:=V→V→Hp→VK→Prop
def OpR(X:Cx)(f:Value→Value→Sem Value)(r:R2):Prop :=
 ∀ (pins:List (Addr × Obj)) (s:Shared) (σ:St) (H:Hp) (x y:V) (v u:Value) (Q:VK),Inv X pins σ H s→RelV x v→RelV y u→r x y H Q →
  wpAny (model X.prog X.w) X.A (f v u) (EP X pins σ Q) X.xe s
def UnR(X:Cx)(f:Value→Sem Value)(r:V→Hp→VK→Prop):Prop :=
 ∀ (pins:List (Addr × Obj)) (s:Shared) (σ:St) (H:Hp) (x:V) (v:Value) (Q:VK),Inv X pins σ H s→RelV x v→r x H Q →
  wpAny (model X.prog X.w) X.A (f v) (EP X pins σ Q) X.xe s
def CallR(X:Cx)(f:Value)(r:List V→Hp→VK→Prop):Prop :=
 ∀ (pins:List (Addr × Obj)) (s:Shared) (σ:St) (H:Hp) (xs:List V) (us:List Value) (Q:VK),Inv X pins σ H s→Vals xs us→r xs H Q →
  wpAny (model X.prog X.w) X.A (call f us) (EP X pins σ Q) X.xe s
def TruR(X:Cx)(r:V→Hp→(Bool→Hp→Prop)→Prop):Prop :=
 ∀ (pins:List (Addr × Obj)) (s:Shared) (σ:St) (H:Hp) (x:V) (v:Value) (Q:Bool→Hp→Prop),Inv X pins σ H s→RelV x v→r x H Q →
  wpAny (model X.prog X.w) X.A (truthy v) (TP X pins σ Q) X.xe s
def tOp(r:R2)(ta tb:TE):TE:=fun σ H Q=>ta σ H fun x H1=>tb σ H1 fun y H2=>r x y H2 Q
def tUn(r:V→Hp→VK→Prop)(ta:TE):TE:=fun σ H Q=>ta σ H fun x H1=>r x H1 Q
def rI(C:Int→Int→Prop)(g:Int→Int→V):R2:=fun x y H Q=>∃ i j,x=.int i∧y=.int j∧C i j∧Q (g i j) H
def rI0(g:Int→Int→V):R2:=fun x y H Q=>∃ i j,x=.int i∧y=.int j∧Q (g i j) H
def rU(g:Int→V):V→Hp→VK→Prop:=fun x H Q=>∃ i,x=.int i∧Q (g i) H
section
variable {X:Cx} {a b c:Expr} {ta tb tc:TE} {pos:Pos}
theorem binT(ha:PE X a ta)(hb:PE X b tb){pins:List (Addr × Obj)}{s:Shared}{σ:St}{H:Hp}{R:V→V→Hp→Prop}(I:Inv X pins σ H s)
  (h:ta σ H fun x H1=>tb σ H1 fun y H2=>R x y H2) {Q:Value→Shared→Prop} {f:Value→Value→Sem Value}
  (hf:∀ v u s2 x y H2,Inv X pins σ H2 s2→RelV x v→RelV y u→R x y H2→wpAny (model X.prog X.w) X.A (f v u) Q X.xe s2) :
  wpAny (model X.prog X.w) X.A (eval a X.env) (fun v s₁=>wpAny (model X.prog X.w) X.A (eval b X.env) (fun u s₂=>wpAny (model X.prog X.w) X.A (f v u) Q X.xe s₂) X.xe s₁) X.xe s:=by
 refine thn (ha pins s σ H _ I h) fun v s1 zh6=>?_
 obtain⟨x,H1,I1,r1,q1⟩:=zh6
 refine thn (hb pins s1 σ H1 _ I1 q1) fun u s2 zh7=>?_
 obtain⟨y,H2,I2,r2,q2⟩:=zh7
 exact hf v u s2 x y H2 I2 r1 r2 q2
theorem zaR{op:Operator}{r:R2}(ho:OpR X (binaryOp op) r)(ha:PE X a ta)(hb:PE X b tb):PE X (.BinOp a op b pos) (tOp r ta tb):=by
 intro pins s σ H Q I h
 exact wpAny_BinOp (binT ha hb I h fun v u s2 x y H2 I2 rx ry q=>ho pins s2 σ H2 x y v u Q I2 rx ry q)
theorem zgy{op:UnaryOp}{r:V→Hp→VK→Prop}(ho:UnR X (unaryOp op) r)(ha:PE X a ta):PE X (.UnaryOp op a pos) (tUn r ta):=by
 intro pins s σ H Q I h
 exact UnaryOp_ (thn (ha pins s σ H _ I h) fun v s1 zh8=>(by obtain⟨x,H1,I1,r1,q1⟩:=zh8;exact ho pins s1 σ H1 x v Q I1 r1 q1))
theorem opI{f:Value→Value→Sem Value}{C:Int→Int→Prop}{g:Int→Int→Int}
  (rule:∀ (i j:Int) (t u:Tok) (s:Shared) (Q:Value→Shared→Prop) (E:Value→Shared→Prop),C i j→Q (.int (g i j) s.toks) {s with toks:=s.toks + 1}→wpAny (model X.prog X.w) X.A (f (.int i t) (.int j u)) Q E s) :
  OpR X f (rI C fun i j=>.int (g i j)):=by
 intro pins s σ H x y v u Q I rx ry h
 obtain⟨i,j,rfl,rfl,hc,q⟩:=h
 obtain⟨t,rfl⟩:=rx
 obtain⟨t',rfl⟩:=ry
 exact rule i j t t' s _ _ hc ⟨.int (g i j),H,I.tok _,⟨_,rfl⟩,q⟩
theorem opI0{f:Value→Value→Sem Value}{g:Int→Int→Int}
  (rule:∀ (i j:Int) (t u:Tok) (s:Shared) (Q:Value→Shared→Prop) (E:Value→Shared→Prop),Q (.int (g i j) s.toks) {s with toks:=s.toks + 1}→wpAny (model X.prog X.w) X.A (f (.int i t) (.int j u)) Q E s) :
  OpR X f (rI0 fun i j=>.int (g i j)):=by
 intro pins s σ H x y v u Q I rx ry h
 obtain⟨i,j,rfl,rfl,q⟩:=h
 obtain⟨t,rfl⟩:=rx
 obtain⟨t',rfl⟩:=ry
 exact rule i j t t' s _ _ ⟨.int (g i j),H,I.tok _,⟨_,rfl⟩,q⟩
theorem opB0{f:Value→Value→Sem Value}{g:Int→Int→Bool}
  (rule:∀ (i j:Int) (t u:Tok) (s:Shared) (Q:Value→Shared→Prop) (E:Value→Shared→Prop),Q (.bool (g i j)) s→wpAny (model X.prog X.w) X.A (f (.int i t) (.int j u)) Q E s) :
  OpR X f (rI0 fun i j=>.bl (g i j)):=by
 intro pins s σ H x y v u Q I rx ry h
 obtain⟨i,j,rfl,rfl,q⟩:=h
 obtain⟨t,rfl⟩:=rx
 obtain⟨t',rfl⟩:=ry
 exact rule i j t t' s _ _ ⟨.bl (g i j),H,I,rfl,q⟩
def CPow(i j:Int):Prop:=0≤j∧j≤1000000∧i.natAbs < 2 ^ 64
theorem zbS:OpR X (binaryOp .Add) (rI0 fun i j=>.int (i + j)):=opI0 fun _ _ _ _ _ _ _ q=>add_int q
theorem zdO:OpR X (binaryOp .Sub) (rI0 fun i j=>.int (i - j)):=opI0 fun _ _ _ _ _ _ _ q=>sub_int q
theorem z9m:OpR X (binaryOp .Mod) (rI (fun _ j=>j≠0) fun i j=>.int (i.fmod j)):=opI fun _ _ _ _ _ _ _ hc q=>mod_int' hc q
theorem zdP:OpR X (binaryOp .Pow) (rI CPow fun i j=>.int (i ^ j.toNat)):=opI fun _ _ _ _ _ _ _ hc q=>pow_int_small hc.1 hc.2.1 hc.2.2 q
theorem zcm:OpR X (inplaceOp .Add) (rI0 fun i j=>.int (i + j)):=opI0 fun _ _ _ _ _ _ _ q=>iadd_int q
theorem zcn:OpR X (inplaceOp .Sub) (rI0 fun i j=>.int (i - j)):=opI0 fun _ _ _ _ _ _ _ q=>isub_int q
theorem unI{f:Value→Sem Value}{g:Int→Int}
  (rule:∀ (i:Int) (t:Tok) (s:Shared) (Q:Value→Shared→Prop) (E:Value→Shared→Prop),Q (.int (g i) s.toks) {s with toks:=s.toks + 1}→wpAny (model X.prog X.w) X.A (f (.int i t)) Q E s) :
  UnR X f (rU fun i=>.int (g i)):=by
 intro pins s σ H x v Q I rx h
 obtain⟨i,rfl,q⟩:=h
 obtain⟨t,rfl⟩:=rx
 exact rule i t s _ _ ⟨.int (g i),H,I.tok _,⟨_,rfl⟩,q⟩
theorem zdQ:UnR X (unaryOp .USub) (rU fun i=>.int (-i)):=unI fun _ _ _ _ _ q=>neg_int q
end
section
variable {X:Cx} {a b c:Expr} {ta tb tc:TE} {pos:Pos}
theorem zbT{pins:List (Addr × Obj)}{σ:St}{H:Hp}{s:Shared}{Q:VK}{k k':Bool}(I:Inv X pins σ H s)(q:Q (.bl k) H)(e:k=k'):EP X pins σ Q (.bool k') s:=by
 subst e
 exact⟨.bl k,H,I,rfl,q⟩
theorem zgz:OpR X (compareOp .Lt) (rI0 fun i j=>.bl (decide (i < j))):=opB0 fun _ _ _ _ _ _ _ q=>lt_int q
theorem zgA:OpR X (compareOp .LtE) (rI0 fun i j=>.bl (decide (i≤j))):=opB0 fun _ _ _ _ _ _ _ q=>le_int q
theorem zgB:OpR X (compareOp .Gt) (rI0 fun i j=>.bl (decide (j < i))):=opB0 fun _ _ _ _ _ _ _ q=>gt_int q
theorem zdR:OpR X (compareOp .GtE) (rI0 fun i j=>.bl (decide (j≤i))):=opB0 fun _ _ _ _ _ _ _ q=>ge_int q
theorem zdS:OpR X (compareOp .Is) (fun x y H Q=>y=.non∧Q (.bl (decide (x=.non))) H):=by
 intro pins s σ H x y v u Q I rx ry h
 obtain⟨rfl,q⟩:=h
 cases ry
 refine is_none_gen (zbT I q ?_)
 cases x <;> first
  | (cases rx;rfl)
  | (obtain⟨t,rfl⟩:=rx;rfl)
theorem zco:OpR X (compareOp .IsNot) (fun x y H Q=>y=.non∧Q (.bl (!decide (x=.non))) H):=by
 intro pins s σ H x y v u Q I rx ry h
 obtain⟨rfl,q⟩:=h
 cases ry
 refine isnot_none_gen (zbT I q ?_)
 cases x <;> first
  | (cases rx;rfl)
  | (obtain⟨t,rfl⟩:=rx;rfl)
theorem OpR.or{f:Value→Value→Sem Value}{r r':R2}(h:OpR X f r)(h':OpR X f r'):OpR X f (fun x y H Q=>r x y H Q∨r' x y H Q):=by
 intro pins s σ H x y v u Q I rx ry q
 rcases q with q | q
 ·exact h pins s σ H x y v u Q I rx ry q
 ·exact h' pins s σ H x y v u Q I rx ry q
theorem nomark(b:Expr){op:CmpOp}(h:op≠.In:=by decide)(h2:op≠.NotIn:=by decide):behindInMarks op b=false:=by
 have e1:(op == CmpOp.In)=false:=by cases op <;> first | rfl | exact absurd rfl h
 have e2:(op == CmpOp.NotIn)=false:=by cases op <;> first | rfl | exact absurd rfl h2
 cases b <;> simp[behindInMarks,e1,e2]
def tTest(t:TE):TT:=fun σ H Q=>t σ H fun x H'=>∃ k,x=.bl k∧Q k H'
theorem zcp{op:CmpOp}{r:R2}(ho:OpR X (compareOp op) r)(ha:PE X a ta)(hb:PE X b tb)(hm:behindInMarks op b=false):PT X (.Compare a [op] [b] pos) (tTest (tOp r ta tb)):=by
 intro pins s σ H Q I h
 refine wpAny_isTrue_Compare1 (thn (ha pins s σ H _ I h) fun v s1 ⟨x,H1,I1,r1,q1⟩=>thn (hb pins s1 σ H1 _ I1 q1) fun u s2 ⟨y,H2,I2,r2,q2⟩ =>
  thn (ho pins s2 σ H2 x y v u _ I2 r1 r2 q2) fun c s3 ⟨z,H3,I3,r3,k,e,q3⟩=>?_) hm
 subst e
 cases r3
 exact wpAny_truthy_bool ⟨H3,I3,q3⟩
def tChain(r r':R2)(ta tb tc:TE):TE:=fun σ H Q=>ta σ H fun x H1=>tb σ H1 fun y H2=>r x y H2 fun z H3=>∃ k,z=.bl k ∧
 (if k=true then tc σ H3 fun w' H4=>r' y w' H4 Q else Q (.bl false) H3)
theorem zaS{op op':CmpOp}{r r':R2}(ho:OpR X (compareOp op) r)(ho':OpR X (compareOp op') r')(ha:PE X a ta)(hb:PE X b tb)(hc:PE X c tc)
  (hm:lastMarks [op,op'] [b,c]=false:=by with_unfolding_all rfl):PE X (.Compare a [op,op'] [b,c] pos) (tChain r r' ta tb tc):=by
 intro pins s σ H Q I h
 refine Compare_chain (thn (ha pins s σ H _ I h) fun v s1 ⟨x,H1,I1,r1,q1⟩=>chain_link (thn (hb pins s1 σ H1 _ I1 q1) fun u s2 ⟨y,H2,I2,r2,q2⟩ =>
  thn (ho pins s2 σ H2 x y v u _ I2 r1 r2 q2) fun d s3 ⟨z,H3,I3,r3,k,e,q3⟩=>?_)) hm
 subst e
 cases r3
 refine wpAny_truthy_bool ?_
 cases k with
 | false=>exact ite_ff ⟨.bl false,H3,I3,rfl,q3⟩
 | true=>exact ite_tt (chain_last (thn (hc pins s3 σ H3 _ I3 q3) fun w' s4 zh9=>(by obtain⟨z',H4,I4,r4,q4⟩:=zh9;exact ho' pins s4 σ H4 y z' u w' Q I4 r2 r4 q4)))
theorem zaT{op op':CmpOp}{r r':R2}(ho:OpR X (compareOp op) r)(ho':OpR X (compareOp op') r')(ha:PE X a ta)(hb:PE X b tb)(hc:PE X c tc)
  (hm:lastMarks [op,op'] [b,c]=false:=by with_unfolding_all rfl):PT X (.Compare a [op,op'] [b,c] pos) (tTest (tChain r r' ta tb tc)):=by
 intro pins s σ H Q I h
 refine isTrue_chain (thn (ha pins s σ H _ I h) fun v s1 ⟨x,H1,I1,r1,q1⟩=>test_link (thn (hb pins s1 σ H1 _ I1 q1) fun u s2 ⟨y,H2,I2,r2,q2⟩ =>
  thn (ho pins s2 σ H2 x y v u _ I2 r1 r2 q2) fun d s3 ⟨z,H3,I3,r3,k,e,q3⟩=>?_)) hm
 subst e
 cases r3
 refine wpAny_truthy_bool ?_
 cases k with
 | false =>
  obtain⟨k',e',q'⟩:=q3
  cases e'
  exact ite_ff ⟨H3,I3,q'⟩
 | true =>
  refine ite_tt (test_last (thn (hc pins s3 σ H3 _ I3 q3) fun w' s4 ⟨z',H4,I4,r4,q4⟩=>thn (ho' pins s4 σ H4 y z' u w' _ I4 r2 r4 q4) fun d' s5 zha=>?_))
  obtain⟨z2,H5,I5,r5,k2,e2,q5⟩:=zha
  subst e2
  cases r5
  exact wpAny_truthy_bool ⟨H5,I5,q5⟩
def TruV(K:PySem.W.Frag)(x:V)(H:Hp)(k:Bool):Prop :=
 match x with
 | .non=>k=false
 | .bl b=>k=b
 | .int i=>k=(i != 0)
 | .str y=>y.length≤sizeLine∧k=((y.length:Int) != 0)
 | .byt y=>y.size≤sizeLine∧k=((y.size:Int) != 0)
 | .ref p=>(∃ xs,SqL K H p xs∧k=!xs.isEmpty)∨(∃ xs,SqT K H p xs∧k=!xs.isEmpty)∨∃ kvs,H p=some (.dK kvs)∧k=!kvs.isEmpty
 | _=>False
theorem z8G{κ:Type}{kvs:List (κ × V)}{vs:List (κ × Value)}(r:KV kvs vs):(!vs.isEmpty)=!kvs.isEmpty:=by
 cases r <;> rfl
theorem z5O{xs:List V}{its:List Value}(r:Vals xs its):(!its.toArray.isEmpty)=!xs.isEmpty:=by
 cases r <;> simp
theorem line63:(sizeLine:Nat) < 2 ^ 63:=by rw[sizeLine_eq];decide
theorem zdT:TruR X (fun x H Q=>∃ k,TruV X.K x H k∧Q k H):=by
 intro pins s σ H x v Q I rx h
 obtain⟨k,e,q⟩:=h
 have hl:=line63
 have hs:sizeLine=16777216:=sizeLine_eq
 cases x with
 | non =>
  cases rx
  have e':k=false:=e
  subst e'
  exact truthy_none ⟨H,I,q⟩
 | bl b =>
  cases rx
  have e':k=b:=e
  subst e'
  exact wpAny_truthy_bool ⟨H,I,q⟩
 | int i =>
  obtain⟨t,rfl⟩:=rx
  have e':k=(i != 0):=e
  subst e'
  exact PySem.P.truthy_int ⟨H,I,q⟩
 | str y =>
  obtain⟨t,rfl⟩:=rx
  obtain⟨hy,e'⟩:y.length≤sizeLine∧k=((y.length:Int) != 0):=e
  subst e'
  exact PySem.P.truthy_str (by omega) ⟨H,I.tok _,q⟩
 | byt y =>
  obtain⟨t,rfl⟩:=rx
  obtain⟨hy,e'⟩:y.size≤sizeLine∧k=((y.size:Int) != 0):=e
  subst e'
  exact PySem.W.truthy_bytes (by omega) ⟨H,I.tok _,q⟩
 | ref p =>
  cases rx
  have e':(∃ xs,SqL X.K H p xs∧k=!xs.isEmpty)∨(∃ xs,SqT X.K H p xs∧k=!xs.isEmpty)∨∃ kvs,H p=some (.dK kvs)∧k=!kvs.isEmpty:=e
  rcases e' with ⟨xs,hx,e'⟩ | ⟨xs,hx,e'⟩ | ⟨kvs,hx,e'⟩
  ·subst e'
   obtain⟨its,r,pl,hz⟩:=I.list hx
   have hlen:=r.length
   exact wpAny_truthy_list pl.isList (by simp only[List.size_toArray];omega) ⟨H,I.tok _,by rw[z5O r];exact q⟩
  ·subst e'
   obtain⟨its,r,pl,hz⟩:=I.tuple hx
   have hlen:=r.length
   exact truthy_tuple pl (by simp only[List.size_toArray];omega) ⟨H,I.tok _,by rw[z5O r];exact q⟩
  ·subst e'
   obtain⟨hz,hS,vs,r,m⟩:kvs.length≤sizeLine∧(p == sysModules)=false∧∃ vs,KV kvs vs∧s.heap.DictOf (mixKind X.prog X.w) p vs:=I.hok p _ hx
   have hlen:kvs.length=vs.length:=Paired.length r
   exact wpAny_truthy_dict hS m (by omega) ⟨H,I.tok _,by rw[z8G r];exact q⟩
 | _=>exact(show False from e).elim
theorem zaU(ha:PE X a ta)(he:∀ whole,isTrue a X.env whole=(do let v ← whole;standAt a.pos;holding [v] (truthy v))) :
  PT X a (fun σ H Q=>ta σ H fun x H'=>∃ k,TruV X.K x H' k∧Q k H'):=by
 intro pins s σ H Q I h
 exact isTrue_plain (thn (ha pins s σ H _ I h) fun v s1 zhb=>(by obtain⟨x,H1,I1,r1,q1⟩:=zhb;exact zdT pins s1 σ H1 x v Q I1 r1 q1)) (he _)
theorem vals1{x:V}{us:List Value}(r:Vals [x] us):∃ u,us=[u]∧RelV x u:=by
 cases r with
 | cons r1 r2=>cases r2;exact⟨_,rfl,r1⟩
theorem vals2{x y:V}{us:List Value}(r:Vals [x,y] us):∃ u w',us=[u,w']∧RelV x u∧RelV y w':=by
 cases r with
 | cons r1 r2 =>
  cases r2 with
  | cons r3 r4=>cases r4;exact⟨_,_,rfl,r1,r3⟩
theorem z9n(hc:X.calm=true):CallR X (.builtin "min") (fun xs H Q=>∃ i j,xs=[.int i,.int j]∧Q (.int (if j < i then j else i)) H):=by
 intro pins s σ H xs us Q I r h
 obtain⟨i,j,rfl,q⟩:=h
 obtain⟨u,w',rfl,⟨t,rfl⟩,⟨t',rfl⟩⟩:=vals2 r
 refine min_two_ints (I.ok.hd hc) fun h' tk k=>⟨_,H,I.kept k,?_,q⟩
 by_cases hj:j < i
 ·rw[if_pos hj,if_pos hj];exact⟨_,rfl⟩
 ·rw[if_neg hj,if_neg hj];exact⟨_,rfl⟩
theorem z9o:CallR X (.type "int") (fun xs H Q=>(∃ i,xs=[.int i]∧Q (.int i) H)∨∃ k,xs=[.bl k]∧Q (.int (if k then 1 else 0)) H):=by
 intro pins s σ H xs us Q I r h
 rcases h with ⟨i,rfl,q⟩ | ⟨k,rfl,q⟩
 ·obtain⟨u,rfl,t,rfl⟩:=vals1 r
  exact call_int_int ⟨.int i,H,I,⟨_,rfl⟩,q⟩
 ·obtain⟨u,rfl,r1⟩:=vals1 r
  cases r1
  exact call_int_bool ⟨.int (if k then 1 else 0),H,I.tok _,⟨_,rfl⟩,q⟩
end
end L2
namespace L2
open PySem PySem.Spec PyProof.Rows
structure ObjM(h:Heap)(x dx C:Addr)(mA:Str→Option Value):Prop where
 obj:h.get? x=some (PySem.W.instObj C dx)
 ns:h.Ns1 dx mA
 ne:dx≠x
theorem z9p{h:Heap}{dx:Addr}{mA:Str→Option Value}(n:h.Ns1 dx mA):∃ od,h.get? dx=some od∧∀ name,PySem.W.lookIn name od=some (mA name):=by
 obtain⟨o,es,ep,ho,hd,hk,_,hm⟩:=n
 refine⟨o,ho,fun name=>?_⟩
 have e:=hm name
 unfold nsFind findBy at e
 rw[← Array.find?_toList]at e
 unfold PySem.W.lookIn
 rw[hd]
 dsimp only
 split
 ·rename_i y q
  rw[q]at e
  exact congrArg some e
 ·rename_i q
  rw[q]at e
  have a:es.toList.any (·.refKey)=false:=by
   rw[List.any_eq_false]
   intro y hy
   obtain⟨z,t,hkey⟩:=hk y (Array.mem_toList_iff.mp hy)
   simp[DictEntry.refKey,hkey]
  have a':¬ es.toList.any (·.refKey)=true:=by rw[a];exact Bool.false_ne_true
  rw[if_neg a']
  exact congrArg some e
theorem ObjM.look{h:Heap}{x dx C:Addr}{mA:Str→Option Value}(I:ObjM h x dx C mA):∃ od,PySem.W.InstAt h x (PySem.W.instObj C dx) C (some od)∧∀ name,PySem.W.lookIn name od=some (mA name) :=
 let ⟨od,ho,hl⟩:=z9p I.ns
 ⟨od,⟨I.obj,rfl,rfl,ho⟩,hl⟩
section
variable {prog:Program} {w:World} {A:Around} {E:Value→Shared→Prop} {s:Shared} {K:PySem.W.Frag} {x dx C f:Addr} {mA:Str→Option Value} {name:Str} {v:Value}
theorem zcq{expr:Bool}{Q:Value→Shared→Prop}(X:K.In s.heap)(I:ObjM s.heap x dx C mA)(hg:PySem.W.plainGet K C name=true)(hh:PySem.W.hasDictIn K C=true)
  (ha:PySem.W.findIn K (.ref C) name=some none) (hv:mA name=some v) (hv':PySem.W.handedIn v=true) (h:Q v {s with toks:=s.toks + 1}) :
  wpAny (model prog w) A (getAttr (.ref x) name expr) Q E s:=by
 obtain⟨od,J,hl⟩:=I.look
 exact PySem.W.get_value X J (PySem.W.plainGet_of hg).1 (PySem.W.findObj_own hh ha rfl (by rw[hl,hv])) hv' h
theorem zaV{pl:Sem Bool}{Q:Value × List Value→Shared→Prop}(X:K.In s.heap)(I:ObjM s.heap x dx C mA)(hg:PySem.W.plainGet K C name=true)
  (hf:PySem.W.findIn K (.ref C) name=some (some (.ref f))) (ht:PySem.W.isFn K (.ref f)=true) (hv:mA name=none) (h:Q (.ref f,[.ref x]) s) :
  wpAny (model prog w) A (getMethod (.ref x) name pl) Q E s:=by
 obtain⟨od,J,hl⟩:=I.look
 exact PySem.W.method_fn X J (PySem.W.plainGet_of hg).1 (PySem.W.plainGet_of hg).2 hf (beq_iff_eq.mp ht) (by show(PySem.W.lookIn name od).map (·.isSome)=some false;rw[hl,hv];rfl) h
theorem zcr{ns:List Str}{Q:Unit→Shared→Prop}(X:K.In s.heap)(I:ObjM s.heap x dx C mA)
  (hs:PySem.W.findIn K (.ref C) "__setattr__"=some (some (.builtin "object.__setattr__"))) (hp:PySem.W.plainOver K C=true) (ht:PySem.W.takerIn K C name=some none) (hh:PySem.W.hasDictIn K C=true)
  (hw:PySem.Within mA ns) (hsz:ns.length≤sizeLine)
  (h:∀ h',ObjM h' x dx C (fun y=>if y=name then some v else mA y)→Heap.SameBut dx s.heap h'→Q () {s with heap:=h',toks:=s.toks + 2}) :
  wpAny (model prog w) A (setAttr (.ref x) name v) Q E s:=by
 obtain⟨od,J,hl⟩:=I.look
 refine PySem.W.set_plain X J hs (PySem.W.osa_open (s:={s with toks:=s.toks + 1}) (r:=none) X J hp ht fun b=>?_)
 obtain⟨cd,hc,hd'⟩:=PySem.W.any_some hh
 have hx:s.heap.get? x=some ⟨.ref C,some dx,.plain,#[]⟩:=I.obj
 refine wpAny_bind (wpAny_pure (wpAny_bind (wpAny_bind (wpAny_loadPart hx (wpAny_bind (PySem.W.Looks.here (s:={s with toks:=s.toks + 1}) (PySem.W.looks_clsIn X hc) ?_))))))
 rw[hd']
 refine wpAny_pure (a:=some dx) (wpAny_bind (wpAny_pure (wpAny_bind ?_)))
 refine wpAny_nsSet1 (s:={s with toks:=s.toks + 1}) I.ns fun h' hn2 hs2=>?_
 obtain⟨oD,esD,epD,hoD,hdD,hcD⟩:=hn2.count (PySem.Within.cons name v hw)
 refine wpAny_bind (wpAny_lookBehind hoD (by rw[hdD];exact pastItsLine_dict (Nat.le_trans hcD (by rw[List.length_cons];omega))) ?_)
 exact wpAny_pure (h _ ⟨(hs2.2 _ (Ne.symm I.ne)).trans I.obj,hn2,I.ne⟩ hs2)
theorem zaW{R:Result→Shared→Prop}{vs:List Value}{kw:List (Str × Value)}(X:K.In s.heap)(hm:PySem.W.makesIn K C=true)
  (hi:PySem.W.findIn K (.ref C) "__init__"=some (some (.ref f))) (hf:PySem.W.typeIn K (.ref f)=some (.type "function"))
  (h:codeAny (model prog w) (A.under (.builtin "type.__call__" ⟨.ref C::vs,kw⟩)) (.call (.ref f) ⟨.ref (s.heap.objs.size + 1)::vs,kw⟩) (PySem.W.InitBack (s.heap.objs.size + 1) R)
   {s with heap:=(s.heap.push PySem.W.emptyDict).push (PySem.W.instObj C s.heap.objs.size)}) :
  codeAny (model prog w) A (.call (.ref C) ⟨vs,kw⟩) R s:=by
 obtain⟨hh,g,d,t,os⟩:=s
 exact PySem.W.make_core (PySem.W.makes_of X hm) (PySem.W.looks_findIn X hi) (fun self=>PySem.W.bind_fn X self hf) (.inl rfl) h
end
def putF(f:Str)(v:V):List (Str × V)→List (Str × V)
 | []=>[(f,v)]
 | (g,x)::r=>if g=f then (g,v)::r else (g,x)::putF f v r
theorem z4Y(f g:Str)(v:V):∀ fs:List (Str × V),(putF f v fs).lookup g=if g=f then some v else fs.lookup g
 | []=>by
  show List.lookup g [(f,v)]=_
  by_cases h:g=f
  ·have hb:(g == f)=true:=beq_iff_eq.mpr h
   simp only[List.lookup,hb,if_pos h]
  ·have hb:(g == f)=false:=beq_eq_false_iff_ne.mpr h
   simp only[List.lookup,hb,if_neg h]
 | (k,x)::r=>by
  have ih:=z4Y f g v r
  rw[show putF f v ((k,x)::r)=(if k=f then (k,v)::r else (k,x)::putF f v r) from rfl]
  by_cases hk:k=f
  ·rw[if_pos hk]
   by_cases h:g=k
   ·have hb:(g == k)=true:=beq_iff_eq.mpr h
    simp only[List.lookup,hb,if_pos (h.trans hk)]
   ·have hb:(g == k)=false:=beq_eq_false_iff_ne.mpr h
    simp only[List.lookup,hb,if_neg (fun e:g=f=>h (e.trans hk.symm))]
  ·rw[if_neg hk]
   by_cases h:g=k
   ·have hb:(g == k)=true:=beq_iff_eq.mpr h
    simp only[List.lookup,hb,if_neg (fun e:g=f=>hk (h.symm.trans e))]
   ·have hb:(g == k)=false:=beq_eq_false_iff_ne.mpr h
    simp only[List.lookup,hb]
    exact ih
theorem z4Z(f:Str)(v:V):∀ fs:List (Str × V),f∈(putF f v fs).map (·.1)∧∀ g,g∈fs.map (·.1)→g∈(putF f v fs).map (·.1)
 | []=>⟨by simp[putF],fun g h=>by simp at h⟩
 | (k,x)::r=>by
  obtain⟨i1,i2⟩:=z4Z f v r
  rw[show putF f v ((k,x)::r)=(if k=f then (k,v)::r else (k,x)::putF f v r) from rfl]
  by_cases hk:k=f
  ·rw[if_pos hk]
   subst hk
   exact⟨by simp,fun g h=>by simpa using h⟩
  ·rw[if_neg hk]
   refine⟨?_,fun g h=>?_⟩
   ·rw[List.map_cons]
    exact List.mem_cons_of_mem _ i1
   ·rw[List.map_cons]at h ⊢
    rcases List.mem_cons.mp h with e | e
    ·exact List.mem_cons.mpr (.inl e)
    ·exact List.mem_cons_of_mem _ (i2 g e)
theorem z3y(f:Str)(v:V):∀ fs:List (Str × V),(putF f v fs).length≤fs.length + 1
 | []=>by simp[putF]
 | (k,x)::r=>by
  have ih:=z3y f v r
  rw[show putF f v ((k,x)::r)=(if k=f then (k,v)::r else (k,x)::putF f v r) from rfl]
  by_cases hk:k=f
  ·rw[if_pos hk,List.length_cons,List.length_cons];omega
  ·rw[if_neg hk,List.length_cons,List.length_cons];omega
theorem RelO.some_of{v:V}{o:Option Value}(r:RelO (some v) o):∃ u,o=some u∧RelV v u:=by
 cases o with
 | none=>exact(show False from r).elim
 | some u=>exact⟨u,rfl,r⟩
theorem RelO.none_of{o:Option Value}(r:RelO none o):o=none:=by
 cases o with
 | none=>rfl
 | some u=>exact(show False from r).elim
theorem z9q{v:V}{u:Value}(r:RelV v u):PySem.W.handedIn u=true:=by
 cases v with
 | non=>cases (show u=Value.none from r);rfl
 | bl b=>cases (show u=Value.bool b from r);rfl
 | int i=>obtain⟨t,e⟩:=(show ∃ t,u=Value.int i t from r);cases e;rfl
 | str x=>obtain⟨t,e⟩:=(show ∃ t,u=Value.str x t from r);cases e;rfl
 | byt b=>obtain⟨t,e⟩:=(show ∃ t,u=Value.bytes b t from r);cases e;rfl
 | flt b=>obtain⟨t,e⟩:=(show ∃ t,u=Value.float b t from r);cases e;rfl
 | ref a=>cases (show u=Value.ref a from r);rfl
 | ty n=>cases (show u=Value.type n from r);rfl
section
variable {P:Program} {w:World} {H H':Hp} {h h':Heap} {a C dx:Addr} {fs fs':List (Str × V)}
theorem z7w(hok:HOk P w H h)(e:H a=some (.ins C dx fs)):∃ mA,ObjM h a dx C mA∧(∀ f,RelO (fs.lookup f) (mA f))∧PySem.Within mA (fs.map (·.1))∧fs.length≤1000∧H dx=some (.own a):=by
 obtain⟨d,z,ne,ob,mA,n,r,q⟩:=(show ObjOk P w H h a (.ins C dx fs) from hok a _ e)
 exact⟨mA,⟨ob,n,ne⟩,r,q,z,d⟩
end
structure Cls(K:PySem.W.Frag)(C:Addr):Prop where
 pg:PySem.W.plainGet K C Str.empty=true
 hd:PySem.W.hasDictIn K C=true
 po:PySem.W.plainOver K C=true
 sa:PySem.W.findIn K (.ref C) "__setattr__"=some (some (.builtin "object.__setattr__"))
theorem Cls.get{K:PySem.W.Frag}{C:Addr}(c:Cls K C)(f:Str):PySem.W.plainGet K C f=true:=c.pg
def NoAttr(K:PySem.W.Frag)(C:Addr)(f:Str):Prop:=PySem.W.findIn K (.ref C) f=some none
theorem NoAttr.taker{K:PySem.W.Frag}{C:Addr}{f:Str}(n:NoAttr K C f):PySem.W.takerIn K C f=some none:=by
 unfold PySem.W.takerIn
 rw[show PySem.W.findIn K (.ref C) f=some none from n]
 rfl
structure Con(K:PySem.W.Frag)(C:Addr)(f:Str)(v:V)(u:Value):Prop where
 at_:PySem.W.findIn K (.ref C) f=some (some u)
 rel:RelV v u
 get:PySem.W.specialIn K u "__get__"=some none
 cp:PySem.W.copiedNames.contains f=false
structure Meth(K:PySem.W.Frag)(C:Addr)(m:Str)(f:Addr):Prop where
 at_:PySem.W.findIn K (.ref C) m=some (some (.ref f))
 fn:PySem.W.isFn K (.ref f)=true
 kp:PySem.W.keepIn K (.ref f)=true
section
variable {X:Cx} {pins:List (Addr × Obj)} {σ:St} {H:Hp} {s:Shared} {a C dx:Addr} {fs:List (Str × V)} {f:Str} {v:V} {A:Around} {E:Value→Shared→Prop}
theorem z8H{b:Bool}{Q:Value→Shared→Prop}(I:Inv X pins σ H s)(e:H a=some (.ins C dx fs))(c:Cls X.K C)(n:NoAttr X.K C f)(l:fs.lookup f=some v)
  (h:∀ u s',Inv X pins σ H s'→RelV v u→Q u s'):wpAny (model X.prog X.w) A (getAttr (.ref a) f b) Q E s:=by
 obtain⟨mA,O,r,_,_,_⟩:=z7w I.hok e
 obtain⟨u,hu,ru⟩:=RelO.some_of (v:=v) (o:=mA f) (by rw[← l];exact r f)
 exact zcq I.kIn O (c.get f) c.hd n hu (z9q ru) (h u _ (I.tok _) ru)
theorem z8I{m:Str}{g:Addr}{pl:Sem Bool}{Q:Value × List Value→Shared→Prop}(I:Inv X pins σ H s)(e:H a=some (.ins C dx fs))(c:Cls X.K C)(k:Meth X.K C m g)(l:fs.lookup m=none)
  (h:Q (.ref g,[.ref a]) s):wpAny (model X.prog X.w) A (getMethod (.ref a) m pl) Q E s:=by
 obtain⟨mA,O,r,_,_,_⟩:=z7w I.hok e
 have hn:mA m=none:=RelO.none_of (by rw[← l];exact r m)
 exact zaV I.kIn O (c.get m) k.at_ k.fn hn h
theorem z8J{y:V}{u:Value}{Q:Unit→Shared→Prop}(I:Inv X pins σ H s)(e:H a=some (.ins C dx fs))(c:Cls X.K C)(n:NoAttr X.K C f)(hl:fs.length < 1000)(ry:RelV y u)
  (h:∀ s',Inv X pins σ (upd H a (.ins C dx (putF f y fs))) s'→Q () s'):wpAny (model X.prog X.w) A (setAttr (.ref a) f u) Q E s:=by
 obtain⟨mA,O,r,wi,_,ho⟩:=z7w I.hok e
 have hz:(fs.map (·.1)).length≤sizeLine:=by rw[List.length_map,sizeLine_eq];omega
 refine zcr I.kIn O c.sa c.po n.taker c.hd wi hz fun h' O' sb=>h _ ?_
 have hd:∃ o,h'.get? dx=some o:=let ⟨o,_,_,e',_⟩:=O'.ns;⟨o,e'⟩
 refine I.write (x:=a) (e:=dx) (by rw[e];exact True.intro) (.inr ho) (fun b q hb z=>(sb.2 b hb).trans z) hd ?_
 refine⟨by rw[zj O.ne];exact ho,?_,O.ne,O'.obj,_,O'.ns,fun g=>?_,fun g hg=>?_⟩
 ·have:=z3y f y fs;omega
 ·show RelO ((putF f y fs).lookup g) (if g=f then some u else mA g)
  rw[z4Y]
  by_cases q:g=f
  ·rw[if_pos q,if_pos q];exact ry
  ·rw[if_neg q,if_neg q];exact r g
 ·by_cases q:g=f
  ·rw[q];exact(z4Z f y fs).1
  ·refine(z4Z f y fs).2 g (wi g fun z=>hg ?_)
   show(if g=f then some u else mA g)=none
   rw[if_neg q];exact z
theorem Inv.made(I:Inv X pins σ H s):Inv X pins σ (upd (upd H s.heap.objs.size (.own (s.heap.objs.size + 1))) (s.heap.objs.size + 1) (.ins C s.heap.objs.size []))
  {s with heap:=(s.heap.push PySem.W.emptyDict).push (PySem.W.instObj C s.heap.objs.size)}:=by
 have e1:(s.heap.push PySem.W.emptyDict).get? s.heap.objs.size=some PySem.W.emptyDict:=Heap.get?_push_size s.heap rfl
 have e2:((s.heap.push PySem.W.emptyDict).push (PySem.W.instObj C s.heap.objs.size)).get? (s.heap.objs.size + 1)=some (PySem.W.instObj C s.heap.objs.size):=by
  have:=Heap.get?_push_size (s.heap.push PySem.W.emptyDict) (o:=PySem.W.instObj C s.heap.objs.size) rfl
  rwa [Heap.size_push]at this
 have e3:(s.heap.push PySem.W.emptyDict).Ns s.heap.objs.size (fun _=>none):=⟨PySem.W.emptyDict,#[],_,e1,rfl,(fun e he=>absurd he (by simp)),fun _=>rfl⟩
 have I1:=I.laid (a:=s.heap.objs.size) (o:=.own (s.heap.objs.size + 1)) (h':=s.heap.push PySem.W.emptyDict) (t':=s.toks) (fun b u q=>Heap.get?_push_of_some _ q) (Nat.le_refl _) ⟨_,e1⟩
 refine I1.laid (a:=s.heap.objs.size + 1) (o:=.ins C s.heap.objs.size []) (t':=s.toks) (fun b u q=>Heap.get?_push_of_some _ q) (Nat.le_of_eq (Heap.size_push _ _)) ?_
 have ne:s.heap.objs.size≠s.heap.objs.size + 1:=Nat.ne_of_lt (Nat.lt_succ_self _)
 refine⟨by rw[zj ne,zq],Nat.zero_le _,ne,e2,fun _=>none,(Heap.Ns1.of_empty e3).at fun o q=>Heap.get?_push_of_some _ q,fun _=>True.intro,fun y hy=>absurd rfl hy⟩
theorem zcs{prog:Program}{w:World}{env:Env}{e:Expr}{f:Str}{pos:Pos}{s:Shared}{Q:Value→Shared→Prop}(hb:attributeBase e f env (eval e env)=eval e env)
  (h:wpAny (model prog w) A (eval e env) (fun o s₁=>wpAny (model prog w) A (getAttr o f true) Q E s₁) E s):wpAny (model prog w) A (eval (.Attribute e f pos) env) Q E s :=
 Attribute_any_ h (by rw[arm_eval_Attribute,hb])
end
def tFld(K:PySem.W.Frag)(ta:TE)(f:Str):TE:=fun σ H Q=>ta σ H fun x H1=>∃ a C dx fs v,x=.ref a∧H1 a=some (.ins C dx fs)∧Cls K C∧NoAttr K C f∧fs.lookup f=some v∧Q v H1
def sFld(K:PySem.W.Frag)(ta tv:TE)(f:Str):TS:=fun D σ H=>tv σ H fun y H1=>ta σ H1 fun x H2=>∃ a C dx fs,x=.ref a∧H2 a=some (.ins C dx fs)∧Cls K C∧NoAttr K C f∧fs.length < 1000 ∧
 D.nx σ (upd H2 a (.ins C dx (putF f y fs)))
section
variable {X:Cx} {o e value:Expr} {f:Str} {pos pos' tpos:Pos} {ta tv:TE}
theorem zdU(he:PE X e ta)(hb:attributeBase e f X.env (eval e X.env)=eval e X.env):PE X (.Attribute e f pos) (tFld X.K ta f):=by
 intro pins s σ H Q I h
 refine zcs hb (thn (he pins s σ H _ I h) fun u s1 zhc=>?_)
 obtain⟨x,H1,I1,rx,a,C,dx,fs,v,ex,ea,c,n,l,q⟩:=zhc
 subst ex
 obtain rfl:u=Value.ref a:=rx
 exact z8H I1 ea c n l fun u' s2 I2 ru=>⟨v,H1,I2,ru,q⟩
theorem zdV(ha:PE X o ta)(hv:PE X value tv)(hs:swapsWith value (some (.Attribute o f pos')) pos.line X.env=pure false):PS X (.Assign [.Attribute o f pos'] value pos) (sFld X.K ta tv f):=by
 intro pins s σ H D I h
 refine plainObj_wpAny_Assign_Attribute (thn (hv pins s σ H _ I h) fun u s1 ⟨y,H1,I1,ry,q⟩=>thn (ha pins s1 σ H1 _ I1 q) fun ov s2 zhd=>?_) hs
 obtain⟨x,H2,I2,rx,a,C,dx,fs,ex,ea,c,n,l,q2⟩:=zhd
 subst ex
 obtain rfl:ov=Value.ref a:=rx
 exact z8J I2 ea c n l ry fun s3 I3=>⟨σ,_,I3,q2⟩
end
section
variable {X:Cx} {pins:List (Addr × Obj)} {σ:St} {H:Hp} {s:Shared} {A:Around} {E:Value→Shared→Prop} {Q:Value→Shared→Prop} {c:Value} {b:Bool}
inductive TyOf(K:PySem.W.Frag)(H:Hp):V→Value→Prop where
 | non:TyOf K H .non (.type "NoneType")
 | bl (x:Bool):TyOf K H (.bl x) (.type "bool")
 | int (i:Int):TyOf K H (.int i) (.type "int")
 | str (x:Str):TyOf K H (.str x) (.type "str")
 | flt (x:UInt64):TyOf K H (.flt x) (.type "float")
 | lst {a:Addr} {xs:List V} (e:H a=some (.lst xs)):TyOf K H (.ref a) (.type "list")
 | frz {a:Addr} {o:Obj} {xs:List V} (e:H a=some (.frz o (.lst xs))):TyOf K H (.ref a) (.type "list")
 | tup {a:Addr} {xs:List V} (e:H a=some (.tup xs)):TyOf K H (.ref a) (.type "tuple")
 | dK {a:Addr} {kvs:List (Key × V)} (e:H a=some (.dK kvs)):TyOf K H (.ref a) (.type "dict")
 | dT {a:Addr} {kvs:List (List Key × V)} (e:H a=some (.dT kvs)):TyOf K H (.ref a) (.type "dict")
 | ins {a C dx:Addr} {fs:List (Str × V)} (e:H a=some (.ins C dx fs)) (cl:Cls K C) (ha:PySem.W.findIn K (.ref C) "__class__"=some (some (.builtin "object.__class__")))
   (hn:PySem.W.specialIn K (.builtin "object.__class__") "__get__"=some (some (.builtin "getset_descriptor.__get__"))) (htk:PySem.W.takesIn K (.builtin "object.__class__")=some true)
   (hm:PySem.W.mroIn K C (.type "object")=some true):TyOf K H (.ref a) (.ref C)
end
end L2
namespace L2
open PySem PySem.Spec PyProof.Rows
structure Room(k:Nat)(A:Around):Prop where
 hd:A.handled=none
 dp:A.depth + 3 * k + 5 < recursionLimit
 un:A.units + 16 * k + 200 < cLine
theorem Room.mono{j k:Nat}{A:Around}(r:Room k A)(h:j≤k):Room j A:=⟨r.hd,by have:=r.dp;omega,by have:=r.un;omega⟩
theorem Room.deeper{k:Nat}{A:Around}(r:Room (k + 1) A)(env:Env):Room k (A.deeper env) :=
 ⟨r.hd,by have:=r.dp;show A.depth + 1 + 3 * k + 5 < _;omega,by have:=r.un;show A.units + 3 + 16 * k + 200 < _;omega⟩
theorem z8K{A:Around}{C:Addr}{us:List Value}{kw:List (Str × Value)}:(A.under (.builtin "type.__call__" ⟨.ref C::us,kw⟩)).depth=A.depth + 1:=by
 first | rfl | simp[Around.under,Code.weight,Code.isCreation,Code.isGuard,Code.isCaller,Code.frames,Code.isFrame,guardIds]
theorem z8L{A:Around}{C:Addr}{us:List Value}{kw:List (Str × Value)}:(A.under (.builtin "type.__call__" ⟨.ref C::us,kw⟩)).units=A.units + 1:=by
 first | rfl | simp[Around.under,Code.cUnits,Code.frames,Code.isFrame]
theorem Room.make{k:Nat}{A:Around}(r:Room (k + 1) A)(C:Addr)(us:List Value)(kw:List (Str × Value)):Room k (A.under (.builtin "type.__call__" ⟨.ref C::us,kw⟩)) :=
 ⟨r.hd,by have:=r.dp;rw[z8K];omega,by have:=r.un;rw[z8L];omega⟩
theorem Room.depth{k:Nat}{A:Around}(r:Room k A):A.depth < recursionLimit:=by have:=r.dp;omega
theorem Room.units{k:Nat}{A:Around}(r:Room k A):A.units + 64 < cLine:=by have:=r.un;omega
def tNil:TA:=fun _ H Q=>Q [] H
def tCons(ta:TE)(tr:TA):TA:=fun σ H Q=>ta σ H fun x H1=>tr σ H1 fun xs H2=>Q (x::xs) H2
section
variable {X:Cx} {e:Expr} {es:List Expr} {te:TE} {t:TA} {pos:Pos}
theorem z0r:PA X [] tNil:=fun _ _ _ _ H Q I h=>Calls.spliced_nil ⟨[],H,I,.nil,h⟩
theorem zy(ha:PE X e te)(hr:PA X es t)(hs:starEach (e::es) X.env=(false,eval e X.env)::starEach es X.env:=by rfl):PA X (e::es) (tCons te t):=by
 intro pos pins s σ H Q I h
 rw[hs]
 show wpAny _ _ (spliced ((false,eval e X.env)::backTo pos (starEach es X.env))) _ _ s
 refine Calls.spliced_cons (thn (ha pins s σ H _ I h) fun u s1 zhe=>?_)
 obtain⟨x,H1,I1,r1,q1⟩:=zhe
 exact thn (hr pos pins s1 σ H1 _ I1 q1) fun us s2 zhf=>(by obtain⟨xs,H2,I2,r2,q2⟩:=zhf;exact⟨x::xs,H2,I2,.cons r1 r2,q2⟩)
def tTup(t:TA):TE:=fun σ H Q=>t σ H fun xs H1=>xs.length≤sizeLine∧∀ p,H1 p=none→Q (.ref p) (upd H1 p (.tup xs))
def tLst(t:TA):TE:=fun σ H Q=>t σ H fun xs H1=>xs.length≤sizeLine∧∀ p,H1 p=none→Q (.ref p) (upd H1 p (.lst xs))
theorem zdW{x1}(h:PA X es t):PE X (.Tuple es x1 pos) (tTup t):=by
 intro pins s σ H Q I hq
 refine wpAny_Tuple_spliced (thn (h pos pins s σ H _ I hq) fun us s1 ⟨xs,H1,I1,r,z,q⟩=>⟨by rw[← r.length];exact z,?_⟩)
 have hf:H1 s1.heap.objs.size=none:=I1.hok.fresh (Nat.le_refl _)
 refine⟨.ref s1.heap.objs.size,upd H1 s1.heap.objs.size (.tup xs),I1.laid (t':=s1.toks) (fun b u e=>Heap.get?_push_of_some _ e) (Nat.le_refl _) ?_,rfl,q _ hf⟩
 exact⟨z,us,r,⟨_,Heap.get?_push_size _ rfl,rfl,_,rfl⟩⟩
theorem z9r(h:PA X es t):PE X (.List es pos) (tLst t):=by
 intro pins s σ H Q I hq
 refine wpAny_List_spliced (thn (h pos pins s σ H _ I hq) fun us s1 ⟨xs,H1,I1,r,z,q⟩=>⟨by rw[← r.length];exact z,?_⟩)
 have hf:H1 s1.heap.objs.size=none:=I1.hok.fresh (Nat.le_refl _)
 refine⟨.ref s1.heap.objs.size,upd H1 s1.heap.objs.size (.lst xs),I1.laid (t':=s1.toks) (fun b u e=>Heap.get?_push_of_some _ e) (Nat.le_refl _) ?_,rfl,q _ hf⟩
 exact⟨z,us,0,r,Heap.get?_push_size _ rfl⟩
end
abbrev Sp:=List V→Hp→VK→XK→Prop
abbrev CXT:=List Env→Hp→Shared→XK→Value→Shared→Prop
structure Env0(P:Program)(w:World)(K:PySem.W.Frag)(mg:Str→Option Value)(base:Heap)(A:Around)(outer:List Env)(s:Shared)(H:Hp):Prop where
 frames:A.frames=some outer
 mod:Mod K mg base
 bs:∀ b o,base.get? b=some o→s.heap.get? b=some o∧H b=none
 bsz:base.objs.size≤s.heap.objs.size
 funs:s.heap.FunFrames base outer
 frf:∀ b∈frs outer,H b=none
 hok:HOk P w H s.heap
 bare:AllBare s.gens
def CE(outer:List Env)(P:Program)(w:World)(H:Hp)(s:Shared)(Q:VK)(u:Value)(s':Shared):Prop :=
 ∃ v H',s'.os=s.os∧AllBare s'.gens∧Un (frs outer) [] H H' s.heap s'.heap∧HOk P w H' s'.heap∧RelV v u∧Q v H'
def CR(CX:CXT)(outer:List Env)(P:Program)(w:World)(H:Hp)(s:Shared)(Q:VK)(E:XK)(r:Result)(s':Shared):Prop :=
 match r with
 | .ok (.ret u)=>CE outer P w H s Q u s'
 | .ok _=>False
 | .error e=>CX outer H s E e s'
structure FnOk(P:Program)(w:World)(K:PySem.W.Frag)(mg:Str→Option Value)(base:Heap)(CX:CXT)(k:Nat)(f:Addr)(fd:FuncData)(ps:List Str)(sp:Sp):Prop where
 len:∀ vs H Q E,sp vs H Q E→vs.length=ps.length
 run:∀ (A:Around) (outer:List Env) (s:Shared) (H:Hp) (args:Args) (us:List Value) (vs:List V) (Q:VK) (E:XK),Room k A→Env0 P w K mg base A outer s H→BindsTo s fd args (ps.zip us)→Vals vs us→sp vs H Q E →
  codeAny (model P w) A (.call (.ref f) args) (CR CX outer P w H s Q E) s
theorem FnOk.imp{P:Program}{w:World}{K:PySem.W.Frag}{mg:Str→Option Value}{base:Heap}{CX:CXT}{k:Nat}{f:Addr}{fd:FuncData}{ps:List Str}{sp sp':Sp}(F:FnOk P w K mg base CX k f fd ps sp)
  (h:∀ vs H Q E,sp' vs H Q E→sp vs H Q E):FnOk P w K mg base CX k f fd ps sp' :=
 ⟨fun vs H Q E q=>F.len vs H Q E (h _ _ _ _ q),fun A outer s H args us vs Q E hr he hb hv hs=>F.run A outer s H args us vs Q E hr he hb hv (h _ _ _ _ hs)⟩
theorem Env0.make{P:Program}{w:World}{K:PySem.W.Frag}{mg:Str→Option Value}{base:Heap}{A:Around}{outer:List Env}{s:Shared}{H:Hp}(e:Env0 P w K mg base A outer s H)(C:Addr)(us:List Value)(kw:List (Str × Value)) :
  Env0 P w K mg base (A.under (.builtin "type.__call__" ⟨.ref C::us,kw⟩)) outer s H:=⟨by first | exact e.frames | (simpa [Around.under,Code.envs,Code.isFrame,pushEnvs] using e.frames),e.mod,e.bs,e.bsz,e.funs,e.frf,e.hok,e.bare⟩
section
variable {X:Cx} {pins:List (Addr × Obj)} {σ:St} {H:Hp} {s s':Shared}
theorem Inv.env0(I:Inv X pins σ H s):Env0 X.prog X.w X.K X.mg X.base X.A X.stack s H :=
 ⟨I.ok.frames,I.ok.mod,I.bs,Nat.le_trans I.ok.bsz I.sz,I.stack,I.stkFree,I.hok,I.bare⟩
theorem Inv.after{Q:VK}{u:Value}(I:Inv X pins σ H s)(h:CE X.stack X.prog X.w H s Q u s'):EP X pins σ Q u s':=by
 obtain⟨v,H',os,bare,un,hok,r,q⟩:=h
 obtain⟨hh,g,d,t,os'⟩:=s'
 obtain rfl:os'=s.os:=os
 exact⟨v,H',I.call (h':=hh) (g':=g) (d':=d) (t':=t) (ch:=[]) un hok bare (fun b z=>absurd z (by simp)),r,q⟩
end
def tCall(sp:Sp)(dvs:List V)(E:XK)(t:TA):TE:=fun σ H Q=>t σ H fun vs H1=>sp (vs++dvs) H1 Q E
def tMeth(C:Addr)(m:Str)(sp:Sp)(dvs:List V)(E:XK)(ta:TE)(t:TA):TE:=fun σ H Q=>ta σ H fun x H1=>∃ a dx fs,x=.ref a∧H1 a=some (.ins C dx fs)∧fs.lookup m=none ∧
 t σ H1 fun vs H2=>sp (x::(vs++dvs)) H2 Q E
def tMake(C:Addr)(sp:Sp)(dvs:List V)(E:XK)(t:TA):TE:=fun σ H Q=>t σ H fun vs H1=>∀ x dx,H1 x=none→H1 dx=none→dx≠x →
 sp (.ref x::(vs++dvs)) (upd (upd H1 dx (.own x)) x (.ins C dx [])) (fun v H2=>v=.non∧Q (.ref x) H2) E
def Binds(K:PySem.W.Frag)(fd:FuncData)(ps:List Str)(ds:List Value):Prop :=
 ∀ (s:Shared) (us:List Value),K.In s.heap→(us++ds).length=ps.length→BindsTo s fd ⟨us,[]⟩ (ps.zip (us++ds))
theorem Binds.all{K:PySem.W.Frag}{fd:FuncData}{ps:List Str}(h:∀ us:List Value,us.length=ps.length→bindArgs fd ⟨us,[]⟩=pure (ps.zip us)):Binds K fd ps []:=fun s us _ hl=>by
 rw[List.append_nil]at hl ⊢
 exact .of_eq (h us hl)
def Passes(CX:CXT)(X:Cx)(E:XK):Prop:=∀ (pins:List (Addr × Obj)) (σ:St) (H:Hp) (s:Shared) (e:Value) (s':Shared),Inv X pins σ H s→CX X.stack H s E e s'→X.xe e s'
section
variable {X:Cx} {CX:CXT} {k:Nat} {f C:Addr} {fd:FuncData} {ps:List Str} {sp:Sp} {dvs:List V} {ds:List Value} {E:XK} {x m:Str} {p pos apos:Pos} {e o:Expr} {es:List Expr} {ta:TE} {t:TA}
theorem zbU{pins:List (Addr × Obj)}{σ:St}{H:Hp}{s:Shared}{Q:VK}{us:List Value}{vs:List V}(F:FnOk X.prog X.w X.K X.mg X.base CX k f fd ps sp)(hr:Room k X.A)(hb:Binds X.K fd ps ds)(hd:Vals dvs ds)(hx:Passes CX X E)
  (I:Inv X pins σ H s) (r:Vals vs us) (h:sp (vs++dvs) H Q E):wpAny (model X.prog X.w) X.A (call (.ref f) us) (EP X pins σ Q) X.xe s:=by
 have r2:Vals (vs++dvs) (us++ds):=r.append hd
 have hl:(us++ds).length=ps.length:=by rw[← r2.length];exact F.len _ _ _ _ h
 refine wpAny_call (codeAny_mono (F.run X.A X.stack s H ⟨us,[]⟩ (us++ds) (vs++dvs) Q E hr I.env0 (hb s us I.kIn hl) r2 h) fun r s' hq=>?_)
 cases r with
 | error e=>exact hx pins σ H s e s' I hq
 | ok fl =>
  cases fl with
  | ret u=>exact I.after hq
  | next=>exact False.elim hq
  | brk=>exact False.elim hq
  | cont=>exact False.elim hq
theorem z66(F:FnOk X.prog X.w X.K X.mg X.base CX k f fd ps sp)(hr:Room k X.A)(hg:Gl X x)(hm:X.mg x=some (.ref f))(hk:PySem.W.keepIn X.K (.ref f)=true)(hb:Binds X.K fd ps ds)(hd:Vals dvs ds)(hx:Passes CX X E)
  (ha:PA X (e::es) t) (hdb:(x == ("__debug__":Str))=false:=by decide) (he:starEach (e::es) X.env=(false,eval e X.env)::starEach es X.env:=by rfl) (hpl:(backTo pos (starEach es X.env)).any (·.1)=false:=by rfl) :
  PE X (.Call (.Name x p) (e::es) [] pos) (tCall sp dvs E t):=by
 intro pins s σ H Q I h
 refine wpAny_Call_Name_kw (z4W I hg hm ?_ hdb)
 refine PySem.W.callWith_K (h₀:=X.base) I.ok.mod.kin hk (thn (ha pos pins s σ H _ I h) fun us s1 ⟨vs,H1,I1,r,q⟩=>⟨I1.kIn,?_⟩) he hpl
 exact zbU F hr hb hd hx I1 r q
theorem zct{pl:Sem Bool}(he:PE X o ta)(c:Cls X.K C)(hm:Meth X.K C m f)(F:FnOk X.prog X.w X.K X.mg X.base CX k f fd ps sp)(hr:Room k X.A)(hb:Binds X.K fd ps ds)(hd:Vals dvs ds)(hx:Passes CX X E)(ha:PA X (e::es) t)
  (hst:starEach (e::es) X.env=(false,eval e X.env)::starEach es X.env:=by rfl) (hpl:(backTo pos (starEach es X.env)).any (·.1)=false:=by rfl)
  (ht:eval (.Call (.Attribute o m apos) (e::es) [] pos) X.env=(do
   let ov ← eval o X.env
   standAt apos.atName
   let (f,first) ← holding [ov] (getMethod ov m pl)
   callWith pos f first (backTo pos (starEach (e::es) X.env)) (backToKw pos (keywordEach [] X.env))):=by rfl) :
  PE X (.Call (.Attribute o m apos) (e::es) [] pos) (tMeth C m sp dvs E ta t):=by
 intro pins s σ H Q I h
 refine PySem.W.methodCall_KW (pl:=pl) (thn (he pins s σ H _ I h) fun u s1 zhg=>?_) ht
 obtain⟨x,H1,I1,rx,a,dx,fs,ex,ea,l,q⟩:=zhg
 subst ex
 obtain rfl:u=Value.ref a:=rx
 refine z8I I1 ea c hm l ?_
 refine PySem.W.callWith_K (first:=[.ref a]) (h₀:=X.base) I.ok.mod.kin hm.kp (thn (ha pos pins s1 σ H1 _ I1 q) fun us s2 ⟨vs,H2,I2,r,q2⟩=>⟨I2.kIn,?_⟩) hst hpl
 exact zbU (us:=.ref a::us) (vs:=.ref a::vs) F hr hb hd hx I2 (.cons rfl r) q2
structure Mk(K:PySem.W.Frag)(C f:Addr):Prop where
 makes:PySem.W.makesIn K C=true
 init:PySem.W.findIn K (.ref C) "__init__"=some (some (.ref f))
 fn:PySem.W.isFn K (.ref f)=true
 kp:PySem.W.keepIn K (.ref C)=true
theorem zaX{pins:List (Addr × Obj)}{σ:St}{H:Hp}{s:Shared}{Q:VK}{us:List Value}{vs:List V}(M:Mk X.K C f)(F:FnOk X.prog X.w X.K X.mg X.base CX k f fd ps sp)(hr:Room (k + 1) X.A)(hb:Binds X.K fd ps ds)(hd:Vals dvs ds)
  (hx:Passes CX X E) (I:Inv X pins σ H s) (r:Vals vs us)
  (h:∀ x dx,H x=none→H dx=none→dx≠x→sp (.ref x::(vs++dvs)) (upd (upd H dx (.own x)) x (.ins C dx [])) (fun v H2=>v=.non∧Q (.ref x) H2) E) :
  wpAny (model X.prog X.w) X.A (call (.ref C) us) (EP X pins σ Q) X.xe s:=by
 have hq:=h (s.heap.objs.size + 1) s.heap.objs.size (I.hok.fresh (Nat.le_succ _)) (I.hok.fresh (Nat.le_refl _)) (Nat.ne_of_lt (Nat.lt_succ_self _))
 have I2:=Inv.made (C:=C) I
 have r2:Vals (V.ref (s.heap.objs.size + 1)::(vs++dvs)) (Value.ref (s.heap.objs.size + 1)::(us++ds)):=.cons rfl (r.append hd)
 have hl:(Value.ref (s.heap.objs.size + 1)::us++ds).length=ps.length:=by
  have e:=r2.length
  rw[F.len _ _ _ _ hq]at e
  exact e.symm
 refine wpAny_call (zaW (f:=f) I.kIn M.makes M.init (beq_iff_eq.mp M.fn) (codeAny_mono (F.run _ X.stack _ _ ⟨Value.ref (s.heap.objs.size + 1)::us,[]⟩ (Value.ref (s.heap.objs.size + 1)::(us++ds)) _ _ E (hr.make C us [])
  (I2.env0.make C us []) (hb _ (Value.ref (s.heap.objs.size + 1)::us) I2.kIn hl) r2 hq) fun r s' hq'=>?_))
 cases r with
 | error e=>exact hx pins σ _ _ e s' I2 hq'
 | ok fl =>
  cases fl with
  | ret u =>
   obtain⟨v,H',I3,rv,ev,q3⟩:=I2.after hq'
   subst ev
   exact⟨rv,⟨V.ref (s.heap.objs.size + 1),H',I3,rfl,q3⟩⟩
  | next=>exact False.elim hq'
  | brk=>exact False.elim hq'
  | cont=>exact False.elim hq'
theorem zcu(M:Mk X.K C f)(F:FnOk X.prog X.w X.K X.mg X.base CX k f fd ps sp)(hr:Room (k + 1) X.A)(hg:Gl X x)(hm:X.mg x=some (.ref C))(hb:Binds X.K fd ps ds)(hd:Vals dvs ds)(hx:Passes CX X E)
  (ha:PA X (e::es) t) (hdb:(x == ("__debug__":Str))=false:=by decide) (he:starEach (e::es) X.env=(false,eval e X.env)::starEach es X.env:=by rfl) (hpl:(backTo pos (starEach es X.env)).any (·.1)=false:=by rfl) :
  PE X (.Call (.Name x p) (e::es) [] pos) (tMake C sp dvs E t):=by
 intro pins s σ H Q I h
 refine wpAny_Call_Name_kw (z4W I hg hm ?_ hdb)
 refine PySem.W.callWith_K (h₀:=X.base) I.ok.mod.kin M.kp (thn (ha pos pins s σ H _ I h) fun us s1 ⟨vs,H1,I1,r,q⟩=>⟨I1.kIn,?_⟩) he hpl
 exact zaX M F hr hb hd hx I1 r q
end
section
variable {X:Cx} {CX:CXT} {k:Nat} {f C:Addr} {fd:FuncData} {ps ks:List Str} {sp:Sp} {E:XK} {x m:Str} {p pos apos kpos:Pos} {e o:Expr} {es:List Expr} {kws:List Keyword} {te ta:TE} {t tk:TA} {nm:Option Str}
structure KBinds(K:PySem.W.Frag)(fd:FuncData)(ps ks:List Str)(g:List Value→List Value→List Value)(gV:List V→List V→List V):Prop where
 to:∀ (s:Shared) (us ws:List Value),K.In s.heap→(g us ws).length=ps.length→BindsTo s fd ⟨us,ks.zip ws⟩ (ps.zip (g us ws))
 rel:∀ {vs:List V} {us:List Value} {zs:List V} {ws:List Value},Vals vs us→Vals zs ws→Vals (gV vs zs) (g us ws)
variable {g:List Value→List Value→List Value} {gV:List V→List V→List V}
end
structure FnScope(N P:List Str)(sc:Scope):Prop where
 kind:sc.kind=.function
 co:sc.isCoroutine=false
 gen:sc.isGenerator=false
 nd:N.Nodup
 pre:N.take P.length=P
 par:∀ x∈P,sc.names.lookup x=some .local∨sc.names.lookup x=some .cell
 nofree:∀ y∈sc.names,y.2≠.free
theorem z6K{kindOf:Str→Option NameKind}{x:Str}:∀ {binds:List (Str × Value)} {m:Str→Option Value},(∀ v,(x,v) ∉ binds)→bindL kindOf binds m x=m x
 | [],_,_=>rfl
 | (n,v)::r,m,h=>by
  unfold bindL
  rw[z6K fun w hw=>h w (List.mem_cons_of_mem _ hw)]
  split
  ·have:x≠n:=by rintro rfl;exact h v List.mem_cons_self
   simp[this]
  ·rfl
theorem z6L{kindOf:Str→Option NameKind}{x:Str}:∀ {binds:List (Str × Value)} {m:Str→Option Value},(∀ v,(x,v) ∉ binds)→bindC kindOf binds m x=m x
 | [],_,_=>rfl
 | (n,v)::r,m,h=>by
  unfold bindC
  rw[z6L fun w hw=>h w (List.mem_cons_of_mem _ hw)]
  split
  ·rfl
  ·have:x≠n:=by rintro rfl;exact h v List.mem_cons_self
   simp[this]
theorem z6M{kindOf:Str→Option NameKind}{x:Str}{v:Value}:∀ {P:List Str} {vs:List Value} {i:Nat} {m:Str→Option Value},P.Nodup→P[i]?=some x→vs[i]?=some v→kindOf x=some .local →
  bindL kindOf (P.zip vs) m x=some v
 | [],_,_,_,_,h,_,_=>by simp at h
 | _::_,[],_,_,_,_,h,_=>by simp at h
 | p::P,w::vs,0,m,nd,h1,h2,hk=>by
  simp at h1 h2;subst h1;subst h2
  show bindL kindOf ((p,w)::P.zip vs) m p=_
  unfold bindL
  rw[z6K fun v hv=>(List.nodup_cons.mp nd).1 (List.of_mem_zip hv).1,if_pos hk]
  simp
 | p::P,w::vs,i + 1,m,nd,h1,h2,hk=>by
  show bindL kindOf ((p,w)::P.zip vs) m x=_
  unfold bindL
  exact z6M (i:=i) (List.nodup_cons.mp nd).2 (by simpa using h1) (by simpa using h2) hk
theorem z6N{kindOf:Str→Option NameKind}{x:Str}{v:Value}:∀ {P:List Str} {vs:List Value} {i:Nat} {m:Str→Option Value},P.Nodup→P[i]?=some x→vs[i]?=some v→kindOf x≠some .local →
  bindC kindOf (P.zip vs) m x=some v
 | [],_,_,_,_,h,_,_=>by simp at h
 | _::_,[],_,_,_,_,h,_=>by simp at h
 | p::P,w::vs,0,m,nd,h1,h2,hk=>by
  simp at h1 h2;subst h1;subst h2
  show bindC kindOf ((p,w)::P.zip vs) m p=_
  unfold bindC
  rw[z6L fun v hv=>(List.nodup_cons.mp nd).1 (List.of_mem_zip hv).1,if_neg hk]
  simp
 | p::P,w::vs,i + 1,m,nd,h1,h2,hk=>by
  show bindC kindOf ((p,w)::P.zip vs) m x=_
  unfold bindC
  exact z6N (i:=i) (List.nodup_cons.mp nd).2 (by simpa using h1) (by simpa using h2) hk
def start(N:List Str)(vs:List V):St:=vs.map some++List.replicate (N.length - vs.length) none
def cxOf(CX:CXT)(P:Program)(w:World)(K:PySem.W.Frag)(mg:Str→Option Value)(base:Heap)(N:List Str)(qual:Str)(scope:Scope)(f:Addr)(cd:Value)(A:Around)(outer:List Env)(s:Shared)(H:Hp)(E:XK):Cx where
 prog:=P
 w:=w
 K:=K
 mg:=mg
 base:=base
 A:=A.deeper (envOfC qual scope s.heap.objs.size f cd)
 N:=N
 s₀:=s
 H₀:=H
 env:=envOfC qual scope s.heap.objs.size f cd
 outer:=outer
 stack:=envOfC qual scope s.heap.objs.size f cd::outer
 ex:=[]
 calm:=true
 fn:=fun _=>true
 pn:=[]
 xe:=fun e s'=>wpAny (model P w) (A.deeper (envOfC qual scope s.heap.objs.size f cd)) (leaving (envOfC qual scope s.heap.objs.size f cd) e) (fun _ s''=>CX outer H s E e s'') (fun e' s''=>CX outer H s E e' s'') s'
theorem z0l{sc:Scope}{n:Nat}{x:Str}(h:sc.names.lookup x=some .cell):∃ c,(cellsFrom n sc.names []).lookup x=some c:=by
 have q:=PySem.W.cellsFrom_some sc.names n [] (.inl h)
 exact Option.isSome_iff_exists.mp q
theorem z9s{CX:CXT}{P:Program}{w:World}{K:PySem.W.Frag}{mg:Str→Option Value}{base:Heap}{N ps:List Str}{qual:Str}{scope:Scope}{f:Addr}{cd:Value}{A:Around}{outer:List Env}{s s1:Shared}{H:Hp}{E:XK}{us:List Value}{vs:List V}
  (S:FnScope N ps scope) (hd:A.handled=none) (e0:Env0 P w K mg base A outer s H) (hl:vs.length=ps.length) (r:Vals vs us)
  (x:InCallC s s.heap.objs.size (bindL (envOfC qual scope s.heap.objs.size f cd).kindOf (ps.zip us) fun _=>none) (cellsFrom (s.heap.objs.size + 1) scope.names []) (bindC (envOfC qual scope s.heap.objs.size f cd).kindOf (ps.zip us) fun _=>none) s1) :
  Inv (cxOf CX P w K mg base N qual scope f cd A outer s H E) [] (start N vs) H s1:=by
 have hpl:ps.length≤N.length:=by have:=congrArg List.length S.pre;rw[List.length_take]at this;omega
 obtain⟨h1,tk,rfl,hk⟩:=x.done
 have noA:∀ b:Addr,b ∉ (cxOf CX P w K mg base N qual scope f cd A outer s H E).ex:=fun b z=>absurd (show b∈([]:List Addr) from z) (by simp)
 refine⟨⟨e0.mod,S.kind,rfl,rfl,Nat.le_refl _,fun y z c h1 h2=>?_,fun y hy=>?_,fun y c _ h=>?_,fun _=>hd,Around.frames_deeper e0.frames,.inr ⟨rfl,rfl⟩,fun b z=>absurd z (noA b),e0.bs,e0.bsz,fun b _ _=>noA b,fun b z=>absurd z (noA b),e0.funs,e0.frf⟩,
  rfl,e0.bare,Un.kept hk,⟨_,x.toInCall.ns,fun i y v h1 h2 h3=>?_⟩,fun y c h=>⟨_,x.cell y c h⟩,e0.hok.fresh (Nat.le_refl _),fun y c h=>?_,fun p hp=>absurd (show p∈([]:List (Addr × Obj)) from hp) (by simp),e0.hok.kept hk,?_⟩
 ·exact name_of_addr x.apart (PySem.mem_of_lookup h1) (PySem.mem_of_lookup h2)
 ·have hy:scope.names.lookup y=some .cell∨scope.names.lookup y=some .free:=hy
  rcases hy with hy | hy
  ·exact z0l hy
  ·exact absurd rfl (S.nofree _ (PySem.mem_of_lookup hy))
 ·exact Nat.le_of_lt (x.above y c (PySem.mem_of_lookup h))
 ·have hi:i < vs.length:=by
   unfold start at h2
   by_cases hi:i < vs.length
   ·exact hi
   ·rw[List.getElem?_append_right (by simpa using hi)]at h2
    rw[List.getElem?_replicate]at h2
    split at h2 <;> cases h2
  have ha:vs[i]?=some v:=by
   unfold start at h2
   rw[List.getElem?_append_left (by simpa using hi),List.getElem?_map]at h2
   cases e:vs[i]? with
   | none=>rw[e]at h2;cases h2
   | some a=>rw[e]at h2;cases h2;rfl
  obtain⟨u,hu,rv⟩:=r.get ha
  have hp:ps[i]?=some y:=by
   rw[← S.pre,List.getElem?_take_of_lt (by omega)];exact h1
  have ndP:ps.Nodup:=by rw[← S.pre];exact S.nd.sublist (List.take_sublist _ _)
  refine⟨u,rv,?_⟩
  rcases S.par y (List.mem_of_getElem? hp) with k | k
  ·exact .inl ⟨k,z6M ndP hp hu k⟩
  ·obtain⟨c,e⟩:=z0l (n:=s.heap.objs.size + 1) k
   refine .inr ⟨.inl k,c,e,?_⟩
   have q:=x.cell y c e
   rw[z6N ndP hp hu (by show scope.names.lookup y≠_;rw[k];decide)]at q
   exact q
 ·exact e0.hok.fresh (Nat.le_of_lt (x.above y c (PySem.mem_of_lookup h)))
 ·unfold start
  show _=N.length
  rw[List.length_append,List.length_map,List.length_replicate]
  omega
theorem zcv{CX:CXT}{P:Program}{w:World}{K:PySem.W.Frag}{mg:Str→Option Value}{base:Heap}{k:Nat}{f:Addr}{name qual:Str}{params:Arguments}{body:List Stmt}{scope:Scope}{dV kV doc pm cdv ct oc:Value}{an od:Option Addr}
  {osl:Array (Option Value)} {N ps:List Str} {sp:Sp} (lk:K.lookup f=some ⟨oc,od,.func (PySem.W.fnOf name qual params body scope dV kV doc pm an cdv ct),osl⟩) (hcd:PySem.W.codeIn K cdv qual=true) (S:FnScope N ps scope)
  (len:∀ vs H Q E,sp vs H Q E→vs.length=ps.length)
  (hbody:∀ (A:Around) (outer:List Env) (s:Shared) (H:Hp) (vs:List V) (Q:VK) (E:XK),Room k (A.deeper (envOfC qual scope s.heap.objs.size f cdv))→sp vs H Q E →
   ∃ t,PSs (cxOf CX P w K mg base N qual scope f cdv A outer s H E) body t∧t {nx:=fun _ H'=>Q .non H',rt:=Q} (start N vs) H) :
  FnOk P w K mg base CX (k + 1) f (PySem.W.fnOf name qual params body scope dV kV doc pm an cdv ct) ps sp:=by
 refine⟨len,fun A outer s H args us vs Q E hr e0 hb r hsp=>?_⟩
 have hl:=len _ _ _ _ hsp
 have KX:K.In s.heap:=e0.mod.kin.keeps fun b o e=>(e0.bs b o e).1
 have lim:s.heap.NoLimit:=e0.mod.nolimit.keeps fun b o e=>(e0.bs b o e).1
 have hkind:∀ y∈ps.zip us,scope.names.lookup y.1=some .local∨(scope.names.lookup y.1=some .cell∧((cellsFrom (s.heap.objs.size + 1) scope.names []).lookup y.1).isSome=true):=fun zhh hy=>by
  obtain⟨n,v⟩:=zhh
  rcases S.par n (List.of_mem_zip hy).1 with q | q
  ·exact .inl q
  ·exact .inr ⟨q,PySem.W.cellsFrom_some _ _ _ (.inl q)⟩
 refine codeAny_call_function hr.depth (KX _ _ lk) rfl S.co S.gen rfl (PySem.W.codeRec_of KX hcd) (hb _ _ _ _ ?_)
 refine wpAny_newFunctionEnv_cells S.kind hkind fun env he s1 x=>?_
 subst he
 refine⟨lim.keeps x.toInCall.keep,codeAny_func ?_⟩
 obtain⟨t,ht,hq⟩:=hbody A outer s H vs Q E (hr.deeper _) hsp
 have I:Inv (cxOf CX P w K mg base N qual scope f cdv A outer s H E) [] (start N vs) H s1:=z9s S hr.hd e0 hl r x
 refine wpAny_mono (ht [] s1 (start N vs) H _ I hq) (fun fl s' hs=>?_) fun e s' hs=>hs
 have fin:∀ {σ':St} {H':Hp} {v:V} {u:Value},Inv (cxOf CX P w K mg base N qual scope f cdv A outer s H E) [] σ' H' s'→RelV v u→Q v H'→CE outer P w H s Q u s' :=
  fun{σ' H' v u} J rv q=>⟨v,H',J.os,J.bare,J.base,J.hok,rv,q⟩
 cases fl with
 | ret u =>
  obtain⟨v,σ',H',J,rv,q⟩:=hs
  exact fin J rv q
 | next =>
  obtain⟨σ',H',J,q⟩:=hs
  exact fin (v:=V.non) (u:=Value.none) J rfl q
 | brk =>
  obtain⟨_,_,_,q⟩:=hs
  exact False.elim q
 | cont =>
  obtain⟨_,_,_,q⟩:=hs
  exact False.elim q
end L2
namespace L2
open PySem PySem.Spec PyProof.Rows
section
variable {X:Cx} {x:Str} {p pos:Pos} {e:Expr} {es:List Expr} {t:TA} {id T:String} {r:List V→Hp→VK→Prop}
def tCB(r:List V→Hp→VK→Prop)(t:TA):TE:=fun σ H Q=>t σ H fun vs H1=>r vs H1 Q
theorem z0Z(hc:CallR X (.builtin id) r)(hg:Gl X x)(hm:X.mg x=none)(hv:bootBuiltins x=some (.builtin id))(ha:PA X (e::es) t)(hn:x≠"__name__":=by decide)(hdb:(x == ("__debug__":Str))=false:=by decide)
  (he:starEach (e::es) X.env=(false,eval e X.env)::starEach es X.env:=by rfl) (hpl:(backTo pos (starEach es X.env)).any (·.1)=false:=by rfl):PE X (.Call (.Name x p) (e::es) [] pos) (tCB r t):=by
 intro pins s σ H Q I h
 refine wpAny_Call_Name_kw (z3N I hg hm hv ?_ hn hdb)
 exact PyProof.Rows.callWith_builtin1 (thn (ha pos pins s σ H _ I h) fun us s1 zhi=>(by obtain⟨vs,H1,I1,r1,q1⟩:=zhi;exact hc pins s1 σ H1 vs us Q I1 r1 q1)) he hpl
theorem z50(hc:CallR X (.type T) r)(hg:Gl X x)(hm:X.mg x=none)(hv:bootBuiltins x=some (.type T))(ha:PA X (e::es) t)(hn:x≠"__name__":=by decide)(hdb:(x == ("__debug__":Str))=false:=by decide)
  (he:starEach (e::es) X.env=(false,eval e X.env)::starEach es X.env:=by rfl) (hpl:(backTo pos (starEach es X.env)).any (·.1)=false:=by rfl):PE X (.Call (.Name x p) (e::es) [] pos) (tCB r t):=by
 intro pins s σ H Q I h
 refine wpAny_Call_Name_kw (z3N I hg hm hv ?_ hn hdb)
 exact PyProof.Rows.callWith_type1 (thn (ha pos pins s σ H _ I h) fun us s1 zhj=>(by obtain⟨vs,H1,I1,r1,q1⟩:=zhj;exact hc pins s1 σ H1 vs us Q I1 r1 q1)) he hpl
end
end L2
namespace HT
open PySem PyProof.Rows
section
open PySem.SeqAt
open PySem.AutoSeq1 (wpAny_loadPart')
open PySem.MeetsSeq PySem.MeetsSeq2 PySem.MeetsSeq3
end
section
variable {prog:Program} {w:World} {A:Around} {E:Value→Shared→Prop} {s:Shared}
theorem cat_tup{t b:Addr}{vs ws:List Value}{Q:Value→Shared→Prop}(ht:IsTup s.heap t vs.toArray)(hb:IsTup s.heap b ws.toArray)(hv:vs≠[])
  (h1:ws=[]→Q (.ref t) s) (h2:ws≠[]→Q (.ref s.heap.objs.size) {s with heap:=s.heap.push {cls:=.type "tuple",data:=.seq (vs++ws).toArray}})
  (hsz:vs.length + ws.length≤sizeLine):wpAny (model prog w) A (binaryOp .Add (.ref t) (.ref b)) Q E s:=by
 obtain⟨⟨cls,dd,data,sl⟩,ho,hc,n,hd⟩:=id ht
 obtain⟨⟨cls2,dd2,data2,sl2⟩,ho2,hc2,n2,hd2⟩:=id hb
 simp only at hc hd hc2 hd2
 subst hc hd hc2 hd2
 have e:vs.toArray++ws.toArray=(vs++ws).toArray:=by simp
 by_cases hw:ws=[]
 ·exact concat_meets ⟨_,ho,rfl⟩ ⟨_,ho2,rfl⟩ noFill_tuple_add seq_tuple_add PySem.F.slot_tuple_add PySem.F.entry_tuple_add (PySem.F.args_tuple_add_2 _ _)
   (tuple_addW1 t b vs.toArray ws.toArray n n2 dd dd2 sl sl2 (by simpa using hv) (by simp[hw])) ⟨ho,ho2,h1 hw⟩
 ·refine concat_meets ⟨_,ho,rfl⟩ ⟨_,ho2,rfl⟩ noFill_tuple_add seq_tuple_add PySem.F.slot_tuple_add PySem.F.entry_tuple_add (PySem.F.args_tuple_add_2 _ _)
   (tuple_addW2 t b vs.toArray ws.toArray n n2 dd dd2 sl sl2 (by simpa using hv) (by simpa using hw) (by rw[List.size_toArray,List.size_toArray];exact hsz)) ⟨ho,ho2,?_⟩
  rw[e]
  exact h2 hw
def sIx(n d:Nat):Option Int→Nat
 | none=>d
 | some v=>if v < 0 then (v + (n:Int)).toNat else min v.toNat n
theorem sIx_none(n d:Nat):sIx n d none=d:=rfl
theorem sIx_nat(n d k:Nat):sIx n d (some (k:Int))=min k n:=by
 show(if (k:Int) < 0 then ((k:Int) + (n:Int)).toNat else min (k:Int).toNat n)=min k n
 rw[if_neg (by omega),Int.toNat_natCast]
theorem zdX(n d:Nat)(hd:d≤n)(o:Option Int):sIx n d o≤n:=by
 cases o with
 | none=>exact hd
 | some v =>
  show(if v < 0 then (v + (n:Int)).toNat else min v.toNat n)≤n
  by_cases hv:v < 0
  ·rw[if_pos hv];omega
  ·rw[if_neg hv];exact Nat.min_le_right _ _
theorem z9t(v:Int)(n d:Nat):(if v < 0 then max (v + (n:Int)) 0 else min v (n:Int))=((sIx n d (some v):Nat):Int):=by
 show(if v < 0 then max (v + (n:Int)) 0 else min v (n:Int))=(((if v < 0 then (v + (n:Int)).toNat else min v.toNat n):Nat):Int)
 by_cases hv:v < 0
 ·simp only[if_pos hv];omega
 ·simp only[if_neg hv];omega
theorem z8M(lo hi:Option Int)(n:Nat):Builtin.Slice.sliceAdjust lo hi 1 (n:Int)=(((sIx n 0 lo:Nat):Int),((sIx n n hi:Nat):Int)):=by
 have h1:¬ ((1:Int) < 0):=by omega
 unfold Builtin.Slice.sliceAdjust
 simp only[h1,if_false]
 refine Prod.ext ?_ ?_
 ·cases lo with
  | none=>rfl
  | some v=>exact z9t v n 0
 ·cases hi with
  | none=>rfl
  | some v=>exact z9t v n n
theorem z8N(i j:Nat):Builtin.Slice.slicePlaces (i:Int) (j:Int) 1=j - i:=by
 unfold Builtin.Slice.slicePlaces
 have h1:(1:Int) > 0:=by omega
 simp only[h1,if_true,Int.ediv_one]
 split <;> omega
theorem z5P{v:Value}{o:Option Int}{Q:Option Int→Shared→Prop}(p:IsPart v o)(h:Q o s):wpAny (model prog w) A (Builtin.Slice.slicePartIndex v) Q E s:=by
 cases p with
 | none=>exact slicePart_none h
 | int i t=>exact slicePart_int h
theorem z2D{sl:Addr}{vl vu:Value}{lo hi:Option Int}{n:Nat}{Q:Int × Int × Nat→Shared→Prop}(hs:s.heap.IsSliceOf sl vl vu .none)(pl:IsPart vl lo)(pu:IsPart vu hi)
  (h:Q (((sIx n 0 lo:Nat):Int),1,sIx n n hi - sIx n 0 lo) s):wpAny (model prog w) A (Builtin.Slice.sliceApplied (.ref sl) (pure (n:Int))) Q E s:=by
 obtain⟨os,hos,hcs,hds⟩:=id hs
 unfold Builtin.Slice.sliceApplied Builtin.Slice.sliceFields
 refine wpAny_bind (wpAny_bind (wpAny_field hos hds (x:=vl) rfl (wpAny_bind (wpAny_field hos hds (x:=vu) rfl (wpAny_bind (wpAny_field hos hds (x:=.none) rfl (wpAny_pure ?_)))))))
 refine wpAny_bind (slicePart_none ?_)
 show wpAny _ _ (if ((1:Int) == 0)=true then _ else _) _ _ s
 rw[if_neg (by decide)]
 refine wpAny_bind (z5P pl (wpAny_bind (z5P pu (wpAny_bind (wpAny_pure ?_)))))
 show wpAny _ _ (match Builtin.Slice.sliceAdjust lo hi 1 (n:Int) with | (lo,hi)=>pure (lo,(1:Int),Builtin.Slice.slicePlaces lo hi 1)) _ _ s
 rw[z8M lo hi n]
 show wpAny _ _ (pure (((sIx n 0 lo:Nat):Int),(1:Int),Builtin.Slice.slicePlaces ((sIx n 0 lo:Nat):Int) ((sIx n n hi:Nat):Int) 1)) _ _ s
 rw[z8N]
 exact wpAny_pure h
theorem zaY(xs:Array Value)(i k:Nat):((List.range k).filterMap fun(m:Nat)=>xs[((i:Int) + (m:Int) * 1).toNat]?).toArray=((xs.toList.drop i).take k).toArray:=by
 have e:(fun(m:Nat)=>xs[((i:Int) + (m:Int) * 1).toNat]?)=fun m=>xs[i + m]?:=by
  funext m
  have:((i:Int) + (m:Int) * 1).toNat=i + m:=by omega
  rw[this]
 rw[e]
 have:=pick_run xs i k
 rw[List.filterMap_map]at this
 have e2:((fun x=>xs[x]?) ∘ fun x=>i + x)=fun m=>xs[i + m]?:=rfl
 rw[e2]at this
 rw[this]
theorem getItem_tuple_cut{t sl:Addr}{items:Array Value}{vl vu:Value}{lo hi:Option Int}{Q:Value→Shared→Prop}(ht:IsTup s.heap t items)(hs:s.heap.IsSliceOf sl vl vu .none)(pl:IsPart vl lo)(pu:IsPart vu hi)
  (hw:¬ (sIx items.size 0 lo=0∧sIx items.size items.size hi=items.size))
  (h:Q (.ref s.heap.objs.size) {s with heap:=s.heap.push {cls:=.type "tuple",data:=.seq ((items.toList.drop (sIx items.size 0 lo)).take (sIx items.size items.size hi - sIx items.size 0 lo)).toArray}})
  (hsz:items.size≤sizeLine):wpAny (model prog w) A (getItem (.ref t) (.ref sl)) Q E s:=by
 have htake:sizeOk (.seq ((items.toList.drop (sIx items.size 0 lo)).take (sIx items.size items.size hi - sIx items.size 0 lo)).toArray):=by
  show((items.toList.drop (sIx items.size 0 lo)).take (sIx items.size items.size hi - sIx items.size 0 lo)).toArray.size≤sizeLine
  rw[List.size_toArray,List.length_take,List.length_drop,Array.length_toList]
  omega
 have hj:sIx items.size items.size hi≤items.size:=zdX _ _ (Nat.le_refl _) hi
 obtain⟨os,hos,hcs,hds⟩:=id hs
 have hTs:s.TypeIs (.ref sl) "slice":=⟨os,hos,hcs⟩
 unfold getItem
 try with_reducible refine wpAny_holding ?_
 first | refine wpAny_bind (wpAny_pure ?_) | skip
 refine wpAny_bind (wpAny_sequenceKey ht.typeIs (by decide) ?_)
 refine wpAny_bind (wpAny_callSpecial?_slot (name:=Str.ofString "__getitem__") ht.typeIs PyProof.Rows.slot_tuple_getitem
  (wpAny_call_entry PyProof.Rows.slot_tuple_getitem ht.typeIs entry_tuple_getitem ?_ (args_tuple_getitem _ _)))
 show wpAny _ _ (Builtin.Tuple.tupleItemsOf (.ref t) >>= _) _ _ s
 refine wpAny_bind (tupleItemsOf_ ht ?_)
 refine wpAny_bind (wpAny_typeOf hTs ?_)
 rw[if_pos (by decide)]
 refine wpAny_bind (z2D hs pl pu ?_)
 have hno:¬ ((((sIx items.size 0 lo:Nat):Int) == 0 && (1:Int) == 1 && (sIx items.size items.size hi - sIx items.size 0 lo) == items.size)=true):=by
  intro q
  rw[Bool.and_eq_true,Bool.and_eq_true]at q
  have q1:((sIx items.size 0 lo:Nat):Int)=0:=eq_of_beq q.1.1
  have q2:sIx items.size items.size hi - sIx items.size 0 lo=items.size:=eq_of_beq q.2
  exact hw ⟨by omega,by omega⟩
 show wpAny _ _ (if (((sIx items.size 0 lo:Nat):Int) == 0 && (1:Int) == 1 && (sIx items.size items.size hi - sIx items.size 0 lo) == items.size)=true then _ else _) _ _ s
 rw[if_neg hno,zaY]
 first
  | exact wpAny_bind (m:=Builtin.Tuple.tupleExact _) (wpAny_newObj_type (wpAny_pure ⟨_,rfl,wpAny_pure h⟩) htake)
  | exact wpAny_bind (m:=Builtin.Tuple.tupleExact _) (wpAny_newObj_type (wpAny_bind (wpAny_pure (wpAny_pure ⟨_,rfl,wpAny_pure h⟩))) htake)
  | exact wpAny_bind (wpAny_bind (m:=Builtin.Tuple.tupleExact _) (wpAny_newObj_type (wpAny_pure (wpAny_pure ⟨_,rfl,wpAny_pure h⟩)) htake))
  | exact wpAny_bind (wpAny_bind (m:=Builtin.Tuple.tupleExact _) (wpAny_newObj_type (wpAny_pure ⟨_,rfl,wpAny_pure h⟩) htake))
end
end HT
namespace L2
open PySem PySem.Spec PyProof.Rows
abbrev TO:=St→Hp→(Option Int→Hp→Prop)→Prop
def PO(X:Cx)(e:Option Expr)(t:TO):Prop :=
 ∀ (pins:List (Addr × Obj)) (s:Shared) (σ:St) (H:Hp) (Q:Option Int→Hp→Prop),Inv X pins σ H s→t σ H Q →
  wpAny (model X.prog X.w) X.A (evalPart e X.env) (fun u s'=>∃ o H',Inv X pins σ H' s'∧IsPart u o∧Q o H') X.xe s
def tNoPart:TO:=fun _ H Q=>Q none H
def tPart(t:TE):TO:=fun σ H Q=>t σ H fun x H1=>∃ i,x=.int i∧Q (some i) H1
section
variable {X:Cx} {e:Expr} {te:TE} {lo hi:Option Expr} {tl th:TO} {pos p2:Pos}
theorem z9u:PO X none tNoPart:=by
 intro pins s σ H Q I h
 rw[evalPart_none]
 exact wpAny_pure ⟨none,H,I,.none,h⟩
theorem z9v(h:PE X e te):PO X (some e) (tPart te):=by
 intro pins s σ H Q I hw
 rw[evalPart_some]
 refine thn (h pins s σ H _ I hw) fun u s1 zhk=>?_
 obtain⟨x,H1,I1,r1,q1⟩:=zhk
 obtain⟨i,rfl,q⟩:=q1
 obtain⟨t,rfl⟩:=r1
 exact⟨some i,H1,I1,.int i t,q⟩
def SlR(X:Cx)(r:V→Option Int→Option Int→Hp→VK→Prop):Prop :=
 ∀ (pins:List (Addr × Obj)) (s:Shared) (σ:St) (H:Hp) (x:V) (v vl vu:Value) (lo hi:Option Int) (sl:Addr) (Q:VK),Inv X pins σ H s→RelV x v→s.heap.IsSliceOf sl vl vu .none→IsPart vl lo→IsPart vu hi→r x lo hi H Q →
  ∃ T id,typeLookup (.type T) "__getitem__"=pure (some (.builtin id))∧s.TypeIs v T∧wpAny (model X.prog X.w) X.A (getItem v (.ref sl)) (EP X pins σ Q) X.xe s
theorem SlR.or{r r':V→Option Int→Option Int→Hp→VK→Prop}(h:SlR X r)(h':SlR X r'):SlR X (fun x lo hi H Q=>r x lo hi H Q∨r' x lo hi H Q):=by
 intro pins s σ H x v vl vu lo hi sl Q I rx hs pl pu q
 rcases q with q | q
 ·exact h pins s σ H x v vl vu lo hi sl Q I rx hs pl pu q
 ·exact h' pins s σ H x v vl vu lo hi sl Q I rx hs pl pu q
def tSl(r:V→Option Int→Option Int→Hp→VK→Prop)(te:TE)(tl th:TO):TE:=fun σ H Q=>te σ H fun x H1=>tl σ H1 fun l H2=>th σ H2 fun u H3=>r x l u H3 Q
theorem z83{r:V→Option Int→Option Int→Hp→VK→Prop}(hr:SlR X r)(he:PE X e te)(hl:PO X lo tl)(hu:PO X hi th):PE X (.Subscript e (.Slice lo hi none p2) pos) (tSl r te tl th):=by
 intro pins s σ H Q I h
 refine Subscript_ (thn (he pins s σ H _ I h) fun v s1 zhl=>?_)
 obtain⟨x,H1,I1,r1,q1⟩:=zhl
 refine wpAny_Slice (thn (hl pins s1 σ H1 _ I1 q1) fun vl s2 ⟨l,H2,I2,pl,q2⟩=>thn (hu pins s2 σ H2 _ I2 q2) fun vu s3 zhm=>?_)
 obtain⟨u,H3,I3,pu,q3⟩:=zhm
 rw[evalPart_none]
 refine wpAny_pure ?_
 have I4:Inv X pins σ H3 {s3 with heap:=s3.heap.push {cls:=.type "slice",data:=.fields #[vl,vu,.none]}}:=I3.kept (t':=s3.toks) fun b ob q=>Heap.get?_push_of_some _ q
 obtain⟨T,id,hT,ht,hg⟩:=hr pins {s3 with heap:=s3.heap.push {cls:=.type "slice",data:=.fields #[vl,vu,.none]}} σ H3 x v vl vu l u s3.heap.objs.size Q I4 r1 (Heap.IsSliceOf.new ..) pl pu q3
 show wpAny (model X.prog X.w) X.A (subscriptTail e (.Slice lo hi none p2) v (.ref s3.heap.objs.size)) (EP X pins σ Q) X.xe {s3 with heap:=s3.heap.push {cls:=.type "slice",data:=.fields #[vl,vu,.none]}}
 exact tail_any (ops:=[.ref s3.heap.objs.size,v]) ht hT hg (by with_unfolding_all rfl)
def cutV(xs:List V)(lo hi:Option Int):List V:=(xs.drop (HT.sIx xs.length 0 lo)).take (HT.sIx xs.length xs.length hi - HT.sIx xs.length 0 lo)
theorem z51(xs:List V)(lo hi:Option Int):(cutV xs lo hi).length≤xs.length:=by
 unfold cutV
 rw[List.length_take,List.length_drop]
 omega
def rSlT(K:PySem.W.Frag):V→Option Int→Option Int→Hp→VK→Prop:=fun x lo hi H Q=>∃ a xs,x=.ref a∧SqT K H a xs ∧
 ¬ (HT.sIx xs.length 0 lo=0∧HT.sIx xs.length xs.length hi=xs.length)∧∀ p,H p=none→Q (.ref p) (upd H p (.tup (cutV xs lo hi)))
theorem zdY:SlR X (rSlT X.K):=by
 intro pins s σ H x v vl vu lo hi sl Q I rx hs pl pu h
 obtain⟨a,xs,rfl,hx,hw,q⟩:=h
 cases rx
 obtain⟨its,r,ht,hz⟩:=I.tuple hx
 have hlen:its.toArray.size=xs.length:=by rw[List.size_toArray];exact r.length.symm
 refine⟨"tuple",_,PyProof.Rows.slot_tuple_getitem.lookup,ht.typeIs,?_⟩
 refine HT.getItem_tuple_cut ht hs pl pu (by rw[hlen];exact hw) ?_ (by rw[hlen];exact hz)
 rw[hlen]
 refine⟨.ref s.heap.objs.size,_,I.laid (t':=s.toks) (o:=.tup (cutV xs lo hi)) (fun b ob q=>Heap.get?_push_of_some _ q) (Nat.le_refl _) ?_,rfl,q _ (I.hok.fresh (Nat.le_refl _))⟩
 exact⟨Nat.le_trans (z51 xs lo hi) hz,_,(r.drop (HT.sIx xs.length 0 lo)).take (HT.sIx xs.length xs.length hi - HT.sIx xs.length 0 lo),IsTup.new _ _⟩
def rCatT(K:PySem.W.Frag):R2:=fun x y H Q=>∃ a b xs ys,x=.ref a∧y=.ref b∧SqT K H a xs∧SqT K H b ys∧xs≠[]∧xs.length + ys.length≤sizeLine ∧
 (ys=[]→Q (.ref a) H)∧(ys≠[]→∀ p,H p=none→Q (.ref p) (upd H p (.tup (xs++ys))))
theorem Vals.nil_iff{xs:List V}{us:List Value}(r:Vals xs us):us=[]↔xs=[]:=by
 cases r with
 | nil=>simp
 | cons _ _=>simp
theorem op_catT:OpR X (binaryOp .Add) (rCatT X.K):=by
 intro pins s σ H x y v u Q I rx ry h
 obtain⟨a,b,xs,ys,rfl,rfl,ha,hb,hx,hz,q1,q2⟩:=h
 cases rx
 cases ry
 obtain⟨its,r1,p1,_⟩:=I.tuple ha
 obtain⟨its2,r2,p2,_⟩:=I.tuple hb
 refine HT.cat_tup p1 p2 (fun z=>hx (r1.nil_iff.mp z)) (fun z=>⟨.ref a,H,I,rfl,q1 (r2.nil_iff.mp z)⟩) (fun z=>?_) (by rw[← r1.length,← r2.length];exact hz)
 refine⟨.ref s.heap.objs.size,_,I.laid (t':=s.toks) (o:=.tup (xs++ys)) (fun b ob q=>Heap.get?_push_of_some _ q) (Nat.le_refl _) ?_,rfl,q2 (fun w=>z (r2.nil_iff.mpr w)) _ (I.hok.fresh (Nat.le_refl _))⟩
 exact⟨by rw[List.length_append];exact hz,_,r1.append r2,IsTup.new _ _⟩
end
end L2
namespace L2
open PySem PySem.Spec PyProof.Rows
def ixN(n:Nat)(i:Int):Option Nat:=if 0≤i then (if i < n then some i.toNat else none) else if -(n:Int)≤i then some (i + n).toNat else none
def atI{α:Type}(xs:List α)(i:Int):Option α:=(ixN xs.length i).bind fun j=>xs[j]?
theorem z9w{n:Nat}{i:Int}{j:Nat}(h:ixN n i=some j):seqIndex? i n=some j∧j < n∧-(n:Int)≤i∧i < n:=by
 unfold ixN at h
 by_cases h0:0≤i
 ·rw[if_pos h0]at h
  by_cases h1:i < n
  ·rw[if_pos h1]at h
   have e:i.toNat=j:=Option.some.inj h
   exact⟨by rw[seqIndex_of h0 h1,e],by omega,by omega,h1⟩
  ·rw[if_neg h1]at h;cases h
 ·rw[if_neg h0]at h
  by_cases h1:-(n:Int)≤i
  ·rw[if_pos h1]at h
   have e:(i + n).toNat=j:=Option.some.inj h
   exact⟨by rw[seqIndex_neg (by omega) h1,e],by omega,h1,by omega⟩
  ·rw[if_neg h1]at h;cases h
theorem z7x{α:Type}{xs:List α}{i:Int}{v:α}(h:atI xs i=some v):∃ j,seqIndex? i xs.length=some j∧xs[j]?=some v∧j < xs.length∧-(xs.length:Int)≤i∧i < xs.length:=by
 unfold atI at h
 cases e:ixN xs.length i with
 | none=>rw[e]at h;cases h
 | some j =>
  rw[e]at h
  obtain⟨h1,h2,h3,h4⟩:=z9w e
  exact⟨j,h1,h,h2,h3,h4⟩
theorem atI_nat{α:Type}{xs:List α}{j:Nat}{v:α}(h:xs[j]?=some v):atI xs (j:Int)=some v:=by
 have hj:j < xs.length:=(List.getElem?_eq_some_iff.mp h).1
 have e:ixN xs.length (j:Int)=some j:=by
  unfold ixN
  rw[if_pos (by omega),if_pos (by omega)];simp
 unfold atI;rw[e];exact h
def PlainIx(b:Expr):Prop:=∀ o i,subscripted b false o i=operate [o,i] (getItem o i)
def IxR(X:Cx)(r:R2):Prop :=
 ∀ (value slice:Expr) (pins:List (Addr × Obj)) (s:Shared) (σ:St) (H:Hp) (x y:V) (v u:Value) (Q:VK),Inv X pins σ H s→RelV x v→RelV y u→r x y H Q →
  subscripted slice false v u=operate [v,u] (getItem v u)→wpAny (model X.prog X.w) X.A (subscriptTail value slice v u) (EP X pins σ Q) X.xe s
def MtR(X:Cx)(id:String)(r:V→List V→Hp→VK→Prop):Prop :=
 ∀ (pins:List (Addr × Obj)) (s:Shared) (σ:St) (H:Hp) (x:V) (xs:List V) (v:Value) (us:List Value) (Q:VK),Inv X pins σ H s→RelV x v→Vals xs us→r x xs H Q →
  wpAny (model X.prog X.w) X.A (call (.builtin id) (v::us)) (EP X pins σ Q) X.xe s
section
variable {X:Cx} {a b:Expr} {ta tb:TE} {pos:Pos}
theorem IxR.or{r r':R2}(h:IxR X r)(h':IxR X r'):IxR X (fun x y H Q=>r x y H Q∨r' x y H Q):=by
 intro value slice pins s σ H x y v u Q I rx ry q hs
 rcases q with q | q
 ·exact h value slice pins s σ H x y v u Q I rx ry q hs
 ·exact h' value slice pins s σ H x y v u Q I rx ry q hs
theorem zdZ{r:R2}(hr:IxR X r)(ha:PE X a ta)(hb:PE X b tb)(hs:PlainIx b):PE X (.Subscript a b pos) (tOp r ta tb):=by
 intro pins s σ H Q I h
 exact Subscript_ (binT ha hb I h fun v u s2 x y H2 I2 rx ry q=>hr a b pins s2 σ H2 x y v u Q I2 rx ry q (hs _ _))
def rIxL(K:PySem.W.Frag):R2:=fun x y H Q=>∃ p xs i v,x=.ref p∧y=.int i∧SqL K H p xs∧atI xs i=some v∧Q v H
def rIxT(K:PySem.W.Frag):R2:=fun x y H Q=>∃ p xs i v,x=.ref p∧y=.int i∧SqT K H p xs∧atI xs i=some v∧Q v H
def rIxS:R2:=fun x y H Q=>∃ z i c,x=.str z∧y=.int i∧z.length≤sizeLine∧atI z.cps.toList i=some c∧Q (.str ⟨#[c]⟩) H
theorem ix_list:IxR X (rIxL X.K):=by
 intro value slice pins s σ H x y v u Q I rx ry h hs
 obtain⟨p,xs,i,z,rfl,rfl,hq,he,q⟩:=h
 cases rx
 obtain⟨t,rfl⟩:=ry
 obtain⟨its,r,pl,hz⟩:=I.list hq
 obtain⟨j,h1,h2,h3,h4,h5⟩:=z7x he
 obtain⟨w,ew,rw'⟩:=r.get h2
 have hl:=r.length
 have hn:=line63
 have fin:EP X pins σ Q w s:=⟨z,H,I,rw',q⟩
 by_cases h0:0≤i
 ·have hj:i.toNat=j:=by
   rw[seqIndex_of h0 h5]at h1
   exact Option.some.inj h1
  exact item_listR pl.isList h0 (by omega) (by rw[hj];simpa using ew) fin hs
 ·have hj:(i + (its.toArray.size:Int)).toNat=j:=by
   rw[seqIndex_neg (by omega) h4]at h1
   rw[List.size_toArray,← hl]
   exact Option.some.inj h1
  exact subscriptTail_builtinR (x:=w) pl.isList.typeIs slot_list_getitem.lookup
   (wpAny_getItem_list_neg (Q:=fun r s'=>r=w∧EP X pins σ Q r s') pl.isList (by omega) (by rw[List.size_toArray] <;> omega) (by omega) (by rw[hj];simpa using ew) ⟨rfl,fin⟩) hs
theorem ix_tup:IxR X (rIxT X.K):=by
 intro value slice pins s σ H x y v u Q I rx ry h hs
 obtain⟨p,xs,i,z,rfl,rfl,hq,he,q⟩:=h
 cases rx
 obtain⟨t,rfl⟩:=ry
 obtain⟨its,r,pl,hz⟩:=I.tuple hq
 obtain⟨j,h1,h2,h3,h4,h5⟩:=z7x he
 obtain⟨w,ew,rw'⟩:=r.get h2
 have hl:=r.length
 have hn:=line63
 have fin:EP X pins σ Q w s:=⟨z,H,I,rw',q⟩
 exact subscriptTail_builtinR (x:=w) pl.typeIs slot_tuple_getitem.lookup
  (getItem_tuple (j:=j) (Q:=fun r s'=>r=w∧EP X pins σ Q r s') pl (by omega) (by omega) (by rw[List.size_toArray,← hl];exact h1) (by simpa using ew) ⟨rfl,fin⟩) hs
theorem ze0:IxR X rIxS:=by
 intro value slice pins s σ H x y v u Q I rx ry h hs
 obtain⟨z,i,c,rfl,rfl,hz,he,q⟩:=h
 obtain⟨t,rfl⟩:=rx
 obtain⟨t',rfl⟩:=ry
 obtain⟨j,h1,h2,h3,h4,h5⟩:=z7x he
 have hl:z.cps.toList.length=z.length:=by simp[Str.length]
 rw[hl]at h1 h4 h5
 have hn:=line63
 exact tail_any (typeIs_str s z t) slot_str_getitem.lookup (getItem_str (c:=c) (by
  have e1:decide (i < -(2 ^ 63:Int))=false:=decide_eq_false (by omega)
  have e2:decide (i ≥ 2 ^ 63)=false:=decide_eq_false (by omega)
  rw[e1,e2,Bool.or_false]) (by rw[h1];simpa using h2) ⟨.str ⟨#[c]⟩,H,I.tok _,⟨_,rfl⟩,q⟩) hs
def rIx(K:PySem.W.Frag):R2:=fun x y H Q=>rIxL K x y H Q∨rIxT K x y H Q∨rIxS x y H Q
theorem ix_seq:IxR X (rIx X.K):=ix_list.or (ix_tup.or ze0)
theorem z8O(its:List Value)(n j:Nat)(u:Value):Obj.mapSeq (·.setIfInBounds j u) {cls:=.type "list",data:=.seq its.toArray n}={cls:=.type "list",data:=.seq (its.set j u).toArray n}:=by
 simp[Obj.mapSeq]
theorem Inv.lst{pins:List (Addr × Obj)}{σ:St}{H:Hp}{s:Shared}{p:Addr}{xs:List V}(I:Inv X pins σ H s)(h:H p=some (.lst xs)) :
  ∃ (its:List Value) (n:Nat),Vals xs its∧s.heap.get? p=some {cls:=.type "list",data:=.seq its.toArray n}∧xs.length≤sizeLine:=by
 obtain⟨z,its,n,r,e⟩:=I.hok p _ h
 exact⟨its,n,r,e,z⟩
theorem Inv.lstUpd{pins:List (Addr × Obj)}{σ:St}{H:Hp}{s:Shared}{p:Addr}{xs ys:List V}{its its':List Value}{n n':Nat}{f:Obj→Obj}(I:Inv X pins σ H s)(h:H p=some (.lst xs))
  (ho:s.heap.get? p=some {cls:=.type "list",data:=.seq its.toArray n}) (hf:f {cls:=.type "list",data:=.seq its.toArray n}={cls:=.type "list",data:=.seq its'.toArray n'}) (r:Vals ys its') (hz:ys.length≤sizeLine) (t:Nat) :
  Inv X pins σ (upd H p (.lst ys)) {s with heap:=s.heap.update p f,toks:=t}:=by
 have e:(s.heap.update p f).get? p=some {cls:=.type "list",data:=.seq its'.toArray n'}:=by
  rw[Heap.get?_update_self f ho (by rw[hf] <;> rfl),hf]
 refine I.write (x:=p) (e:=p) (by rw[h];trivial) (.inl rfl) (fun b u hb q=>(Heap.get?_update_other _ _ (Ne.symm hb)).trans q) ⟨_,e⟩ ?_
 exact⟨hz,its',n',r,e⟩
def rSetL:V→V→V→Hp→(Hp→Prop)→Prop:=fun o i v H Q=>∃ p xs k j,o=.ref p∧i=.int k∧H p=some (.lst xs)∧ixN xs.length k=some j∧Q (upd H p (.lst (xs.set j v)))
theorem z84:PSet X rSetL:=by
 intro pins s σ H o i v ov iv u Q I ro ri rv h
 obtain⟨p,xs,k,j,rfl,rfl,hp,hj,q⟩:=h
 cases ro
 obtain⟨t,rfl⟩:=ri
 obtain⟨its,n,r,ho,hz⟩:=I.lst hp
 obtain⟨h1,h2,h3,h4⟩:=z9w hj
 have hl:=r.length
 have hn:=line63
 have I':Inv X pins σ (upd H p (.lst (xs.set j v))) {s with heap:=s.heap.update p (Obj.mapSeq (·.setIfInBounds j u))} :=
  I.lstUpd hp ho (z8O its n j u) (r.set rv j) (by rw[List.length_set];exact hz) s.toks
 by_cases h0:0≤k
 ·have hk:k.toNat=j:=by
   rw[seqIndex_of h0 h4]at h1
   exact Option.some.inj h1
  exact PySem.W.ki_setAt ho h0 (by omega) (by rw[List.size_toArray,← hl];exact h4) (by rw[hk];exact⟨_,I',q⟩)
 ·have hk:(k + (its.toArray.size:Int)).toNat=j:=by
   rw[seqIndex_neg (by omega) h3]at h1
   rw[List.size_toArray,← hl]
   exact Option.some.inj h1
  exact PySem.W.ki_setBack ho (by omega) (by rw[List.size_toArray,← hl];exact h3) (by omega) (by rw[hk];exact⟨_,I',q⟩)
theorem z6O(lo hi:Option Int)(n:Nat):(sliceBounds lo hi none n).1=((HT.sIx n 0 lo:Nat):Int)∧(sliceBounds lo hi none n).2.1=((HT.sIx n n hi:Nat):Int)∧(sliceBounds lo hi none n).2.2=1:=by
 refine⟨?_,?_,rfl⟩
 ·cases lo with
  | none=>simp[sliceBounds,HT.sIx]
  | some i =>
   simp only[sliceBounds,HT.sIx,Option.getD_none,show(1:Int) > 0 by decide,if_true]
   by_cases h:i < 0
   ·simp only[h,if_true] <;> omega
   ·simp only[h,if_false] <;> omega
 ·cases hi with
  | none=>simp[sliceBounds,HT.sIx]
  | some i =>
   simp only[sliceBounds,HT.sIx,Option.getD_none,show(1:Int) > 0 by decide,if_true]
   by_cases h:i < 0
   ·simp only[h,if_true] <;> omega
   ·simp only[h,if_false] <;> omega
theorem z67(its:List Value)(lo hi:Option Int):slicePick its.toArray lo hi none=((its.drop (HT.sIx its.length 0 lo)).take (HT.sIx its.length its.length hi - HT.sIx its.length 0 lo)).toArray:=by
 obtain⟨h1,h2,h3⟩:=z6O lo hi its.toArray.size
 unfold slicePick
 rw[h1,h2,h3]
 simp only[sliceRange_one,pick_run,List.size_toArray] <;> rfl
def rSlL(K:PySem.W.Frag):V→Option Int→Option Int→Hp→VK→Prop:=fun x lo hi H Q=>∃ a xs,x=.ref a∧SqL K H a xs∧∀ p,H p=none→Q (.ref p) (upd H p (.lst (cutV xs lo hi)))
theorem sl_list:SlR X (rSlL X.K):=by
 intro pins s σ H x v vl vu lo hi sl Q I rx hs pl pu h
 obtain⟨a,xs,rfl,hx,q⟩:=h
 cases rx
 obtain⟨its,r,ht,hz⟩:=I.list hx
 have hlen:=r.length
 refine⟨"list",_,slot_list_getitem.lookup,ht.isList.typeIs,?_⟩
 refine wpAny_getItem_list_slice ht.isList hs pl pu .none (by simp) ?_ (by rw[List.size_toArray] <;> omega)
 rw[z67,← hlen]
 refine⟨.ref s.heap.objs.size,_,I.laid (t':=s.toks) (o:=.lst (cutV xs lo hi)) (fun b ob q=>Heap.get?_push_of_some _ q) (Nat.le_refl _) ?_,rfl,q _ (I.hok.fresh (Nat.le_refl _))⟩
 exact⟨Nat.le_trans (z51 xs lo hi) hz,_,0,(r.drop (HT.sIx xs.length 0 lo)).take (HT.sIx xs.length xs.length hi - HT.sIx xs.length 0 lo),Heap.get?_push_size _ rfl⟩
theorem z4n:CallR X (.builtin "len") (fun xs H Q=>∃ p ys,xs=[.ref p]∧(SqL X.K H p ys∨SqT X.K H p ys)∧Q (.int ys.length) H):=by
 intro pins s σ H xs us Q I r h
 obtain⟨p,ys,rfl,hq,q⟩:=h
 obtain⟨u,rfl,rx⟩:=vals1 r
 cases rx
 have hn:=line63
 rcases hq with hq | hq
 ·obtain⟨its,r',pl,hz⟩:=I.list hq
  have hlen:=r'.length
  exact Calls.call_len_list pl.isList (by simp only[List.size_toArray] <;> omega) ⟨.int ys.length,H,I.tok _,⟨s.toks + 1,by rw[List.size_toArray,hlen]⟩,q⟩
 ·obtain⟨its,r',pl,hz⟩:=I.tuple hq
  have hlen:=r'.length
  exact len_tuple pl (by simp only[List.size_toArray] <;> omega) ⟨.int ys.length,H,I.tok _,⟨s.toks + 1,by rw[List.size_toArray,hlen]⟩,q⟩
theorem z2Q:CallR X (.type "list") (fun xs H Q=>∃ p ys,xs=[.ref p]∧(SqL X.K H p ys∨SqT X.K H p ys)∧∀ l,H l=none→Q (.ref l) (upd H l (.lst ys))):=by
 intro pins s σ H xs us Q I r h
 obtain⟨p,ys,rfl,hq,q⟩:=h
 obtain⟨u,rfl,rx⟩:=vals1 r
 cases rx
 have fin:∀ (its:List Value),Vals ys its→ys.length≤sizeLine→∀ (h':Heap) (c':Nat),(∀ b o',s.heap.get? b=some o'→h'.get? b=some o') →
   h'.get? s.heap.objs.size=some {cls:=.type "list",dict:=none,data:=.seq its.toArray c',slots:=#[]}→EP X pins σ Q (.ref s.heap.objs.size) {s with heap:=h'}:=fun its r' hz h' c' kp e =>
  ⟨.ref s.heap.objs.size,_,I.laid (t':=s.toks) kp (Nat.le_refl _) (show ObjOk X.prog X.w _ h' _ (.lst ys) from⟨hz,its,c',r',e⟩),rfl,q _ (I.hok.fresh (Nat.le_refl _))⟩
 rcases hq with hq | hq
 ·obtain⟨its,r',pl,hz⟩:=I.list hq
  have hlen:=r'.length
  obtain⟨o,ho,hc,n,hd⟩:=pl.isList
  exact call_list_seq p (.inl rfl) ho hc hd (fun h' c' kp e=>fin its r' hz h' c' kp e) (by simp only[List.size_toArray] <;> omega)
 ·obtain⟨its,r',pl,hz⟩:=I.tuple hq
  have hlen:=r'.length
  obtain⟨o,ho,hc,n,hd⟩:=pl
  exact call_list_seq p (.inr rfl) ho hc hd (fun h' c' kp e=>fin its r' hz h' c' kp e) (by simp only[List.size_toArray] <;> omega)
theorem z68:CallR X (.type "tuple") (fun xs H Q=>∃ p ys,xs=[.ref p]∧((SqL X.K H p ys∧∀ l,H l=none→Q (.ref l) (upd H l (.tup ys)))∨(SqT X.K H p ys∧Q (.ref p) H))):=by
 intro pins s σ H xs us Q I r h
 obtain⟨p,ys,rfl,h⟩:=h
 obtain⟨u,rfl,rx⟩:=vals1 r
 cases rx
 rcases h with ⟨hq,q⟩ | ⟨hq,q⟩
 ·obtain⟨its,r',pl,hz⟩:=I.list hq
  have hlen:=r'.length
  refine call_tuple_list pl.isList (fun h' kp=>?_) (by simp only[List.size_toArray] <;> omega)
  have I1:Inv X pins σ H {s with heap:=h'}:=I.kept (t':=s.toks) kp
  have I2:Inv X pins σ (upd H h'.objs.size (.tup ys)) {s with heap:=h'.push {cls:=.type "tuple",data:=.seq its.toArray}} :=
   I1.laid (t':=s.toks) (fun b o e=>Heap.get?_push_of_some _ e) (Nat.le_refl _) (show ObjOk X.prog X.w _ _ _ (.tup ys) from⟨hz,its,r',IsTup.new _ _⟩)
  exact⟨.ref h'.objs.size,_,I2,rfl,q _ (I1.hok.fresh (Nat.le_refl _))⟩
 ·obtain⟨its,r',pl,hz⟩:=I.tuple hq
  exact call_tuple_same pl ⟨.ref p,H,I,rfl,q⟩
def tyV(K:PySem.W.Frag)(T:String)(x:V)(H:Hp):Prop:=match x with
 | .str _=>T="str"
 | .int _=>T="int"
 | .ref p=>(T="list"∧∃ xs,SqL K H p xs)∨(T="tuple"∧∃ o,K.lookup p=some o∧o.cls=.type "tuple"∧o.dict=none) ∨
   (T="dict"∧((∃ kvs,H p=some (.dK kvs))∨∃ kvs,H p=some (.dT kvs)))∨(T="set"∧∃ S n,H p=some (.set S n))
 | _=>False
theorem zbV{pins:List (Addr × Obj)}{σ:St}{H:Hp}{s:Shared}{T:String}{x:V}{v:Value}(I:Inv X pins σ H s)(r:RelV x v)(ty:tyV X.K T x H) :
  s.TypeIs v T∧∀ a,v=.ref a→∃ ob,s.heap.get? a=some ob∧ob.dict=none:=by
 cases x with
 | str z =>
  obtain⟨t,rfl⟩:=r
  cases (show T="str" from ty)
  exact⟨typeIs_str s z t,fun _ e=>nomatch e⟩
 | int i =>
  obtain⟨t,rfl⟩:=r
  cases (show T="int" from ty)
  exact⟨typeIs_int s i t,fun _ e=>nomatch e⟩
 | ref p =>
  cases r
  rcases ty with ⟨rfl,xs,hq⟩ | ⟨rfl,o,hk,hc,hd⟩ | ⟨rfl,hk⟩ | ⟨rfl,S,n,hk⟩
  ·obtain⟨its,_,pl,_⟩:=I.list hq
   refine⟨pl.isList.typeIs,fun a e=>?_⟩
   cases e
   obtain⟨o,n,e,c,hd,_⟩:=pl
   exact⟨o,e,hd⟩
  ·refine⟨⟨o,I.kIn p o hk,hc⟩,fun a e=>?_⟩
   cases e
   exact⟨o,I.kIn _ o hk,hd⟩
  ·have z:∃ o,s.heap.get? p=some o∧o.ExactDict:=by
    rcases hk with ⟨kvs,hk⟩ | ⟨kvs,hk⟩
    ·obtain⟨_,_,_,_,o,_,_,e,ex,_⟩:=I.hok p _ hk
     exact⟨o,e,ex⟩
    ·obtain⟨_,_,_,_,o,_,_,e,ex,_⟩:=I.hok p _ hk
     exact⟨o,e,ex⟩
   obtain⟨o,e,ex⟩:=z
   refine⟨⟨o,e,ex.1⟩,fun a e2=>?_⟩
   cases e2
   exact⟨o,e,ex.2.1⟩
  ·obtain⟨o,_,_,_,e,ex,_⟩:=I.hok p _ hk
   refine⟨⟨o,e,ex.1⟩,fun a e2=>?_⟩
   cases e2
   exact⟨o,e,ex.2.1⟩
 | _=>exact False.elim ty
def tBM0(K:PySem.W.Frag)(T:String)(r:V→List V→Hp→VK→Prop)(to:TE):TE:=fun σ H Q=>to σ H fun x H1=>tyV K T x H1∧r x [] H1 Q
def tBM(K:PySem.W.Frag)(T:String)(r:V→List V→Hp→VK→Prop)(to:TE)(t:TA):TE:=fun σ H Q=>to σ H fun x H1=>tyV K T x H1∧t σ H1 fun xs H2=>r x xs H2 Q
variable {o e:Expr} {es:List Expr} {to:TE} {t:TA} {name:Str} {apos cpos:Pos} {T id:String} {r:V→List V→Hp→VK→Prop}
theorem ze1(pa:PlainAttrs T)(slot:Slot T name id)(hty:typeOf (.builtin id)=pure (.type "method_descriptor"))(hm:MtR X id r)(ho:PE X o to)
  (hbase:attributeBase o name X.env (eval o X.env)=eval o X.env:=by rfl) (hline:(apos.endLine == cpos.line)=true:=by rfl):PE X (.Call (.Attribute o name apos) [] [] cpos) (tBM0 X.K T r to):=by
 intro pins s σ H Q I h
 refine wpAny_Call_method0_late hbase hline (thn (ho pins s σ H _ I h) fun v s1 zhn=>?_)
 obtain⟨x,H1,I1,r1,ty,q1⟩:=zhn
 obtain⟨h1,h2⟩:=zbV I1 r1 ty
 exact⟨T,id,pa,slot,hty,h1,h2,Calls.callWith_builtin rfl (PySem.evalArgs_none (hm pins s1 σ H1 x [] v [] Q I1 r1 .nil q1))⟩
theorem zgC(pa:PlainAttrs T)(slot:Slot T name id)(hty:typeOf (.builtin id)=pure (.type "method_descriptor"))(hm:MtR X id r)(ho:PE X o to)(ha:PA X (e::es) t)
  (hbase:attributeBase o name X.env (eval o X.env)=eval o X.env:=by rfl)
  (hfew:((backTo cpos (starEach (e::es) X.env)).all (fun x=>!x.1) && (backToKw cpos (keywordEach [] X.env)).all (fun x=>x.1.isSome)
   && decide ((e::es).length + ([]:List Keyword).length + (if ([]:List Keyword).isEmpty then 0 else 1) < 30))=true:=by rfl)
  (hline:(apos.endLine == cpos.line)=true:=by rfl) (hs:starEach (e::es) X.env=(false,eval e X.env)::starEach es X.env:=by rfl) (hplain:(backTo cpos (starEach es X.env)).any (·.1)=false:=by rfl) :
  PE X (.Call (.Attribute o name apos) (e::es) [] cpos) (tBM X.K T r to t):=by
 intro pins s σ H Q I h
 refine wpAny_Call_method_late hbase hfew hline rfl (thn (ho pins s σ H _ I h) fun v s1 zho=>?_)
 obtain⟨x,H1,I1,r1,ty,q1⟩:=zho
 obtain⟨h1,h2⟩:=zbV I1 r1 ty
 refine⟨T,id,pa,slot,hty,h1,h2,?_⟩
 have hA:=ha cpos pins s1 σ H1 _ I1 q1
 rw[hs]at hA ⊢
 refine Calls.callWith_builtin (by show(false || (backTo cpos (starEach es X.env)).any (·.1))=false;rw[hplain] <;> rfl) (Calls.evalArgs_plain ?_)
 exact thn hA fun us s2 zhp=>(by obtain⟨vs,H2,I2,r2,q2⟩:=zhp;exact hm pins s2 σ H2 x vs v us Q I2 r1 r2 q2)
end
end L2
namespace L2
open PySem PySem.Spec PyProof.Rows
def MtM(X:Cx)(id:String)(r:V→List V→Hp→VK→Prop):Prop :=
 ∀ (pins:List (Addr × Obj)) (s:Shared) (σ:St) (H:Hp) (x:V) (xs:List V) (v:Value) (us:List Value) (Q:VK),Inv X pins σ H s→RelV x v→Vals xs us→r x xs H Q →
  wpAny (model X.prog X.w) X.A (call (.builtin id) (v::us)) (EP X pins σ Q) X.xe s
theorem Vals.one{x:V}{us:List Value}(h:Vals [x] us):∃ u,us=[u]∧RelV x u:=by
 cases h with
 | cons r h =>
  cases h
  exact⟨_,rfl,r⟩
theorem Vals.two{x y:V}{us:List Value}(h:Vals [x,y] us):∃ u v,us=[u,v]∧RelV x u∧RelV y v:=by
 cases h with
 | cons r h =>
  cases h with
  | cons q h =>
   cases h
   exact⟨_,_,rfl,r,q⟩
theorem Vals.zero:∀ {us:List Value},Vals [] us→us=[]
 | _,.nil=>rfl
theorem Vals.dropLast{xs:List V}{us:List Value}(h:Vals xs us):Vals xs.dropLast us.dropLast:=by
 induction h with
 | nil=>exact .nil
 | cons r t ih =>
  cases t with
  | nil=>exact .nil
  | cons q t'=>exact .cons r ih
theorem Vals.rep{xs:List V}{us:List Value}(h:Vals xs us):∀ k:Nat,Vals (List.replicate k xs).flatten (List.replicate k us).flatten
 | 0=>.nil
 | k + 1=>by
  rw[List.replicate_succ,List.replicate_succ,List.flatten_cons,List.flatten_cons]
  exact Vals.append h (Vals.rep h k)
theorem z8P{α:Type}(l:List α):l.eraseIdx (l.length - 1)=l.dropLast:=by
 induction l with
 | nil=>rfl
 | cons a r ih =>
  cases r with
  | nil=>rfl
  | cons b r =>
   have e:(a::b::r).length - 1=((b::r).length - 1) + 1:=by
    have h1:(a::b::r).length=r.length + 2:=rfl
    have h2:(b::r).length=r.length + 1:=rfl
    omega
   rw[e,List.eraseIdx_cons_succ,ih]
   all_goals rfl
theorem z6P(its:List Value):∀ (k:Nat) (acc:List Value),
  List.foldl (fun x1 x2=>x1++x2) acc.toArray (List.replicate k its.toArray)=(acc++(List.replicate k its).flatten).toArray
 | 0,acc=>by simp
 | k + 1,acc=>by
  have e:acc.toArray++its.toArray=(acc++its).toArray:=by simp
  have e2:(acc++its)++(List.replicate k its).flatten=acc++(List.replicate (k + 1) its).flatten:=by
   rw[List.replicate_succ,List.flatten_cons,List.append_assoc]
  rw[← e2,← z6P its k (acc++its),← e,List.replicate_succ,List.foldl_cons]
section
variable {X:Cx} {pins:List (Addr × Obj)} {σ:St} {H:Hp} {s:Shared} {l b:Addr} {xs ys zs:List V}
theorem Inv.lset{its its':List Value}{n:Nat}{f:Array Value→Array Value}{t':Nat}(I:Inv X pins σ H s)(hH:H l=some (.lst xs))
  (e:s.heap.get? l=some {cls:=.type "list",data:=.seq its.toArray n}) (hf:f its.toArray=its'.toArray) (hv:Vals ys its') (hz:ys.length≤sizeLine) :
  Inv X pins σ (upd H l (.lst ys)) {s with heap:=s.heap.update l (Obj.mapSeq f),toks:=t'}:=by
 have q:=PySem.IsL.update e f
 rw[hf]at q
 refine I.write (x:=l) (e:=l) (by rw[hH];exact trivial) (.inl rfl) (fun b' u hb hu=>(Heap.get?_update_other s.heap (Obj.mapSeq f) (Ne.symm hb)).trans hu) ⟨_,q⟩ ?_
 exact⟨hz,its',_,hv,q⟩
theorem Inv.lnew{its:List Value}{t':Nat}(I:Inv X pins σ H s)(hv:Vals ys its)(hz:ys.length≤sizeLine) :
  Inv X pins σ (upd H s.heap.objs.size (.lst ys)) {s with heap:=s.heap.push {cls:=.type "list",data:=.seq its.toArray},toks:=t'} :=
 I.laid (fun _ _ q=>Heap.get?_push_of_some _ q) (Nat.le_refl _) ⟨hz,its,0,hv,Heap.get?_push_size _ rfl⟩
theorem Inv.fresh(I:Inv X pins σ H s):H s.heap.objs.size=none:=I.hok.fresh (Nat.le_refl _)
theorem Inv.lstM(I:Inv X pins σ H s)(hH:H l=some (.lst xs)):xs.length≤sizeLine∧∃ (its:List Value) (n:Nat),Vals xs its∧xs.length=its.length∧s.heap.get? l=some {cls:=.type "list",data:=.seq its.toArray n}:=by
 obtain⟨z,its,n,r,e⟩:=I.hok l _ hH
 exact⟨z,its,n,r,r.length,e⟩
theorem notLongL{n:Nat}(h:n≤sizeLine):Builtin.List.listTooLong n=false:=by
 unfold Builtin.List.listTooLong
 exact decide_eq_false (by omega)
end
section
variable {X:Cx}
def rAppend:V→List V→Hp→VK→Prop:=fun x vs H Q=>∃ l xs y,x=.ref l∧vs=[y]∧H l=some (.lst xs)∧xs.length < sizeLine∧Q .non (upd H l (.lst (xs++[y])))
theorem z9x:MtM X "list.append" rAppend:=by
 intro pins s σ H x vs v us Q I rx rv h
 obtain⟨l,xs,y,rfl,rfl,hH,hz,q⟩:=h
 cases rx
 obtain⟨u,rfl,ru⟩:=rv.one
 obtain⟨z,its,n,r,hl,e⟩:=I.lstM hH
 refine call_meets F.slot_list_append ⟨_,e,rfl⟩ F.entry_list_append (F.args_list_append_2 _ _) (PySem.list_append l its.toArray n u (by rw[List.size_toArray];omega)) ⟨e,?_⟩
 refine⟨.non,_,I.lset (its':=its++[u]) hH e (by simp) (r.append (.cons ru .nil)) ?_,rfl,q⟩
 rw[List.length_append,List.length_singleton]
 omega
def rPop:V→List V→Hp→VK→Prop:=fun x vs H Q=>∃ l xs y,x=.ref l∧vs=[]∧H l=some (.lst xs)∧xs[xs.length - 1]?=some y∧Q y (upd H l (.lst xs.dropLast))
theorem ze2:MtM X "list.pop" rPop:=by
 intro pins s σ H x vs v us Q I rx rv h
 obtain⟨l,xs,y,rfl,rfl,hH,hy,q⟩:=h
 cases rx
 have hus:=rv.zero
 subst hus
 obtain⟨z,its,n,r,hl,e⟩:=I.lstM hH
 obtain⟨u,hu,ru⟩:=r.get hy
 have hy':its.toArray[its.toArray.size - 1]?=some u:=by
  show its.toArray[its.length - 1]?=some u
  rw[← Array.getElem?_toList,← hl]
  exact hu
 refine call_meets F.slot_list_pop ⟨_,e,rfl⟩ F.entry_list_pop (F.args_list_pop_1 _) (MeetsSeq.list_pop_last l its.toArray n u hy' (by rw[List.size_toArray];omega)) ⟨e,?_⟩
 refine⟨y,_,I.lset (its':=its.dropLast) hH e ?_ r.dropLast ?_,ru,q⟩
 ·show its.toArray.eraseIdxIfInBounds (its.toArray.size - 1)=its.dropLast.toArray
  rw[List.size_toArray,List.eraseIdxIfInBounds_toArray,z8P]
 ·rw[List.length_dropLast]
  omega
def rCat:R2:=fun x y H Q=>∃ l b xs zs,x=.ref l∧y=.ref b∧H l=some (.lst xs)∧H b=some (.lst zs)∧xs.length + zs.length≤sizeLine∧∀ p,H p=none→Q (.ref p) (upd H p (.lst (xs++zs)))
theorem zbW:OpR X (binaryOp .Add) rCat:=by
 intro pins s σ H x y v u Q I rx ry h
 obtain⟨l,b,xs,zs,rfl,rfl,hH,hB,hz,q⟩:=h
 cases rx
 cases ry
 obtain⟨z,its,n,r,hl,e⟩:=I.lstM hH
 obtain⟨z2,its2,n2,r2,hl2,e2⟩:=I.lstM hB
 refine PySem.P.add_list e e2 ?_ (by rw[List.size_toArray,List.size_toArray];omega)
 have ea:its.toArray++its2.toArray=(its++its2).toArray:=by simp
 rw[ea]
 exact⟨.ref _,_,I.lnew (t':=s.toks) (r.append r2) (by rw[List.length_append];omega),rfl,q _ I.fresh⟩
def rRep:R2:=fun x y H Q=>∃ l k xs,x=.ref l∧y=.int k∧H l=some (.lst xs)∧-(2 ^ 63)≤k∧k < 2 ^ 63∧xs.length * k.toNat≤sizeLine ∧
 ∀ p,H p=none→Q (.ref p) (upd H p (.lst (List.replicate k.toNat xs).flatten))
theorem zcw{α:Type}(xs:List α)(k:Nat):(List.replicate k xs).flatten.length=k * xs.length:=by
 induction k with
 | zero=>simp
 | succ k ih=>rw[List.replicate_succ,List.flatten_cons,List.length_append,ih,Nat.succ_mul,Nat.add_comm]
theorem zbX:OpR X (binaryOp .Mult) rRep:=by
 intro pins s σ H x y v u Q I rx ry h
 obtain⟨l,k,xs,rfl,rfl,hH,h1,h2,hz,q⟩:=h
 cases rx
 obtain⟨t,rfl⟩:=ry
 obtain⟨z,its,n,r,hl,e⟩:=I.lstM hH
 have hlen:its.toArray.size * k.toNat≤sizeLine:=by rw[List.size_toArray,← hl];exact hz
 have hcap:¬ its.toArray.size * k.toNat > (2 ^ 63 - 1) / 8:=by
  have:(sizeLine:Nat)≤(2 ^ 63 - 1) / 8:=by decide
  omega
 have hfit:¬ (!Builtin.List.listFitsIndex k)=true:=by
  rw[fitsIndex_both h1 h2]
  exact Bool.false_ne_true
 have hlong:¬ Builtin.List.listTooLong (its.toArray.size * k.toNat)=true:=by
  rw[notLongL hlen]
  exact Bool.false_ne_true
 have hnew:List.foldl (fun x1 x2=>x1++x2) #[] (List.replicate (if its.toArray.isEmpty=true then 0 else k.toNat) its.toArray)=(List.replicate k.toNat its).flatten.toArray:=by
  have f0:∀ m:Nat,List.foldl (fun x1 x2=>x1++x2) #[] (List.replicate m its.toArray)=(List.replicate m its).flatten.toArray:=fun m=>by
   have:=z6P its m []
   rw[List.nil_append]at this
   exact this
  rw[f0]
  cases its with
  | nil=>simp
  | cons a r'=>rw[if_neg (by simp)]
 refine wpAny_binaryOp_repeat_ref (T:="list") (U:="int") (by decide) ⟨_,e,rfl⟩ (fun s'=>typeIs_int s' k t) noFill_list_mul F.fills_int_mul F.slot_int_rmul repeat_list F.slot_int_index.lookup
  (call_meets F.slot_int_rmul (typeIs_int s k t) F.entry_int_rmul (F.args_int_rmul_2 _ _) (int___rmul___int_list k t l its.toArray n)
   ⟨e,rfl,⟨_,e,rfl⟩,call_meets F.slot_list_mul ⟨_,e,rfl⟩ F.entry_list_mul (F.args_list_mul_2 _ _) (AutoListH.list___mul___list_int_3 l its.toArray n k t hfit hcap hlong) ⟨e,?_⟩⟩)
 rw[hnew]
 exact⟨.ref _,_,I.lnew (t':=s.toks) (r.rep k.toNat) (by rw[zcw,Nat.mul_comm];exact hz),rfl,q _ I.fresh⟩
end
section
variable {prog:Program} {w:World} {A:Around} {E:Value→Shared→Prop} {s:Shared}
end
section
variable {X:Cx}
end
end L2
namespace L2
open PySem PySem.Spec PyProof.Rows
section
variable {κ:Type} [DecidableEq κ]
def valV(kvs:List (κ × V))(k:κ):Option V:=(kvs.find? fun kv=>decide (kv.1=k)).map (·.2)
def putK(kvs:List (κ × V))(k:κ)(v:V):List (κ × V) :=
 if (kvs.any fun kv=>decide (kv.1=k))=true then kvs.map (fun kv=>if kv.1=k then (kv.1,v) else kv) else kvs++[(k,v)]
theorem z3O{p:κ × V}{r:List (κ × V)}{k:κ}(e:p.1=k):valV (p::r) k=some p.2:=by simp[valV,List.find?_cons,e]
theorem z4I{p:κ × V}{r:List (κ × V)}{k:κ}(e:¬ p.1=k):valV (p::r) k=valV r k:=by simp[valV,List.find?_cons,e]
theorem z69(k:κ):∀ kvs:List (κ × V),(kvs.any fun kv=>decide (kv.1=k))=(valV kvs k).isSome
 | []=>rfl
 | p::r=>by
  rw[List.any_cons]
  by_cases e:p.1=k
  ·simp only[z3O e,decide_eq_true e,Bool.true_or,Option.isSome_some]
  ·rw[z4I e,decide_eq_false e,Bool.false_or];exact z69 k r
theorem z3z(kvs:List (κ × V))(k:κ)(v:V):(putK kvs k v).length≤kvs.length + 1:=by
 unfold putK
 split
 ·rw[List.length_map];omega
 ·rw[List.length_append,List.length_cons,List.length_nil];omega
theorem RelO.isSome_eq{o:Option V}{u:Option Value}(r:RelO o u):o.isSome=u.isSome:=by
 cases o with
 | none=>cases u with
  | none=>rfl
  | some _=>exact(show False from r).elim
 | some _=>cases u with
  | none=>exact(show False from r).elim
  | some _=>rfl
theorem KV.val{kvs:List (κ × V)}{vs:List (κ × Value)}(r:KV kvs vs)(k:κ):RelO (valV kvs k) (valueAt vs k):=by
 unfold KV at r
 induction r with
 | nil=>exact True.intro
 | @cons p q ps qs h t ih =>
  obtain⟨h1,h2⟩:=h
  by_cases e:p.1=k
  ·have e':q.1=k:=h1.symm.trans e
   have b:valueAt (q::qs) k=some q.2:=by simp[valueAt,List.find?_cons,e']
   rw[z3O e,b];exact h2
  ·have e':¬ q.1=k:=fun z=>e (h1.trans z)
   have b:valueAt (q::qs) k=valueAt qs k:=by simp[valueAt,List.find?_cons,e']
   rw[z4I e,b];exact ih
theorem KV.any{kvs:List (κ × V)}{vs:List (κ × Value)}(r:KV kvs vs)(k:κ):(kvs.any fun kv=>decide (kv.1=k))=vs.any fun kv=>decide (kv.1=k):=by
 unfold KV at r
 induction r with
 | nil=>rfl
 | cons h t ih=>rw[List.any_cons,List.any_cons,ih,h.1]
theorem KV.repl{kvs:List (κ × V)}{vs:List (κ × Value)}(r:KV kvs vs)(k:κ){y:V}{u:Value}(ry:RelV y u) :
  KV (kvs.map fun kv=>if kv.1=k then (kv.1,y) else kv) (vs.map fun kv=>if kv.1=k then (kv.1,u) else kv):=by
 unfold KV at r ⊢
 induction r with
 | nil=>exact .nil
 | @cons p q ps qs h t ih =>
  rw[List.map_cons,List.map_cons]
  refine .cons ?_ ih
  obtain⟨h1,h2⟩:=h
  by_cases e:p.1=k
  ·rw[if_pos e,if_pos (h1.symm.trans e)];exact⟨h1,ry⟩
  ·rw[if_neg e,if_neg (fun z=>e (h1.trans z))];exact⟨h1,h2⟩
theorem KV.put{kvs:List (κ × V)}{vs:List (κ × Value)}(r:KV kvs vs)(k:κ){y:V}{u:Value}(ry:RelV y u):KV (putK kvs k y) (stored vs k u):=by
 unfold putK stored
 rw[r.any k]
 by_cases e:(vs.any fun kv=>decide (kv.1=k))=true
 ·rw[if_pos e,if_pos e];exact r.repl k ry
 ·rw[if_neg e,if_neg e];exact Paired.snoc r ⟨rfl,ry⟩
theorem KV.length{kvs:List (κ × V)}{vs:List (κ × Value)}(r:KV kvs vs):kvs.length=vs.length:=Paired.length r
end
theorem zaZ{P:Program}{w:World}{k:Key}{u:Value}(r:RelV (kV k) u):(mixKind P w).is k u=true:=by
 cases k with
 | inl i=>obtain⟨t,e⟩:=(show ∃ t,u=Value.int i t from r);subst e;exact z7t P w i t
 | inr x=>obtain⟨t,e⟩:=(show ∃ t,u=Value.str x t from r);subst e;exact z7u P w x t
theorem z6Q{P:Program}{w:World}:∀ {ks:List Key} {us:List Value},Vals (ks.map kV) us→ItemsAre (mixKind P w) ks us
 | [],_,r=>by rw[List.map_nil]at r;cases r;exact .nil
 | k::ks,_,r=>by
  rw[List.map_cons]at r
  cases r with
  | cons h t=>exact .cons (zaZ h) (z6Q t)
abbrev KT(H:Hp):List (List Key × V)→List (List Key × Addr × Value)→Prop:=Paired fun p q=>p.1=q.1∧H q.2.1=some (.tup (p.1.map kV))∧RelV p.2 q.2.2
theorem KT.val{H:Hp}{kvs:List (List Key × V)}{xs:List (List Key × Addr × Value)}(r:KT H kvs xs)(k:List Key):RelO (valV kvs k) ((atKey xs k).map (·.2)):=by
 induction r with
 | nil=>exact True.intro
 | @cons p q ps qs h t ih =>
  obtain⟨h1,_,h2⟩:=h
  by_cases e:p.1=k
  ·have e':q.1=k:=h1.symm.trans e
   have b:atKey (q::qs) k=some q.2:=by simp[atKey,List.find?_cons,e']
   rw[z3O e,b];exact h2
  ·have e':¬ q.1=k:=fun z=>e (h1.trans z)
   have b:atKey (q::qs) k=atKey qs k:=by simp[atKey,List.find?_cons,e']
   rw[z4I e,b];exact ih
theorem KT.repl{H:Hp}{kvs:List (List Key × V)}{xs:List (List Key × Addr × Value)}(r:KT H kvs xs)(k:List Key){y:V}{u:Value}(ry:RelV y u) :
  KT H (kvs.map fun kv=>if kv.1=k then (kv.1,y) else kv) (xs.map (putAt k u)):=by
 induction r with
 | nil=>exact .nil
 | @cons p q ps qs h t ih =>
  rw[List.map_cons,List.map_cons]
  refine .cons ?_ ih
  obtain⟨h1,h2,h3⟩:=h
  unfold putAt
  by_cases e:p.1=k
  ·rw[if_pos e,if_pos (h1.symm.trans e)];exact⟨h1,h2,ry⟩
  ·rw[if_neg e,if_neg (fun z=>e (h1.trans z))];exact⟨h1,h2,h3⟩
theorem KT.put{H:Hp}{kvs:List (List Key × V)}{xs:List (List Key × Addr × Value)}(r:KT H kvs xs)(k:List Key){b:Addr}{y:V}{u:Value}(hb:H b=some (.tup (k.map kV)))(ry:RelV y u) :
  KT H (putK kvs k y) (storedH xs k b u):=by
 have e:(kvs.any fun kv=>decide (kv.1=k))=(atKey xs k).isSome:=by
  rw[z69,(r.val k).isSome_eq,Option.isSome_map]
 unfold putK storedH
 rw[e]
 by_cases q:(atKey xs k).isSome=true
 ·rw[if_pos q,if_pos q];exact r.repl k ry
 ·rw[if_neg q,if_neg q];exact Paired.snoc r ⟨rfl,hb,ry⟩
theorem KT.keeps{H H':Hp}{kvs:List (List Key × V)}{xs:List (List Key × Addr × Value)}(r:KT H kvs xs)(ht:∀ b ys,H b=some (.tup ys)→H' b=some (.tup ys)):KT H' kvs xs :=
 Paired.mapP r fun _ _ z=>⟨z.1,ht _ _ z.2.1,z.2.2⟩
section
variable {P:Program} {w:World} {H:Hp} {h:Heap} {a:Addr}
theorem ze3{u:HO}(ok:HOk P w H h)(e:Rd H a u):ObjOk P w H h a u:=e.ok ok
theorem zcx{kvs:List (Key × V)}(ok:HOk P w H h)(e:Rd H a (.dK kvs)):kvs.length≤sizeLine∧(a == sysModules)=false∧∃ vs,KV kvs vs∧h.DictOf (mixKind P w) a vs :=
 show ObjOk P w H h a (.dK kvs) from ze3 ok e
theorem ze4{kvs:List (Key × V)}(ok:HOk P w H h)(e:H a=some (.dK kvs)):kvs.length≤sizeLine∧(a == sysModules)=false∧∃ vs,KV kvs vs∧h.DictOf (mixKind P w) a vs:=zcx ok (.inl e)
theorem z9y{ks:List Key}(ok:HOk P w H h)(e:H a=some (.tup (ks.map kV))):(tupleKind (mixKind P w)).is h ks a:=by
 obtain⟨_,its,r,o,h1,h2,n,h3⟩:=(show ObjOk P w H h a (.tup (ks.map kV)) from ok a _ e)
 exact⟨o,its.toArray,n,h1,h2,h3,by simpa using z6Q r⟩
theorem zcy{kvs:List (List Key × V)}(ok:HOk P w H h)(e:Rd H a (.dT kvs)):kvs.length≤sizeLine∧(a == sysModules)=false ∧
  ∃ xs,KT H kvs xs∧h.DictOfH (tupleKind (mixKind P w)) a xs:=by
 obtain⟨z,y,xs,r,o,es,ep,h1,h2,h3,h4,h5⟩:=(show ObjOk P w H h a (.dT kvs) from ze3 ok e)
 refine⟨z,y,xs,r,o,es,ep,h1,h2,h3,h4,fun x hx=>?_,h5⟩
 have all:∀ {l:List (List Key × V)} {m:List (List Key × Addr × Value)},KT H l m→∀ x∈m,(tupleKind (mixKind P w)).is h x.1 x.2.1:=by
  intro l m q
  induction q with
  | nil=>intro x hx;exact nomatch hx
  | @cons p q ps qs hq t ih =>
   intro x hx
   rcases List.mem_cons.mp hx with e | hx
   ·subst e
    exact z9y ok (by rw[← hq.1];exact hq.2.1)
   ·exact ih x hx
 exact all r x hx
theorem zgD{kvs:List (List Key × V)}(ok:HOk P w H h)(e:H a=some (.dT kvs)):kvs.length≤sizeLine∧(a == sysModules)=false ∧
  ∃ xs,KT H kvs xs∧h.DictOfH (tupleKind (mixKind P w)) a xs:=zcy ok (.inl e)
end
def DGet(H:Hp)(a:Addr)(y:V)(r:Option V):Prop :=
 (∃ kvs k,Rd H a (.dK kvs)∧y=kV k∧r=valV kvs k)∨∃ kvs k b,Rd H a (.dT kvs)∧y=.ref b∧H b=some (.tup (k.map kV))∧r=valV kvs k
def DPut(H:Hp)(a:Addr)(y v:V)(H':Hp):Prop :=
 (∃ kvs k,H a=some (.dK kvs)∧y=kV k∧kvs.length < sizeLine∧H'=upd H a (.dK (putK kvs k v))) ∨
 ∃ kvs k b,H a=some (.dT kvs)∧y=.ref b∧H b=some (.tup (k.map kV))∧kvs.length < sizeLine∧H'=upd H a (.dT (putK kvs k v))
theorem DGet.k{H:Hp}{a:Addr}{kvs:List (Key × V)}{k:Key}(e:H a=some (.dK kvs)):DGet H a (kV k) (valV kvs k):=.inl ⟨kvs,k,.inl e,rfl,rfl⟩
theorem DPut.k{H:Hp}{a:Addr}{kvs:List (Key × V)}{k:Key}{v:V}(e:H a=some (.dK kvs))(hl:kvs.length < sizeLine):DPut H a (kV k) v (upd H a (.dK (putK kvs k v))):=.inl ⟨kvs,k,e,rfl,hl,rfl⟩
section
variable {X:Cx} {pins:List (Addr × Obj)} {σ:St} {H:Hp} {s:Shared} {a:Addr} {y v:V} {u r:Value} {o:Option V} {A:Around} {E:Value→Shared→Prop}
theorem Inv.big(I:Inv X pins σ H s):sysModules < s.heap.objs.size:=by
 have h:mainGlobals < s.heap.objs.size:=(I.mod.glob.keeps I.bk).lt
 exact Nat.lt_trans (by decide) h
theorem z9z{Q:Value→Shared→Prop}(hu:A.units + 1 < cLine)(I:Inv X pins σ H s)(g:DGet H a y (some v))(ry:RelV y u)(h:∀ w' s',Inv X pins σ H s'→RelV v w'→Q w' s') :
  wpAny (model X.prog X.w) A (getItem (.ref a) u) Q E s:=by
 rcases g with ⟨kvs,k,e,ey,l⟩ | ⟨kvs,k,b,e,ey,eb,l⟩
 ·subst ey
  obtain⟨z,hd,vs,rel,dd⟩:=zcx I.hok e
  obtain⟨w',hw,rw'⟩:=RelO.some_of (v:=v) (o:=valueAt vs k) (by rw[l];exact rel.val k)
  exact wpAny_getItem_of (zaZ ry) dd.mapOf hw (h w' _ (I.tok _) rw')
 ·subst ey
  cases (show u=Value.ref b from ry)
  obtain⟨z,hd,xs,rel,dd⟩:=zcy I.hok e
  obtain⟨w',hw,rw'⟩:=RelO.some_of (v:=v) (o:=(atKey xs k).map (·.2)) (by rw[l];exact rel.val k)
  obtain⟨p,hp,hp2⟩:=Option.map_eq_some_iff.mp hw
  refine wpAny_getItem_heap (tupleKind_room_in1 hu) (z9y I.hok eb) dd hp ?_
  rw[hp2]
  exact h w' _ (I.tok _) rw'
theorem z7y{h':Heap}{t':Nat}{ob:HO}(I:Inv X pins σ H s)(mu:Mut (H a))(hs:Heap.SameBut a s.heap h')(he:∃ q,h'.get? a=some q)(new:ObjOk X.prog X.w (upd H a ob) h' a ob) :
  Inv X pins σ (upd H a ob) {s with heap:=h',toks:=t'} :=
 I.write (x:=a) (e:=a) mu (.inl rfl) (fun b q hb z=>(hs.2 b hb).trans z) he new
theorem zbY{P:Program}{w:World}{H':Hp}{h':Heap}{kvs:List (Key × V)}{vs:List (Key × Value)}(z:kvs.length≤sizeLine)(hd:(a == sysModules)=false)(rel:KV kvs vs)(dd:h'.DictOf (mixKind P w) a vs) :
  ObjOk P w H' h' a (.dK kvs):=⟨z,hd,vs,rel,dd⟩
theorem z9A{H':Hp}{Q:Unit→Shared→Prop}(hu:A.units + 1 < cLine)(I:Inv X pins σ H s)(g:DPut H a y v H')(ry:RelV y u)(rv:RelV v r)(h:∀ s',Inv X pins σ H' s'→Q () s') :
  wpAny (model X.prog X.w) A (setItem (.ref a) u r) Q E s:=by
 rcases g with ⟨kvs,k,e,ey,l,eH⟩ | ⟨kvs,k,b,e,ey,eb,l,eH⟩
 ·subst ey eH
  obtain⟨z,hd,vs,rel,dd⟩:=ze4 I.hok e
  have hz:vs.length≤sizeLine:=by rw[← rel.length];exact z
  have hl:(putK kvs k v).length≤sizeLine:=by have:=z3z kvs k v;omega
  refine wpAny_setItem_pairs (hsz:=hz) (zaZ ry) dd fun h' dd' hs=>h _ ?_
  have he:∃ q,h'.get? a=some q:=let ⟨q,_,_,hq,_⟩:=dd';⟨q,hq⟩
  exact z7y I (by rw[e];exact True.intro) hs he (zbY hl hd (rel.put k rv) dd')
 ·subst ey eH
  cases (show u=Value.ref b from ry)
  obtain⟨z,hd,xs,rel,dd⟩:=zgD I.hok e
  have hz:xs.length≤sizeLine:=by rw[← Paired.length rel];exact z
  have hl:(putK kvs k v).length≤sizeLine:=by have:=z3z kvs k v;omega
  refine wpAny_setItem_heap (hsz:=hz) (tupleKind_room_in1 hu) (z9y I.hok eb) dd fun h' dd' hs=>h _ ?_
  obtain⟨q,es,ep,hq,h2,h3,h4,_,h5⟩:=dd'
  refine z7y I (by rw[e];exact True.intro) hs ⟨q,hq⟩ ⟨hl,hd,_,(rel.put k eb rv).keeps fun c ys ec=>?_,q,es,ep,hq,h2,h3,h4,h5⟩
  rw[zj (zdG ec e (fun z=>nomatch z))]
  exact ec
end
section
variable {X:Cx} {pins:List (Addr × Obj)} {σ:St} {H:Hp} {s:Shared} {a:Addr} {kvs:List (Key × V)} {k:Key} {u:Value} {A:Around} {E:Value→Shared→Prop}
end
def NoSl(i:Expr):Prop:=∀ ov iv,subscripted i false ov iv=operate [ov,iv] (getItem ov iv)
theorem zcz{prog:Program}{w:World}{A:Around}{E:Value→Shared→Prop}{s:Shared}{env:Env}{value slice:Expr}{pos:Pos}{T id:String}{Q:Value→Shared→Prop}
  (hl:typeLookup (.type T) "__getitem__"=pure (some (.builtin id))) (hs:NoSl slice)
  (h:wpAny (model prog w) A (eval value env) (fun o s₁=>wpAny (model prog w) A (eval slice env) (fun i s₂=>s₂.TypeIs o T∧wpAny (model prog w) A (getItem o i) Q E s₂) E s₁) E s) :
  wpAny (model prog w) A (eval (.Subscript value slice pos) env) Q E s:=by
 refine Subscript_ (wpAny_mono h (fun o s₁ h₁=>wpAny_mono h₁ (fun i s₂ h₂=>?_) fun _ _ x=>x) fun _ _ x=>x)
 obtain⟨hT,h₂⟩:=h₂
 unfold subscriptTail
 refine wpAny_bind ?_
 rw[getitemInPython_of_ne hT.not_modules]
 refine wpAny_bind (wpAny_specialOf hT hl ?_)
 have fin:wpAny (model prog w) A (subscripted slice false o i) (fun r s₃=>wpAny (model prog w) A (letTemporaryGo value o r >>= fun _=>pure r) Q E s₃) E s₂:=by
  rw[hs o i]
  exact wpAny_operating (wpAny_mono h₂ (fun r s₃ h₃=>wpAny_bind (wpAny_letTemporaryGo (wpAny_pure h₃))) fun _ _ x=>x)
 first
  | exact wpAny_pure (wpAny_bind fin)
  | exact wpAny_bind (wpAny_pure (wpAny_bind fin))
  | exact wpAny_bind fin
theorem z7z{X:Cx}{pins:List (Addr × Obj)}{σ:St}{H:Hp}{s:Shared}{a:Addr}{y:V}{o:Option V}(I:Inv X pins σ H s)(g:DGet H a y o):s.TypeIs (.ref a) "dict":=by
 rcases g with ⟨kvs,k,e,_,_⟩ | ⟨kvs,k,b,e,_,_,_⟩
 ·obtain⟨_,_,vs,_,dd⟩:=zcx I.hok e
  exact dd.typeIs
 ·obtain⟨_,_,xs,_,dd⟩:=zcy I.hok e
  exact dd.typeIs
def tDGet(td ty:TE):TE:=fun σ H Q=>td σ H fun x H1=>ty σ H1 fun y H2=>∃ a v,x=.ref a∧DGet H2 a y (some v)∧Q v H2
def sDPut(td ty tv:TE):TS:=fun D σ H=>tv σ H fun v H1=>td σ H1 fun x H2=>ty σ H2 fun y H3=>∃ a H4,x=.ref a∧DPut H3 a y v H4∧D.nx σ H4
section
variable {X:Cx} {o i e value:Expr} {pos pos' tpos:Pos} {td ty tv:TE}
theorem z6a(hu:X.A.units + 1 < cLine)(ho:PE X o td)(hi:PE X i ty)(hs:NoSl i):PE X (.Subscript o i pos) (tDGet td ty):=by
 intro pins s σ H Q I h
 refine zcz PySem.F.slot_dict_getitem.lookup hs (thn (ho pins s σ H _ I h) fun u s1 ⟨x,H1,I1,rx,q1⟩=>thn (hi pins s1 σ H1 _ I1 q1) fun iv s2 zhq=>?_)
 obtain⟨y,H2,I2,ry,a,v,ex,g,q2⟩:=zhq
 subst ex
 obtain rfl:u=Value.ref a:=rx
 exact⟨z7z I2 g,z9z hu I2 g ry fun w' s3 I3 rw'=>⟨v,H2,I3,rw',q2⟩⟩
theorem zcA(hu:X.A.units + 1 < cLine)(ho:PE X o td)(hi:PE X i ty)(hv:PE X value tv)(hs:swapsWith value (some (.Subscript o i pos')) pos.line X.env=pure false) :
  PS X (.Assign [.Subscript o i pos'] value pos) (sDPut td ty tv):=by
 intro pins s σ H D I h
 refine wpAny_Assign_Subscript (thn (hv pins s σ H _ I h) fun r s1 ⟨v,H1,I1,rv,q1⟩=>thn (ho pins s1 σ H1 _ I1 q1) fun u s2 ⟨x,H2,I2,rx,q2⟩=>thn (hi pins s2 σ H2 _ I2 q2) fun iv s3 zhr=>?_) hs
 obtain⟨y,H3,I3,ry,a,H4,ex,g,q3⟩:=zhr
 subst ex
 obtain rfl:u=Value.ref a:=rx
 exact z9A hu I3 g ry rv fun s4 I4=>⟨σ,H4,I4,q3⟩
end
theorem zb0{P:Program}{w:World}{H:Hp}(h:Heap)(hb:sysModules < h.objs.size):ObjOk P w H (h.push {cls:=.type "dict",data:=.dict #[]}) h.objs.size (.dK []) :=
 ⟨Nat.zero_le _,beq_eq_false_iff_ne.mpr (Ne.symm (Nat.ne_of_lt hb)),[],.nil,Heap.DictOf.new h⟩
section
variable {X:Cx} {pos:Pos}
end
def tPairs:List (TE × TE)→St→Hp→(List (V × V)→Hp→Prop)→Prop
 | [],_,H,Q=>Q [] H
 | (tk,tv)::r,σ,H,Q=>tk σ H fun x H1=>tv σ H1 fun y H2=>tPairs r σ H2 fun ps H3=>Q ((x,y)::ps) H3
abbrev VV:List (V × V)→List (Value × Value)→Prop:=Paired fun p q=>RelV p.1 q.1∧RelV p.2 q.2
def PPs(X:Cx)(pos:Pos)(keys:List (Option Expr))(values:List Expr)(trs:List (TE × TE)):Prop :=
 ∀ (pins:List (Addr × Obj)) (s:Shared) (σ:St) (H:Hp) (Q:List (V × V)→Hp→Prop),Inv X pins σ H s→tPairs trs σ H Q →
  wpAny (model X.prog X.w) X.A (evalPairs (pairTrees keys values X.env pos)) (fun vs s'=>∃ ps H',Inv X pins σ H' s'∧VV ps vs∧Q ps H') X.xe s
theorem zcB{X:Cx}{pos:Pos}:PPs X pos [] [] []:=fun pins s σ H Q I h=>pairTrees_nil_walk ⟨[],H,I,.nil,h⟩
theorem z85{X:Cx}{pos:Pos}{k v:Expr}{ks:List (Option Expr)}{vs:List Expr}{tk tv:TE}{trs:List (TE × TE)}(hk:PE X k tk)(hv:PE X v tv)(hr:PPs X pos ks vs trs) :
  PPs X pos (some k::ks) (v::vs) ((tk,tv)::trs):=fun pins s σ H Q I h =>
 pairTrees_cons_walk (thn (hk pins s σ H _ I h) fun u s1 ⟨x,H1,I1,rx,q1⟩=>thn (hv pins s1 σ H1 _ I1 q1) fun w2 s2 ⟨y,H2,I2,ry,q2⟩ =>
  thn (hr pins s2 σ H2 _ I2 q2) fun ws s3 zhs=>(by obtain⟨ps,H3,I3,rel,q3⟩:=zhs;exact⟨(x,y)::ps,H3,I3,.cons ⟨rx,ry⟩ rel,q3⟩))
def mergeK(kvs more:List (Key × V)):List (Key × V):=more.foldl (fun acc kv=>putK acc kv.1 kv.2) kvs
theorem KV.merge:∀ {more:List (Key × V)} {rs:List (Key × Value)} {kvs:List (Key × V)} {vs:List (Key × Value)},KV more rs→KV kvs vs→KV (mergeK kvs more) (merged vs rs):=by
 intro more rs kvs vs r
 unfold KV at r
 induction r generalizing kvs vs with
 | nil=>intro q;exact q
 | @cons p q ps qs h t ih =>
  intro r0
  have e:KV (putK kvs p.1 p.2) (stored vs q.1 q.2):=by
   have:=r0.put p.1 h.2
   rw[← h.1];exact this
  exact ih e
theorem z3P:∀ (more kvs:List (Key × V)),(mergeK kvs more).length≤kvs.length + more.length
 | [],kvs=>by show kvs.length≤kvs.length + 0;omega
 | p::r,kvs=>by
  have h1:=z3P r (putK kvs p.1 p.2)
  have h2:=z3z kvs p.1 p.2
  show(mergeK (putK kvs p.1 p.2) r).length≤_
  rw[List.length_cons];omega
theorem z5Q{P:Program}{w:World}:∀ {kvs:List (Key × V)} {ws:List (Value × Value)},VV (kvs.map fun kv=>(kV kv.1,kv.2)) ws→∃ rs,Carries (mixKind P w) ws rs∧KV kvs rs
 | [],_,r=>by rw[List.map_nil]at r;cases r;exact⟨[],True.intro,.nil⟩
 | p::kvs,_,r=>by
  rw[List.map_cons]at r
  cases r with
  | @cons a b as bs h t =>
   obtain⟨rs,c,q⟩:=z5Q (P:=P) (w:=w) t
   obtain⟨b1,b2⟩:=b
   exact⟨(p.1,b2)::rs,⟨zaZ h.1,rfl,c⟩,.cons ⟨rfl,h.2⟩ q⟩
def tDisp(trs:List (TE × TE)):TE:=fun σ H Q=>∀ p,H p=none→tPairs trs σ (upd H p (.dK [])) fun ps H2=>H2 p=some (.dK [])∧∃ kvs:List (Key × V),ps=kvs.map (fun kv=>(kV kv.1,kv.2))∧kvs.length≤15∧Q (.ref p) (upd H2 p (.dK (mergeK [] kvs)))
theorem zcC{X:Cx}{pos:Pos}{keys:List (Option Expr)}{values:List Expr}{trs:List (TE × TE)}(h:PPs X pos keys values trs)(hall:keys.all (·.isSome)=true)(hl:keys.length=values.length)(h0:keys≠[])
  (h15:keys.length≤15):PE X (.Dict keys values pos) (tDisp trs):=by
 intro pins s σ H Q I q
 have hn:=I.hok.fresh (Nat.le_refl s.heap.objs.size)
 have I1:=I.laid (a:=s.heap.objs.size) (o:=.dK []) (h':=s.heap.push {cls:=.type "dict",data:=.dict #[]}) (t':=s.toks) (fun _ _ q=>Heap.get?_push_of_some _ q) (Nat.le_refl _) (zb0 s.heap I.big)
 refine wpAny_Dict_walk (knd:=mixKind X.prog X.w) hall hl h0 h15 (thn (h pins _ σ _ _ I1 (q _ hn)) fun ws s2 zht=>?_)
 obtain⟨ps,H2,I2,rel,e,kvs,ep,lk,q2⟩:=zht
 subst ep
 obtain⟨rs,c,rk⟩:=z5Q (P:=X.prog) (w:=X.w) rel
 obtain⟨z,hd,vs0,r0,dd⟩:=ze4 I2.hok e
 cases r0
 refine⟨rs,c,dd,fun h' dd' hs=>⟨.ref s.heap.objs.size,_,?_,rfl,q2⟩⟩
 have hz:(mergeK [] kvs).length≤sizeLine:=by
  have h1:=z3P kvs []
  rw[List.length_nil]at h1
  rw[sizeLine_eq];omega
 have he:∃ q,h'.get? s.heap.objs.size=some q:=let ⟨q,_,_,hq,_⟩:=dd';⟨q,hq⟩
 exact z7y I2 (by rw[e];exact True.intro) hs he (zbY hz hd (rk.merge .nil) dd')
structure M1(X:Cx)(o:Expr)(m:Str)(apos:Pos)(e:Expr)(cpos:Pos):Prop where
 base:attributeBase o m X.env (eval o X.env)=eval o X.env
 few:((backTo cpos (starEach [e] X.env)).all (fun x=>!x.1) && (backToKw cpos (keywordEach [] X.env)).all (fun x=>x.1.isSome)
  && decide (([e]:List Expr).length + ([]:List Keyword).length + (if ([]:List Keyword).isEmpty then 0 else 1) < 30))=true
 line:(apos.endLine == cpos.line)=true
 trees:backTo cpos (starEach [e] X.env)=[(false,eval e X.env)]
structure M2(X:Cx)(o:Expr)(m:Str)(apos:Pos)(e f:Expr)(cpos:Pos):Prop where
 base:attributeBase o m X.env (eval o X.env)=eval o X.env
 few:((backTo cpos (starEach [e,f] X.env)).all (fun x=>!x.1) && (backToKw cpos (keywordEach [] X.env)).all (fun x=>x.1.isSome)
  && decide (([e,f]:List Expr).length + ([]:List Keyword).length + (if ([]:List Keyword).isEmpty then 0 else 1) < 30))=true
 line:(apos.endLine == cpos.line)=true
 trees:backTo cpos (starEach [e,f] X.env)=[(false,eval e X.env),(false,eval f X.env)]
section
variable {X:Cx} {pins:List (Addr × Obj)} {σ:St} {H:Hp} {s:Shared} {a:Addr} {y d:V} {u r:Value} {o:Option V} {A:Around} {E:Value→Shared→Prop}
end
section
variable {X:Cx} {o e f:Expr} {apos cpos:Pos} {td ty tx:TE}
end
section
variable {X:Cx} {pins:List (Addr × Obj)} {σ:St} {H:Hp} {s:Shared} {a:Addr} {kvs:List (Key × V)} {A:Around} {E:Value→Shared→Prop}
end
section
variable {X:Cx} {pins:List (Addr × Obj)} {σ:St} {H:Hp} {s:Shared} {a:Addr} {y:V} {u:Value} {A:Around} {E:Value→Shared→Prop}
end
end L2
namespace Att
open PySem PySem.W PySem.Calls PyProof.Rows
theorem z52{P:Params}{h:Heap}:∀ (ns:List Int) (vs:List Value),WellAll P h vs (ns.map WData.int)→IntsAre vs ns:=by
 intro ns
 induction ns with
 | nil =>
  intro vs w
  rw[List.map_nil]at w
  cases w
  exact .nil
 | cons n ns ih =>
  intro vs w
  rw[List.map_cons]at w
  cases w with
  | cons a b =>
   cases a
   exact .cons _ _ (ih _ b)
theorem z9B{l:OpenLaw}{n:Nat}(hn:l.most=some n){P:Params}{h:Heap}{args:List WData}{vals:List Value}
  (hpre:l.row.toRowW.claim.pre args=true) (hwl:WellAll P h vals args) :
  ∃ a vs ns,vals=[Value.ref a]∧args=[WData.list (ns.map WData.int)]∧h.get? a=some {cls:=.type "list",data:=.seq vs.toArray}∧IntsAre vs ns∧ns.length≤n:=by
 have hsh:WShape.hasAll [] args [.list .int]=true:=(pre_splitW hpre).1
 have hc:l.pre.holds [] {args:=args}=true:=(pre_splitW hpre).2
 obtain⟨d,r,rfl,h1,h2⟩:=hasAllW_cons hsh
 obtain rfl:=hasAllW_nil h2
 obtain⟨xs,rfl,h3⟩:=hasW_list h1
 obtain⟨ns,rfl⟩:=items_int h3
 have hlen:ns.length≤n:=by
  unfold OpenLaw.pre at hc
  have h4:(WTm.not (.lt (.lit (.int (n:Int))) (.len (.arg 0)))).holds [] {args:=[.list (ns.map .int)]}=true:=by
   have h4:=(holds_andW hc).1
   rw[hn]at h4
   exact h4
  have h5:=condW_of h4 (w_not (w_lt w_lit (w_len_list (w_arg rfl))))
  rw[List.length_map]at h5
  refine Nat.le_of_not_lt fun q=>?_
  have q':(n:Int) < ((ns.length:Nat):Int):=by omega
  first
   | (rw[decide_eq_true q']at h5;exact absurd h5 (by decide))
   | (simp at h5;omega)
 cases hwl with
 | cons w1 w2 =>
  cases w2
  cases w1 with
  | list ho hall=>exact⟨_,_,ns,rfl,rfl,ho,z52 ns _ hall,hlen⟩
theorem z9C(l:OpenLaw)(args:List WData):l.row.toRowW.claim.post args (.bool true) args=true :=
 postW_of (r:=l.row.toRowW) (X:=(true == true))
  (show WShape.has [] (.bool true) .bool=true by first | rfl | decide | simp[WShape.has,WShape.arms,WShape.armsAll])
  (show(WTm.eq .res (.lit (.bool true))).value [] {args:=args,res:=some (.bool true),after:=args}=some (.bool (true == true)) from w_eq_bool (w_res rfl) w_lit) rfl
theorem attach_call{l:OpenLaw}{n:Nat}{q:Program}{loose:List Str}{XP:(Str→Option Value)→Heap→Prop}{YP:World→Heap→Prop}{d:DefRec}
  (hn:l.most=some n) (hdf:d.params.defaults=[])
  (call:∀ (w:World) (s₀ s₁:Shared) (mg mb:Str→Option Value) (fa:Addr) (o:Obj) (pm cd doc:Value) (a:Addr) (vs:List Value) (ns:List Int),
   Ground q loose [] XP w s₀ mg mb s₁.heap→YP w s₁.heap →
   s₁.heap.get? fa=some o→o.data=.func (docDef d.name d.params d.body d.scope pm cd doc)→s₁.heap.CodeRec cd d.name→mg d.name=some (.ref fa) →
   s₁.heap.get? a=some {cls:=.type "list",data:=.seq vs.toArray}→IntsAre vs ns→ns.length≤n→s₁.gens=#[] →
   codeAny (model l.prog w) callerA (.call (.ref fa) ⟨[.ref a],[]⟩) (fun r s'=>r=.ok (.ret (.bool true))∧OldK s₁.heap s'.heap∧s'.os=s₁.os∧AllBare s'.gens) s₁) :
  WalkO q loose XP YP l.row.toRowW d [] (fun f vs=>PySem.call f vs):=by
 intro w s₀ s₁ mg mb G Y fa o pm cd doc dV kV ho hd hcd hD hmg hg args vals as hpre hlay hrd hwl hlo
 obtain rfl:dV=.none:=Dflts.none hD hdf
 obtain rfl:kV=.none:=Dflts.noKw hD
 obtain⟨a,vs,ns,rfl,rfl,hobj,hints,hlen⟩:=z9B hn hpre hwl
 refine enter_call (codeAny_mono (call w s₀ s₁ mg mb fa o pm cd doc a vs ns G Y ho (fd_plain hd) hcd hmg hobj hints hlen hg) fun r s' hq=>?_)
 obtain⟨rfl,h2,h3,h4⟩:=hq
 exact⟨.inl ⟨.bool true,.bool true,[],rfl,fun _=>rfl,.bool true,z9C l _,fun _=>⟨List.Pairwise.nil,fun _ hm=>(nomatch hm)⟩⟩,h2,h3,h4⟩
section
variable {prog:Program} {w:World} {A:Around} {E:Value→Shared→Prop} {s:Shared} {K:Frag}
def ledger(h:Heap)(L d:Addr):List (Addr × Obj):=(List.range h.objs.size).filterMap fun a=>if a=L∨a=d then none else (h.get? a).map fun o=>(a,o)
end
end Att
namespace L2
open PySem PySem.Spec PyProof.Rows
theorem z9D{vs:List Value}{ns:List Int}(h:IntsAre vs ns):Vals (ns.map V.int) vs:=by
 induction h with
 | nil=>exact .nil
 | cons n t h ih=>exact .cons ⟨t,rfl⟩ ih
def Only(H:Hp):Prop:=∀ b,H b=none∨∃ o xs,H b=some (.frz o (.lst xs))
theorem zb1{P:Program}{w:World}{K:PySem.W.Frag}{mg mb:Str→Option Value}{CX:CXT}{k:Nat}{fa a:Addr}{fd:FuncData}{x:Str}{sp:Sp}{s₁:Shared}{vs:List Value}{ns:List Int}
  (KX:K.In s₁.heap) (hns:s₁.heap.Ns mainGlobals mg) (hb:s₁.heap.Ns builtinsNs mb) (hbb:∀ x:Str,x≠"__name__"→mb x=bootBuiltins x) (hlim:s₁.heap.NoLimit) (hg:s₁.gens=#[])
  (ha:s₁.heap.get? a=some {cls:=.type "list",data:=.seq vs.toArray}) (hi:IntsAre vs ns) (hl:ns.length≤sizeLine) (hr:Room k callerA)
  (F:∀ base:Heap,K.In base→base.Ns mainGlobals mg→FnOk P w K mg base CX k fa fd [x] sp) (hbind:∀ (s:Shared) (u:Value),BindsTo s fd ⟨[u],[]⟩ [(x,u)])
  (hsp:∀ H:Hp,Only H→SqL K H a (ns.map V.int)→sp [.ref a] H (fun v _=>v=.bl true) fun _ _ _=>False)
  (hCX:∀ H e s',CX [] H s₁ (fun _ _ _=>False) e s'→False) :
  codeAny (model P w) callerA (.call (.ref fa) ⟨[.ref a],[]⟩) (fun r s'=>r=.ok (.ret (.bool true))∧OldK s₁.heap s'.heap∧s'.os=s₁.os∧AllBare s'.gens) s₁:=by
 have rv:=z9D hi
 have lenV:=hi.length
 have core:∀ H:Hp,Only H→SqL K H a (ns.map V.int)→HOk P w H s₁.heap→(∀ b,H b≠none→b=a)→(H a≠none→K.lookup a=none) →
   codeAny (model P w) callerA (.call (.ref fa) ⟨[.ref a],[]⟩) (fun r s'=>r=.ok (.ret (.bool true))∧OldK s₁.heap s'.heap∧s'.os=s₁.os∧AllBare s'.gens) s₁:=by
  intro H hO hS hok hA hK
  have base_of:∀ {b:Addr} {o:Obj},s₁.heap.get? b=some o→H b=none→(hidT s₁.heap H).get? b=some o:=fun e n=>zaN e n
  have noA:∀ {b:Addr} {o:Obj} {es:Array DictEntry} {ep:Nat},s₁.heap.get? b=some o→o.data=.dict es ep→H b=none:=fun{b o es ep} e d=>by
   cases q:H b with
   | none=>rfl
   | some u =>
    have e':b=a:=hA b (by rw[q];simp)
    subst e'
    rw[ha]at e;cases e
    have d':Data.seq vs.toArray _=Data.dict es ep:=d
    cases d'
  have nsK:∀ {b:Addr} {m:Str→Option Value},s₁.heap.Ns b m→(hidT s₁.heap H).Ns b m:=fun{b m} zhu=>(by obtain⟨o,es,ep,e,d,r⟩:=zhu;exact⟨o,es,ep,base_of e (noA e d),d,r⟩)
  have hKb:K.In (hidT s₁.heap H):=fun b o e=>base_of (KX b o e) (by
   cases q:H b with
   | none=>rfl
   | some u =>
    have e':b=a:=hA b (by rw[q];simp)
    subst e'
    rw[hK (by rw[q];simp)]at e;cases e)
  have hM:Mod K mg (hidT s₁.heap H):=⟨hKb,nsK hns,⟨mb,nsK hb,hbb⟩,let ⟨mc,h1,h2⟩:=hlim;⟨mc,nsK h1,h2⟩⟩
  have e0:Env0 P w K mg (hidT s₁.heap H) callerA [] s₁ H:=⟨rfl,hM,fun b o e=>zcj e,Nat.le_of_eq (z9d _ _),trivial,fun b hb=>absurd (show b∈([]:List Addr) from hb) (by simp),hok,.of_eq hg⟩
  refine codeAny_mono ((F _ hKb (nsK hns)).run callerA [] s₁ H ⟨[.ref a],[]⟩ [.ref a] [.ref a] _ _ hr e0 (hbind s₁ (.ref a)) (.cons rfl .nil) (hsp H hO hS)) fun r s' h=>?_
  cases r with
  | error e=>exact(hCX H e s' h).elim
  | ok fl =>
   cases fl with
   | next=>exact False.elim h
   | brk=>exact False.elim h
   | cont=>exact False.elim h
   | ret u =>
    obtain⟨v,H',os,bare,un,hok',r',q⟩:=h
    have q':v=.bl true:=q
    subst q'
    obtain rfl:u=Value.bool true:=r'
    refine⟨rfl,OldK.of_keep fun b o e=>?_,os,bare⟩
    cases q:H b with
    | none=>exact un.keep b o e q (by intro z;exact absurd (show b∈([]:List Addr) from z) (by simp)) (by simp)
    | some u =>
     rcases hO b with z | ⟨ob,xs,z⟩
     ·rw[q]at z;cases z
     ·have z2:=un.frzs b ob _ z
      obtain⟨e1,_⟩:=hok b _ z
      obtain⟨e2,_⟩:=hok' b _ z2
      rw[e]at e1;cases e1
      exact e2
 cases hk:K.lookup a with
 | some o =>
  have e:=KX a o hk
  rw[ha]at e
  cases e
  refine core (fun _=>none) (fun _=>.inl rfl) (.inr ⟨_,vs.toArray,_,hk,rfl,rfl,rfl,by rw[List.size_toArray,lenV];exact hl,by simpa using rv⟩) (fun b u z=>by have z':(none:Option HO)=some u:=z;cases z') (fun b z=>absurd rfl z) fun z=>absurd rfl z
 | none =>
  refine core (fun b=>if b=a then some (.frz {cls:=.type "list",data:=.seq vs.toArray} (.lst (ns.map V.int))) else none) (fun b=>?_) (.inl (.inr ⟨{cls:=.type "list",data:=.seq vs.toArray},if_pos rfl⟩)) (fun b u z=>?_) (fun b z=>?_) fun _=>hk
  ·by_cases hb:b=a
   ·exact .inr ⟨_,_,if_pos hb⟩
   ·exact .inl (if_neg hb)
  ·by_cases hb:b=a
   ·have z':=(if_pos hb).symm.trans z
    cases z'
    subst hb
    exact⟨ha,by rw[List.length_map];exact hl,vs,_,rv,ha⟩
   ·have z':=(if_neg hb).symm.trans z
    cases z'
  ·by_cases hb:b=a
   ·exact hb
   ·exact absurd (if_neg hb) z
end L2
namespace L2
open PySem PySem.Spec PyProof.Rows
abbrev KOf{K:PySem.W.Frag}{h:Heap}(_:K.In h):PySem.W.Frag:=K
theorem zcD{l:PySem.W.OpenLaw}{n k:Nat}{q:Program}{loose:List Str}{XP:(Str→Option Value)→Heap→Prop}{YP:World→Heap→Prop}{d:DefRec}{K:Params→PySem.W.Frag}{CX:World→CXT}{sp:World→Sp}{x:Str}
  (hn:l.most=some n) (hn2:n≤sizeLine) (hdf:d.params.defaults=[]) (hr:Room k callerA)
  (hY:∀ (w:World) (h:Heap),YP w h→(K w.params).In h)
  (F:∀ (w:World) (mg:Str→Option Value) (fa:Addr) (h:Heap),(K w.params).In h→h.Ns mainGlobals mg→mg d.name=some (.ref fa) →
   ∃ fd:FuncData,(∀ (s:Shared) (u:Value),BindsTo s fd ⟨[u],[]⟩ [(x,u)]) ∧
    ∀ base:Heap,(K w.params).In base→base.Ns mainGlobals mg→FnOk l.prog w (K w.params) mg base (CX w) k fa fd [x] (sp w))
  (hsp:∀ (w:World) (H:Hp) (a:Addr) (ns:List Int),ns.length≤n→Only H→SqL (K w.params) H a (ns.map V.int)→sp w [.ref a] H (fun v _=>v=.bl true) fun _ _ _=>False)
  (hCX:∀ (w:World) (H:Hp) (s:Shared) (e:Value) (s':Shared),CX w [] H s (fun _ _ _=>False) e s'→False) :
  PySem.W.WalkO q loose XP YP l.row.toRowW d [] (fun f vs=>PySem.call f vs):=by
 refine Att.attach_call hn hdf fun w s₀ s₁ mg mb fa o pm cd doc a vs ns G Y ho hd hcd hmg hobj hints hlen hg=>?_
 have KX:=hY w _ Y
 obtain⟨fd,hb,hF⟩:=F w mg fa _ KX G.T.g hmg
 exact zb1 KX G.T.g G.T.b G.T.builtins G.T.nolimit hg hobj hints (Nat.le_trans hlen hn2) hr hF hb (fun H hO hS=>hsp w H a ns hlen hO hS) fun H e s'=>hCX w H s₁ e s'
theorem walk_ofK{l:PySem.W.OpenLaw}{n k:Nat}{q:Program}{loose:List Str}{XP:(Str→Option Value)→Heap→Prop}{YP:World→Heap→Prop}{d:DefRec}{K:Params→PySem.W.Frag}{CX:CXT}{sp:PySem.W.Frag→Sp}{x:Str}
  (hn:l.most=some n) (hn2:n≤sizeLine) (hdf:d.params.defaults=[]) (hr:Room k callerA)
  (hY:∀ (w:World) (h:Heap),YP w h→(K w.params).In h)
  (F:∀ (w:World) (mg:Str→Option Value) (fa:Addr) (h:Heap),(K w.params).In h→h.Ns mainGlobals mg→mg d.name=some (.ref fa) →
   ∃ fd:FuncData,(∀ (s:Shared) (u:Value),BindsTo s fd ⟨[u],[]⟩ [(x,u)]) ∧
    ∀ base:Heap,(K w.params).In base→base.Ns mainGlobals mg→FnOk l.prog w (K w.params) mg base CX k fa fd [x] (sp (K w.params)))
  (hsp:∀ (K:PySem.W.Frag) (H:Hp) (a:Addr) (ns:List Int),ns.length≤n→Only H→SqL K H a (ns.map V.int)→sp K [.ref a] H (fun v _=>v=.bl true) fun _ _ _=>False)
  (hCX:∀ (H:Hp) (s:Shared) (e:Value) (s':Shared),CX [] H s (fun _ _ _=>False) e s'→False) :
  PySem.W.WalkO q loose XP YP l.row.toRowW d [] (fun f vs=>PySem.call f vs) :=
 zcD (K:=K) (CX:=fun _=>CX) (sp:=fun w=>sp (K w.params)) hn hn2 hdf hr hY F (fun w H a ns h1 h2 h3=>hsp (K w.params) H a ns h1 h2 h3) fun _ H s e s'=>hCX H s e s'
end L2
namespace L2
open PySem PySem.Spec PyProof.Rows
def inClass(s:Stmt)(j:Nat):Stmt:=match s with
 | .ClassDef _ _ _ body _ _ _ _ _ _ _=>body.getD j (.Pass ⟨0,0,0,0⟩)
 | _=>.Pass ⟨0,0,0,0⟩
def defArgs(s:Stmt):Arguments:=match s with
 | .FunctionDef _ a _ _ _ _ _ _ _ _=>a
 | _=>{posonlyargs:=[],args:=[],vararg:=none,kwonlyargs:=[],kw_defaults:=[],kwarg:=none,defaults:=[]}
def defBody(s:Stmt):List Stmt:=match s with
 | .FunctionDef _ _ b _ _ _ _ _ _ _=>b
 | _=>[]
def defScope(s:Stmt):Scope:=match s with
 | .FunctionDef _ _ _ _ _ _ sc _ _ _=>sc
 | _=>{kind:=.function,names:=[],isGenerator:=false,isCoroutine:=false}
abbrev CX0:CXT:=fun _ _ _ _ _ _=>False
abbrev E0:XK:=fun _ _ _=>False
theorem pass0{X:Cx}:Passes CX0 X E0:=fun _ _ _ _ _ _ _ h=>h.elim
structure Fun(K:PySem.W.Frag)(x qual:Str)(st:Stmt)(f:Addr)(fd:FuncData):Prop where
 ex:∃ (oc:Value) (od:Option Addr) (kV doc pm:Value) (an:Option Addr) (cdv ct:Value) (osl:Array (Option Value)),
  fd=PySem.W.fnOf x qual (defArgs st) (defBody st) (defScope st) .none kV doc pm an cdv ct∧K.lookup f=some ⟨oc,od,.func fd,osl⟩∧PySem.W.codeIn K cdv qual=true
 kp:PySem.W.keepIn K (.ref f)=true
section
variable {P:Program} {w:World} {K:PySem.W.Frag} {mg:Str→Option Value} {base:Heap}
theorem Fun.ok{x qual:Str}{st:Stmt}{f:Addr}{fd:FuncData}{N ps:List Str}{k:Nat}{sp:Sp}(F:Fun K x qual st f fd)(S:FnScope N ps (defScope st))(len:∀ vs H Q E,sp vs H Q E→vs.length=ps.length)
  (hbody:∀ (cdv:Value) (A:Around) (outer:List Env) (s:Shared) (H:Hp) (vs:List V) (Q:VK) (E:XK),Room k (A.deeper (envOfC qual (defScope st) s.heap.objs.size f cdv))→sp vs H Q E →
   ∃ t,PSs (cxOf CX0 P w K mg base N qual (defScope st) f cdv A outer s H E).nox (defBody st) t∧t {nx:=fun _ H'=>Q .non H',rt:=Q} (start N vs) H):FnOk P w K mg base CX0 (k + 1) f fd ps sp:=by
 obtain⟨oc,od,kV,doc,pm,an,cdv,ct,osl,rfl,lk,hcd⟩:=F.ex
 refine zcv lk hcd S len fun A outer s H vs Q E hr hsp=>?_
 obtain⟨t,h,q⟩:=hbody cdv A outer s H vs Q E hr hsp
 exact⟨t,h.nox,q⟩
theorem Fun.binds{x qual:Str}{st:Stmt}{f:Addr}{fd:FuncData}{ps:List Str}(F:Fun K x qual st f fd)
  (h:∀ (kV doc pm:Value) (an:Option Addr) (cdv ct:Value) (us:List Value),us.length=ps.length→bindArgs (PySem.W.fnOf x qual (defArgs st) (defBody st) (defScope st) .none kV doc pm an cdv ct) ⟨us,[]⟩=pure (ps.zip us)):Binds K fd ps []:=by
 obtain⟨oc,od,kV,doc,pm,an,cdv,ct,osl,rfl,lk,hcd⟩:=F.ex
 exact .all (h kV doc pm an cdv ct)
theorem z86{x qual:Str}{st:Stmt}{f:Addr}{oc:Value}{od an:Option Addr}{osl:Array (Option Value)}{kV doc pm cdv ct:Value}(l:K.lookup f=some ⟨oc,od,.func (PySem.W.fnOf x qual (defArgs st) (defBody st) (defScope st) .none kV doc pm an cdv ct),osl⟩)
  (c:PySem.W.codeIn K cdv qual=true) (k:PySem.W.keepIn K (.ref f)=true):Fun K x qual st f (PySem.W.fnOf x qual (defArgs st) (defBody st) (defScope st) .none kV doc pm an cdv ct):=⟨⟨oc,od,kV,doc,pm,an,cdv,ct,osl,rfl,l,c⟩,k⟩
end
theorem zgE{A:Around}{k:Nat}(hr:Room k A):A.units + 1 < cLine:=Nat.lt_of_le_of_lt (Nat.add_le_add_left (by decide:1≤64) _) hr.units
theorem small1000{n:Nat}(h:n≤1000):n < sizeLine:=Nat.lt_of_le_of_lt h (by decide)
section
variable {X:Cx}
theorem pv(i:Nat){x:Str}{pos:Pos}(hN:X.N[i]?=some x:=by rfl)(hv:Vis X.env.scope x:=by first | exact Or.inl rfl | exact Or.inr (Or.inl rfl) | exact Or.inr (Or.inr rfl))(hd:(x == ("__debug__":Str))=false:=by decide)
  (hcd:(x == ("__classdict__":Str))=false:=by decide):PE X (.Name x pos) (tVar i):=zdH hN hv hd hcd
end
theorem iteF{A B:Prop}(h:B):if false=true then A else B:=by
 rw[if_neg Bool.false_ne_true]
 exact h
theorem iteT{A B:Prop}(h:A):if true=true then A else B:=by
 rw[if_pos rfl]
 exact h
theorem ite2{c A B:Prop}[Decidable c](h1:c→A)(h2:¬ c→B):if c then A else B:=by
 by_cases h:c
 ·rw[if_pos h]
  exact h1 h
 ·rw[if_neg h]
  exact h2 h
end L2
namespace L2
open PySem PySem.Spec PyProof.Rows
section
variable {X:Cx}
end
section
variable {κ:Type} [DecidableEq κ]
end
end L2
namespace L2
open PySem PySem.Spec PyProof.Rows
def compCx(X:Cx)(scope:Scope)(cl:List (Str × Addr))(N:List Str)(C:Addr)(s:Shared)(H:Hp)(ex:List Addr):Cx where
 prog:=X.prog
 w:=X.w
 K:=X.K
 mg:=X.mg
 base:=X.base
 A:=X.A
 N:=N
 s₀:=s
 H₀:=H
 env:=compEnvC scope cl C X.env
 outer:=X.stack
 stack:=X.stack
 ex:=ex
 fn:=fun _=>false
 calm:=X.calm
 pn:=[]
 xe:=fun _ _=>False
def compSt(k:Nat)(fr:List Nat)(σ:St):St:=List.replicate k none++fr.map fun j=>(σ[j]?).getD none
structure CompOk(X:Cx)(scope:Scope)(cl:List (Str × Addr))(N:List Str)(k:Nat)(fr:List Nat):Prop where
 kind:scope.kind=.function
 nocell:∀ y∈scope.names,y.2≠.cell
 names:∀ y∈scope.names,y.2=.local→scope.names.lookup y.1=some .local
 clos:closureFor scope X.env=pure cl
 sub:∀ x c,cl.lookup x=some c→X.env.cells.lookup x=some c
 has:∀ x,((relabel scope X.env).names.lookup x=some .cell∨(relabel scope X.env).names.lookup x=some .free)→∃ c,cl.lookup x=some c
 len:N.length=k + fr.length
 free:∀ (t j:Nat) (x:Str),fr[t]?=some j→N[k + t]?=some x→X.N[j]?=some x∧Vis X.env.scope x∧(∃ c,cl.lookup x=some c)∧((relabel scope X.env).names.lookup x=some .cell∨(relabel scope X.env).names.lookup x=some .free)∧¬ X.env.scope.names.lookup x=some .local
def PIfs(Y:Cx)(ifs:List Expr)(t:TT):Prop :=
 ∀ (pins:List (Addr × Obj)) (s:Shared) (σ:St) (H:Hp) (Q:Bool→Hp→Prop),Inv Y pins σ H s→t σ H Q →
  wpAny (model Y.prog Y.w) Y.A (forIn ifs true fun c r=>if r=true then do let ok ← isTrue c Y.env (eval c Y.env);pure (ForInStep.yield ok) else pure (ForInStep.yield r)) (TP Y pins σ Q) Y.xe s
def tTrue:TT:=fun _ H Q=>Q true H
theorem zb2{Y:Cx}:PIfs Y [] tTrue:=fun _ _ _ H _ I h=>wpAny_tests_nil ⟨H,I,h⟩
theorem zb3{Y:Cx}{c:Expr}{t:TT}(h:PT Y c t):PIfs Y [c] t:=fun pins s σ H Q I q=>wpAny_tests_one (h pins s σ H Q I q)
def Fwd(σ σ':St):Prop:=σ'.length=σ.length∧∀ (i:Nat) (v:V),σ[i]?=some (some v)→σ'[i]?=some (some v)
def CompW(J:It)(g:TG)(tt:TT)(te:TE)(σc:St)(H1:Hp)(F:List V→Hp→Prop):Prop :=
 ∃ W:Nat→Nat→List V→Hp→Prop,(∃ m,W 0 m [] H1)∧∀ i m ys H,W i m ys H →
  (J.stop i H∧F ys H) ∨
  (J.go i H∧ys.length < sizeLine∧∀ x H',J.yld i H x H'→g x σc H' fun σ2 H2=>Fwd σc σ2∧tt σ2 H2 fun b H3 =>
   if b=true then te σ2 H3 fun y H4=>∃ m',m' < m∧W (i + 1) m' (ys++[y]) H4 else ∃ m',m' < m∧W (i + 1) m' ys H3)
def tComp(k:Nat)(fr:List Nat)(wi:TI)(g:TG)(tt:TT)(te:TE):TE:=fun σ H Q=>wi σ H fun J H1=>CompW J g tt te (compSt k fr σ) H1 fun ys H2=>ys.length≤sizeLine∧∀ p,H2 p=none→Q (.ref p) (upd H2 p (.lst ys))
def sComp(i:Nat)(k:Nat)(fr:List Nat)(wi:TI)(g:TG)(tt:TT)(te:TE):TS:=fun D σ H=>wi σ H fun J H1=>CompW J g tt te (compSt k fr σ) H1 fun ys H2=>ys.length≤sizeLine∧∀ p,H2 p=none→D.nx (σ.set i (some (.ref p))) (upd H2 p (.lst ys))
section
variable {X:Cx} {pins:List (Addr × Obj)} {σ:St} {H:Hp} {s:Shared}
theorem Inv.track{D:Addr}{o:HO}{t':Nat}(I:Inv X pins σ H s)(hn:H D=none)(hL:D≠X.env.locals)(h1:X.s₀.heap.objs.size≤D)(h2:∀ x c,X.env.cells.lookup x=some c→c≠D)(h3:∀ p∈X.pn++pins,p.1≠D)
  (new:ObjOk X.prog X.w (upd H D o) s.heap D o):Inv X pins σ (upd H D o) {s with toks:=t'}:=by
 have ne:∀ b u,H b=some u→b≠D:=fun b u e=>zm e hn
 refine I.step (h':=s.heap) (g':=s.gens) (d':=s.drawn) (ch:=[D]) (fun b hb=>?_) (fun b o _ _ _ e _=>e) (fun b o _ _ _ e _=>⟨o.slots,e⟩) (fun b o hc _ n=>?_) (fun b o _ e=>⟨o,e⟩)
  (fun b xs e=>by rw[zj (ne b _ e)];exact e) (fun b o u e=>by rw[zj (ne b _ e)];exact e) (fun b ps e=>⟨#[],by rw[zj (ne b _ e),e];simp⟩) (fun m hm=>hm) (fun b u e=>?_) I.bare
 ·have e:b=D:=by simpa using hb
  subst e
  exact⟨.inr h1,hL,h2,h3⟩
 ·rw[zj (by simpa using hc)];exact n
 ·by_cases hb:b=D
  ·subst hb;rw[zq]at e;cases e;exact new
  ·rw[zj hb]at e
   exact(I.hok b u e).stay (fun c v _ q=>q) (fun c q=>by rw[zj (ne c _ q)];exact q) fun c xs q=>by rw[zj (ne c _ q)];exact q
theorem z8Q(k:Nat)(fr:List Nat)(σ:St):(compSt k fr σ).length=k + fr.length:=by simp[compSt]
theorem z5R{k i:Nat}{fr:List Nat}{σ:St}(h:i < k):(compSt k fr σ)[i]?=some none:=by
 unfold compSt
 rw[List.getElem?_append_left (by simpa using h),List.getElem?_replicate,if_pos h]
theorem z7A{k i:Nat}{fr:List Nat}{σ:St}{v:V}(h:(compSt k fr σ)[i]?=some (some v)):∃ t j,i=k + t∧fr[t]?=some j∧σ[j]?=some (some v):=by
 by_cases hi:i < k
 ·rw[z5R hi]at h;cases h
 ·refine⟨i - k,?_⟩
  unfold compSt at h
  rw[List.getElem?_append_right (by simpa using Nat.not_lt.mp hi),List.length_replicate,List.getElem?_map]at h
  cases e:fr[i - k]? with
  | none=>rw[e]at h;cases h
  | some j =>
   rw[e]at h
   refine⟨j,by omega,rfl,?_⟩
   cases e2:σ[j]? with
   | none=>rw[show(some j).map (fun j=>(σ[j]?).getD none)=some ((σ[j]?).getD none) from rfl,e2]at h;cases h
   | some u =>
    rw[show(some j).map (fun j=>(σ[j]?).getD none)=some ((σ[j]?).getD none) from rfl,e2]at h
    exact h
def CompRR(X:Cx)(pins:List (Addr × Obj))(σ:St)(F:List V→Hp→Prop)(RR:Value→Addr→Result→Shared→Prop):Prop:=∀ D C ys (its:List Value) n H' m s',Inv X pins σ H' s'→H' D=none→X.s₀.heap.objs.size≤D→D≠X.env.locals→(∀ x c,X.env.cells.lookup x=some c→c≠D)→(∀ p∈X.pn++pins,p.1≠D) →
   s'.heap.get? D=some {cls:=.type "list",data:=.seq its.toArray n}→Vals ys its→s'.heap.Ns C m→H' C=none→X.s₀.heap.objs.size≤C→C≠X.env.locals→(∀ x c,X.env.cells.lookup x=some c→c≠C)→(∀ p∈X.pn++pins,p.1≠C)→C≠D →
   F ys H'→RR (.ref D) C (.ok .next) s'
inductive CompI(Y:Cx)(τ:St)(tn:Nat→Heap→Prop)(fp:List Addr)(D:Addr)(W:Nat→Nat→List V→Hp→Prop)(n:Nat)(s':Shared):Prop
 | mk (i:Nat) (ys:List V) (its:List Value) (nn:Nat) (H':Hp) (h0:Inv Y [] τ H' s') (h1:tn i s'.heap) (h2:∀ b∈fp,H' b=none) (h3:H' D=none) (h4:s'.heap.get? D=some {cls:=.type "list",data:=.seq its.toArray nn}) (h5:Vals ys its) (h6:W i n ys H')
theorem z8R{tg iter elt:Expr}{ifs:List Expr}{scope:Scope}{cl:List (Str × Addr)}{N:List Str}{k:Nat}{fr:List Nat}{pos:Pos}{g:TG}{tt:TT}{te:TE}
  {F:List V→Hp→Prop} {RR:Value→Addr→Result→Shared→Prop} {it D C:Addr} {fp:List Addr} {tn:Nat→Heap→Prop} {J:It} {H1:Hp} {h3 h₁:Heap}
  (ok:CompOk X scope cl N k fr) (hc:X.calm=true)
  (hg:∀ C s H ex,PG (compCx X scope cl N C s H ex) tg g) (ht:∀ C s H ex,PIfs (compCx X scope cl N C s H ex) ifs tt) (he:∀ C s H ex,PE (compCx X scope cl N C s H ex) elt te)
  (hRR:CompRR X pins σ F RR) (I:Inv X pins σ H1 s) (T:Turn X.prog X.w X.K tg J fp it tn) (st0:tn 0 s.heap) (hf:∀ b∈fp,FpOk X pins H1 b) (hw:CompW J g tt te (compSt k fr σ) H1 F)
  (hD:s.heap.objs.size=D) (hp3:s.heap.push {cls:=.type "list",dict:=none,data:=.seq ([]:List Value).toArray}=h3) (hC:h3.objs.size=C)
  (hns₁:h₁.Ns C fun x=>List.lookup x ([]:List (Str × Value)).reverse) (hsb₁:Heap.SameBut C (h3.push {cls:=.type (if (some X.env).isSome=true then "dict" else "frame"),data:=.dict #[]}) h₁) :
  codeAny (model X.prog X.w) X.A (.compStart (.ListComp elt [⟨tg,iter,ifs,0⟩] scope pos) 0 (.ref it) (.ref D) {newEnv scope C X.env.globals cl X.env.qual none .none (some X.env) builtinsNs with scope:=relabel scope X.env}) (RR (.ref D) C) {s with heap:=h₁,toks:=s.toks + ([]:List (Str × Value)).length}:=by
 obtain⟨W,⟨m0,w0⟩,turn⟩:=hw
 have DF:H1 D=none:=I.hok.fresh (by rw[hD];exact Nat.le_refl _)
 have hDfp:=I.fpOk (b:=D) (by rw[hD];exact Nat.le_refl _) DF
 have up3:∀ b u,s.heap.get? b=some u→h3.get? b=some u:=fun b u e=>by rw[← hp3];exact Heap.get?_push_of_some _ e
 have I3:Inv X pins σ H1 {s with heap:=h3}:=I.kept (t':=s.toks) up3
 have hD3:h3.get? D=some {cls:=.type "list",dict:=none,data:=.seq ([]:List Value).toArray}:=by rw[← hD,← hp3];exact Heap.get?_push_size _ rfl
 have sz3:C=D + 1:=by rw[← hC,← hp3,Heap.size_push,hD]
 have CF:H1 C=none:=I3.hok.fresh (by show h3.objs.size≤C;rw[hC];exact Nat.le_refl _)
 have hCfp:FpOk X pins H1 C:=I3.fpOk (b:=C) (by show h3.objs.size≤C;rw[hC];exact Nat.le_refl _) CF
 have CD:C≠D:=by rw[sz3];exact Nat.ne_of_gt (Nat.lt_succ_self _)
 have up1:∀ b u,h3.get? b=some u→h₁.get? b=some u:=fun b u e=>hsb₁.extBut b u (Nat.ne_of_lt (by have:=Heap.lt_size e;rw[hC]at this;exact this)) (Heap.get?_push_of_some _ e)
 have hfb:∀ b∈fp,b < D:=fun b hb=>by
  obtain⟨o,e,_⟩:=T.obj 0 _ st0 b hb
  have:=Heap.lt_size e
  rw[hD]at this;exact this
 let s3:Shared:={s with heap:=h3}
 let Y:Cx:=compCx X scope cl N C s3 H1 (D::fp)
 have yok:Y.Ok:={
  mod:=I.ok.mod
  kind:=ok.kind
  glob:=I.ok.glob
  blt:=I.ok.blt
  above:=by show h3.objs.size≤C;rw[hC];exact Nat.le_refl _
  inj:=fun x y c e1 e2=>I.ok.inj x y c (ok.sub x c e1) (ok.sub y c e2)
  has:=ok.has
  cab:=fun x c e _=>nomatch e
  hd:=fun _=>I.ok.hd hc
  frames:=I.ok.frames
  stk:=.inl rfl
  exf:=fun b hb=>by
   rcases List.mem_cons.mp hb with rfl | hb
   ·exact⟨Ne.symm CD,fun x c e=>hDfp.2.2.2.2.1 x c (ok.sub x c e)⟩
   ·exact⟨fun z=>by have q:=hfb b hb;have z':b=C:=z;rw[z',sz3]at q;exact absurd q (Nat.not_lt.mpr (Nat.le_succ _)),fun x c e=>(hf b hb).2.2.2.2.1 x c (ok.sub x c e)⟩
  bs:=fun b o e=>⟨(I3.bs b o e).1,(I3.bs b o e).2⟩
  bsz:=Nat.le_trans I.ok.bsz I3.sz
  noex:=fun b o e hb=>by
   rcases List.mem_cons.mp hb with rfl | hb
   ·have e1:=(I.bs b o e).1
    have:=Heap.lt_size e1
    rw[hD]at this
    exact Nat.lt_irrefl _ this
   ·rcases(hf b hb).2.2.2.1 with z | z
    ·exact I.ok.noex b o e z
    ·exact absurd (Nat.lt_of_lt_of_le (Heap.lt_size e) (Nat.le_trans I.ok.bsz z)) (Nat.lt_irrefl _)
  exfs:=fun b hb hb2=>by
   rcases List.mem_cons.mp hb with rfl | hb
   ·rcases List.mem_cons.mp (I.stkSub b hb2) with z | z
    ·exact hDfp.2.1 z
    ·exact hDfp.2.2.1 z
   ·rcases List.mem_cons.mp (I.stkSub b hb2) with z | z
    ·exact(hf b hb).2.1 z
    ·exact(hf b hb).2.2.1 z
  funs:=I3.stack
  frf:=I.stkFree}
 have neC:∀ b u,h3.get? b=some u→b≠C:=fun b u e=>Nat.ne_of_lt (by have:=Heap.lt_size e;rw[hC]at this;exact this)
 have IY:Inv Y [] (compSt k fr σ) H1 {s3 with heap:=h₁,toks:=s.toks + ([]:List (Str × Value)).length}:={
  ok:=yok
  os:=rfl
  bare:=I.bare
  base:=Un.kept up1
  loc:=by
   obtain⟨m,hn,hl⟩:=I3.loc
   refine⟨_,hns₁,fun i x v e1 e2 e3=>?_⟩
   obtain⟨t,j,rfl,e4,e5⟩:=z7A e2
   obtain⟨e6,e7,⟨c,e8⟩,e9,e10⟩:=ok.free t j x e4 e1
   obtain⟨u,ru,lk⟩:=hl j x v e6 e5 e7
   refine⟨u,ru,?_⟩
   rcases lk with ⟨z,_⟩ | ⟨_,c',e11,o,eo,ed⟩
   ·exact absurd z e10
   ·rw[ok.sub x c e8]at e11;cases e11
    exact .inr ⟨e9,c,e8,o,up1 _ _ eo,ed⟩
  cell:=fun x c e=>by
   obtain⟨v,o,eo,ed⟩:=I3.cell x c (ok.sub x c e)
   exact⟨v,o,up1 _ _ eo,ed⟩
  free:=CF
  freeC:=fun x c e=>I3.freeC x c (ok.sub x c e)
  pin:=fun p hp=>nomatch hp
  hok:=I3.hok.kept up1
  len:=by rw[z8Q];exact ok.len.symm}
 have DY:D≠Y.env.locals:=Ne.symm CD
 have DYf:D ∉ Y.fs:=yok.exfs D List.mem_cons_self
 have Dfp:D ∉ fp:=fun z=>Nat.lt_irrefl _ (hfb D z)
 have pinD:∀ {σ':St} {H':Hp} {s':Shared} {its:List Value} {n:Nat},Inv Y [] σ' H' s'→H' D=none→s'.heap.get? D=some {cls:=.type "list",data:=.seq its.toArray n} →
   Inv Y [(D,{cls:=.type "list",data:=.seq its.toArray n})] σ' H' s':=fun{σ' H' s' its n} J0 hn e=>J0.pins_of fun p hp=>by
  rcases List.mem_cons.mp hp with rfl | hp
  ·exact⟨e,hn,DY,DYf,fun v z=>nomatch z⟩
  ·exact nomatch hp
 have ffY:∀ {o:Obj} {H':Hp},(∀ b∈fp,H' b=none)→∀ b∈fp,FpOk Y [(D,o)] H' b:=fun{o H'} hn b hb =>
  ⟨hn b hb,(yok.exf b (List.mem_cons_of_mem _ hb)).1,yok.exfs b (List.mem_cons_of_mem _ hb),.inl (List.mem_cons_of_mem _ hb),(yok.exf b (List.mem_cons_of_mem _ hb)).2,fun p hp=>by
   have hp':p∈([]:List (Addr × Obj))++[(D,o)]:=hp
   have e:p=(D,o):=by simpa using hp'
   rw[e];exact fun z=>Dfp (by have z':D=b:=z;rw[z'];exact hb)⟩
 have loop:codeAny (model X.prog X.w) X.A (.compLoop (.ListComp elt [⟨tg,iter,ifs,0⟩] scope pos) 0 (.ref it) (.ref D) (compEnvC scope cl C X.env)) (RR (.ref D) C)
   {s3 with heap:=h₁,toks:=s.toks + ([]:List (Str × Value)).length}:=by
  refine codeAny_loop rfl (CompI Y (compSt k fr σ) tn fp D W) ?_ m0
   ⟨0,[],[],0,H1,IY,?_,fun b hb=>(hf b hb).1,DF,?_,.nil,w0⟩
  ·rintro n s4 ⟨i,ys,its,nn,H4,I4,st4,fr4,D4,e4,v4,w4⟩
   have P4:=pinD I4 D4 e4
   show wpAny _ X.A ((compTurn (.ListComp elt [⟨tg,iter,ifs,0⟩] scope pos) 0 (.ref it) (.ref D) (compEnvC scope cl C X.env)).onRaise (fun x=>do noteFrame x (compEnvC scope cl C X.env);theTreesLotGoes x)) _ _ s4
   refine wpAny_noted ?_
   rw[compTurn_list]
   refine wpAny_bind (wpAny_standAt (wpAny_bind ?_))
   rcases turn i n ys H4 w4 with ⟨stop,fin⟩ | ⟨go,small,step⟩
   ·refine wpAny_mono (T.done Y rfl rfl rfl hc i _ s4 _ H4 (fun _ _=>False) P4 (ffY fr4) st4 stop) (fun r s5 ⟨hr,I5⟩=>?_) fun _ _ z=>z.elim
    subst hr
    refine wpAny_pure ?_
    have e5:=(I5.pin _ (List.mem_cons_self)).1
    have fin5:Inv X pins σ H4 s5:=I3.call' (ch:=D::fp) I5.os I5.base I5.hok I5.bare fun b hb=>by
     rcases List.mem_cons.mp hb with rfl | hb
     ·exact⟨hDfp.2.2.2.1,hDfp.2.1,hDfp.2.2.2.2.1,hDfp.2.2.2.2.2⟩
     ·exact⟨(hf b hb).2.2.2.1,(hf b hb).2.1,(hf b hb).2.2.2.2.1,(hf b hb).2.2.2.2.2⟩
    obtain⟨m5,n5,_⟩:=I5.loc
    have szD:X.s₀.heap.objs.size≤D:=by have:=I.sz;rw[hD]at this;exact this
    have szC:X.s₀.heap.objs.size≤C:=by rw[sz3];exact Nat.le_succ_of_le szD
    exact hRR D C ys its nn H4 m5 s5 fin5 D4 szD hDfp.2.1 hDfp.2.2.2.2.1 hDfp.2.2.2.2.2 e5 v4 n5 I5.free szC hCfp.2.1 hCfp.2.2.2.2.1 hCfp.2.2.2.2.2 CD fin
   ·refine wpAny_mono (T.item Y rfl rfl rfl hc i _ s4 _ H4 (fun _ _=>False) P4 (ffY fr4) st4 go) (fun r s5 ⟨u,hr,h5⟩=>?_) fun _ _ z=>z.elim
    subst hr
    refine wpAny_bind (wpAny_mono h5 (fun _ s6 zhv=>?_) fun _ _ z=>z.elim)
    obtain⟨x,H6,I6,r6,y6,st6,fr6⟩:=zhv
    have I6':=I6.pinned (ffY fr6) (T.obj _ _ st6)
    refine wpAny_bind (wpAny_mono (hg C s3 H1 (D::fp) _ s6 _ H6 x u _ I6' r6 (step x H6 y6)) (fun _ s7 zhw=>?_) fun _ _ z=>z.elim)
    obtain⟨σ7,H7,I7,f7,q7⟩:=zhw
    refine wpAny_bind (wpAny_mono (ht C s3 H1 (D::fp) _ s7 σ7 H7 _ I7 q7) (fun b s8 zhx=>?_) fun _ _ z=>z.elim)
    obtain⟨H8,I8,q8⟩:=zhx
    have keep:∀ {s9:Shared} {H9:Hp},Inv Y ([(D,{cls:=.type "list",data:=.seq its.toArray nn})]++pinsAt fp s6.heap) σ7 H9 s9→tn (i + 1) s9.heap∧(∀ b∈fp,H9 b=none)∧H9 D=none∧s9.heap.get? D=some {cls:=.type "list",data:=.seq its.toArray nn}∧Inv Y [] (compSt k fr σ) H9 s9:=fun{s9 H9} I9=>by
     refine⟨T.keep _ _ _ st6 fun b hb o e=>(I9.pin (b,o) (List.mem_append_right _ (List.mem_append_right _ (z3b hb e)))).1,fun b hb=>?_,?_,?_,?_⟩
     ·obtain⟨o,e,d⟩:=T.obj _ _ st6 b hb
      exact(I9.pin (b,o) (List.mem_append_right _ (List.mem_append_right _ (z3b hb e)))).2.1
     ·exact(I9.pin _ (List.mem_append_right _ (List.mem_append_left _ List.mem_cons_self))).2.1
     ·exact(I9.pin _ (List.mem_append_right _ (List.mem_append_left _ List.mem_cons_self))).1
     ·exact(I9.pins_of (pins':=[]) fun p hp=>nomatch hp).weak f7.1.symm f7.2
    cases b with
    | false =>
     have q8:∃ m',m' < n∧W (i + 1) m' ys H8:=by simpa using q8
     obtain⟨m',hm,w8⟩:=q8
     obtain⟨a1,a2,a3,a4,a5⟩:=keep I8
     exact wpAny_pure ⟨rfl,m',hm,i + 1,ys,its,nn,H8,a5,a1,a2,a3,a4,v4,w8⟩
    | true =>
     have q8:te σ7 H8 fun y H4=>∃ m',m' < n∧W (i + 1) m' (ys++[y]) H4:=by simpa using q8
     refine wpAny_bind (wpAny_bind (wpAny_mono (he C s3 H1 (D::fp) _ s8 σ7 H8 _ I8 q8) (fun yv s9 zhy=>?_) fun _ _ z=>z.elim))
     obtain⟨y,H9,I9,r9,m',hm,w9⟩:=zhy
     obtain⟨a1,a2,a3,a4,a5⟩:=keep I9
     refine wpAny_bind (append_at (hsz:=by rw[List.size_toArray,← v4.length];exact Nat.le_of_lt small) a4 fun h' hs' e'=>?_)
     refine wpAny_pure (wpAny_pure ⟨rfl,m',hm,i + 1,ys++[y],its++[yv],nn + 1,H9,?_,?_,a2,a3,?_,v4.append (.cons r9 .nil),w9⟩)
     ·exact a5.turned (t':=s9.toks) (fun b o hb e=>hs'.extBut b o hb e) a3 DY (.inl List.mem_cons_self) (yok.exf D List.mem_cons_self).2 fun p hp=>nomatch hp
     ·exact T.keep _ _ _ a1 fun b hb o e=>hs'.extBut b o (fun z=>Dfp (by rw[← z];exact hb)) e
     ·show h'.get? D=_
      rw[e']
      simp
  ·exact T.keep 0 _ _ st0 fun b hb o e=>up1 _ _ (up3 _ _ e)
  ·exact up1 _ _ hD3
 exact codeAny_compStart_list loop (T.self _ 0 _ _ _ (T.keep 0 _ _ st0 fun b hb o e=>up1 _ _ (up3 _ _ e)) loop)
theorem z6R{tg iter elt:Expr}{ifs:List Expr}{scope:Scope}{cl:List (Str × Addr)}{N:List Str}{k:Nat}{fr:List Nat}{pos:Pos}{g:TG}{tt:TT}{te:TE}{itv:Value}{E:Value→Shared→Prop}
  {F:List V→Hp→Prop} {RR:Value→Addr→Result→Shared→Prop}
  (ok:CompOk X scope cl N k fr) (hc:X.calm=true)
  (hg:∀ C s H ex,PG (compCx X scope cl N C s H ex) tg g) (ht:∀ C s H ex,PIfs (compCx X scope cl N C s H ex) ifs tt) (he:∀ C s H ex,PE (compCx X scope cl N C s H ex) elt te)
  (h:PIE X pins σ tg (fun J H1=>CompW J g tt te (compSt k fr σ) H1 F) itv s)
  (hRR:CompRR X pins σ F RR) :
  wpAny (model X.prog X.w) X.A (newList []) (fun acc s₃=>wpAny (model X.prog X.w) X.A (newFunctionEnv scope X.env.globals cl [] X.env.qual none .none (some X.env)) (fun cenv s₄ =>
   codeAny (model X.prog X.w) X.A (.compStart (.ListComp elt [⟨tg,iter,ifs,0⟩] scope pos) 0 itv acc {cenv with scope:=relabel scope X.env}) (RR acc cenv.locals) s₄) E s₃) E s:=by
 obtain⟨it,fp,tn,J,H1,rfl,I,T,st0,hf,hw⟩:=h
 exact wpAny_newObj_type (wpAny_newFunctionEnv ok.nocell (by intro y hy;simp at hy) (fun h₁ hns₁ hsb₁=>z8R (s:=s) (h3:=s.heap.push {cls:=.type "list",dict:=none,data:=.seq ([]:List Value).toArray}) (h₁:=h₁) ok hc hg ht he hRR I T st0 hf hw rfl rfl rfl hns₁ hsb₁) ok.kind)
theorem zcE{tg iter elt:Expr}{ifs:List Expr}{scope:Scope}{cl:List (Str × Addr)}{N:List Str}{k:Nat}{fr:List Nat}{pos:Pos}{wi:TI}{g:TG}{tt:TT}{te:TE}
  (ok:CompOk X scope cl N k fr) (hc:X.calm=true) (hi:PI X tg iter wi)
  (hg:∀ C s H ex,PG (compCx X scope cl N C s H ex) tg g) (ht:∀ C s H ex,PIfs (compCx X scope cl N C s H ex) ifs tt) (he:∀ C s H ex,PE (compCx X scope cl N C s H ex) elt te)
  (hs:∀ x,foldedSetIterable iter X.env x=pure x:=by intro _;rfl):PE X (.ListComp elt [⟨tg,iter,ifs,0⟩] scope pos) (tComp k fr wi g tt te):=by
 intro pins s σ H Q I h
 rw[eval_ListComp]
 refine wpAny_comprehension_free (use:=none) rfl hs ok.clos ok.kind ok.names (thn (hi pins s σ H _ I h) fun v s1 h1=>thn h1 fun itv s2 h2=>?_)
 refine z6R ok hc hg ht he h2 fun D C ys its n H' m s' I' d1 d2 d3 d4 d5 e vv nC c1 c2 c3 c4 c5 cd fin=>?_
 refine⟨m,nC,fun h'' sb=>?_⟩
 have I2:Inv X pins σ H' {s' with heap:=h''}:=I'.turned (t':=s'.toks) (fun b o hb e=>sb.extBut b o hb e) c1 c3 (.inr c2) c4 c5
 have e2:h''.get? D=some {cls:=.type "list",data:=.seq its.toArray n}:=sb.extBut _ _ (Ne.symm cd) e
 exact⟨.ref D,upd H' D (.lst ys),I2.track (t':=s'.toks) d1 d3 d2 d4 d5 ⟨fin.1,its,n,vv,e2⟩,rfl,fin.2 D d1⟩
theorem zcF{i:Nat}{x:Str}{py spos:Pos}{tg iter elt:Expr}{ifs:List Expr}{scope:Scope}{cl:List (Str × Addr)}{N:List Str}{k:Nat}{fr:List Nat}{pos:Pos}{wi:TI}{g:TG}{tt:TT}{te:TE}
  (hN:X.N.Nodup) (hi':X.N[i]?=some x) (hx:Loc X.env.scope x) (ok:CompOk X scope cl N k fr) (hc:X.calm=true) (hi:PI X tg iter wi)
  (hg:∀ C s H ex,PG (compCx X scope cl N C s H ex) tg g) (ht:∀ C s H ex,PIfs (compCx X scope cl N C s H ex) ifs tt) (he:∀ C s H ex,PE (compCx X scope cl N C s H ex) elt te)
  (hsw:swapsWith (.ListComp elt [⟨tg,iter,ifs,0⟩] scope pos) (some (.Name x py)) spos.line X.env=pure true)
  (hs:∀ x,foldedSetIterable iter X.env x=pure x:=by intro _;rfl) (hf:X.fn x=true∨X.env.scope.names.lookup x=some .local:=by first | exact .inl rfl | exact .inr rfl | assumption) :
  PS X (.Assign [.Name x py] (.ListComp elt [⟨tg,iter,ifs,0⟩] scope pos) spos) (sComp i k fr wi g tt te):=by
 intro pins s σ H Dd I h
 rw[exec_Assign_Name_used _ _ _ _ hsw]
 refine wpAny_bind (wpAny_standAt (wpAny_bind ?_))
 show wpAny _ X.A (do let _ ← comprehension (.ListComp elt [⟨tg,iter,ifs,0⟩] scope pos) scope X.env _ (newList []) false (eval iter X.env) (some (assign (.Name x py) X.env))) _ _ s
 refine wpAny_bind (wpAny_mono (wpAny_comprehension_free (use:=some (assign (.Name x py) X.env)) (Q:=fun _ s'=>SP X pins Dd .next s') rfl hs ok.clos ok.kind ok.names (thn (hi pins s σ H _ I h) fun v s1 h1=>thn h1 fun itv s2 h2=>?_)) (fun _ s' hq=>wpAny_pure (wpAny_pure hq)) fun _ _ e=>e)
 refine z6R ok hc hg ht he h2 fun D C ys its n H' m s' I' d1 d2 d3 d4 d5 e vv nC c1 c2 c3 c4 c5 cd fin=>?_
 show wpAny _ X.A (assign (.Name x py) X.env (.ref D)) _ _ s'
 have I0:Inv X pins σ (upd H' D (.lst ys)) s':=I'.track (t':=s'.toks) d1 d3 d2 d4 d5 ⟨fin.1,its,n,vv,e⟩
 refine wpAny_assign_Name (z6I I0 hN hi' hx (show RelV (.ref D) (.ref D) from rfl) (fun s2 I2 zhz=>?_) hf)
 obtain⟨a,sb,ha⟩:=zhz
 have aC:C≠a:=by
  rcases ha with z | z
  ·rw[z];exact c3
  ·exact Ne.symm (c4 x a z)
 refine⟨m,nC.sameBut sb aC,fun h'' sb2=>?_⟩
 have HC:(upd H' D (.lst ys)) C=none:=by rw[zj cd];exact c1
 exact⟨_,_,I2.turned (t':=s2.toks) (fun b o hb e=>sb2.extBut b o hb e) HC c3 (.inr c2) c4 c5,fin.2 D d1⟩
end
end L2
namespace L2
open PySem PySem.Spec PyProof.Rows
def SqK(k:Bool)(K:PySem.W.Frag)(H:Hp)(a:Addr)(xs:List V):Prop:=if k=true then SqL K H a xs else SqT K H a xs
def HasK(k:Bool)(h:Heap)(a:Addr)(its:Array Value):Prop:=if k=true then h.IsList a its else h.IsTuple a its
def IterK(k:Bool)(h:Heap)(it a:Addr)(i:Nat):Prop:=if k=true then h.IsListIter it a i else h.IsTupleIter it a i
def iterObj(k:Bool)(a:Addr):Obj:={cls:=.type (if k=true then "list_iterator" else "tuple_iterator"),data:=.fields #[.ref a,.int 0 0]}
theorem IterK.at{k:Bool}{h h':Heap}{it a:Addr}{i:Nat}(x:IterK k h it a i)(e:∀ o,h.get? it=some o→h'.get? it=some o):IterK k h' it a i:=by
 cases k with
 | true=>exact Heap.IsListIter.at (show h.IsListIter it a i from x) e
 | false=>exact Heap.IsTupleIter.at (show h.IsTupleIter it a i from x) e
theorem IterK.get{k:Bool}{h:Heap}{it a:Addr}{i:Nat}(x:IterK k h it a i):∃ o,h.get? it=some o∧∀ v,o.data≠.cell v:=by
 cases k with
 | true=>obtain⟨o,e,_,d⟩:=(show h.IsListIter it a i from x);exact⟨o,e,fun v z=>by rw[d]at z;cases z⟩
 | false=>obtain⟨o,e,_,d⟩:=(show h.IsTupleIter it a i from x);exact⟨o,e,fun v z=>by rw[d]at z;cases z⟩
theorem HasK.at{k:Bool}{h h':Heap}{a:Addr}{its:Array Value}(x:HasK k h a its)(e:∀ o,h.get? a=some o→h'.get? a=some o):HasK k h' a its:=by
 cases k with
 | true=>exact Heap.IsList.at (show h.IsList a its from x) e
 | false=>obtain⟨o,q,r⟩:=(show h.IsTuple a its from x);exact⟨o,e o q,r⟩
theorem HasK.lt{k:Bool}{h:Heap}{a:Addr}{its:Array Value}(x:HasK k h a its):a < h.objs.size:=by
 cases k with
 | true=>obtain⟨_,e,_⟩:=(show h.IsList a its from x);exact Heap.lt_size e
 | false=>obtain⟨_,e,_⟩:=(show h.IsTuple a its from x);exact Heap.lt_size e
theorem Inv.hasK{X:Cx}{pins:List (Addr × Obj)}{σ:St}{H:Hp}{s:Shared}{k:Bool}{a:Addr}{xs:List V}(I:Inv X pins σ H s)(h:SqK k X.K H a xs) :
  ∃ its:List Value,Vals xs its∧HasK k s.heap a its.toArray∧xs.length≤sizeLine:=by
 cases k with
 | true =>
  obtain⟨its,r,p,z⟩:=I.list (show SqL X.K H a xs from h)
  exact⟨its,r,p.isList,z⟩
 | false =>
  obtain⟨its,r,⟨o,e,c,n,d⟩,z⟩:=I.tuple (show SqT X.K H a xs from h)
  exact⟨its,r,⟨o,e,c,n,d⟩,z⟩
theorem Inv.sqK_inj{X:Cx}{pins:List (Addr × Obj)}{σ:St}{H:Hp}{s:Shared}{k:Bool}{a:Addr}{xs ys:List V}(I:Inv X pins σ H s)(h:SqK k X.K H a xs)(h':SqK k X.K H a ys):xs=ys:=by
 cases k with
 | true=>exact I.list_inj h h'
 | false=>exact I.tuple_inj h h'
section
variable {prog:Program} {w:World} {A:Around} {E:Value→Shared→Prop} {s:Shared}
theorem z3c{k:Bool}{it a:Addr}{i:Nat}{its:Array Value}{x:Value}{Q:Value→Shared→Prop}(hi:IterK k s.heap it a i)(ha:HasK k s.heap a its)(hx:its[i]?=some x)
  (hQ:∀ h',IterK k h' it a (i + 1)→Heap.SameBut it s.heap h'→Q x {s with heap:=h'}):wpAny (model prog w) A (Builtin.SmallTypes.nextOf (.ref it)) Q E s:=by
 cases k with
 | true=>exact wpAny_nextOf_list_item hi ha hx fun h' q1 q2=>hQ h' q1 q2
 | false =>
  have hit:s.heap.IsTupleIter it a i:=hi
  obtain⟨o,eo,ec,ed⟩:=id hit
  obtain⟨oa,ea,_,na,da⟩:=(show s.heap.IsTuple a its from ha)
  unfold Builtin.SmallTypes.nextOf
  refine wpAny_bind (wpAny_callSpecial?_slot (name:=Str.ofString "__next__") hit.typeIs F.slot_tuple_iterator_next (wpAny_call_entry F.slot_tuple_iterator_next hit.typeIs F.entry_tuple_iterator_next ?_ (F.args_tuple_iterator_next_1 _)))
  show wpAny (model prog w) _ (field (.ref it) 0 >>= _) _ E s
  refine wpAny_bind (wpAny_field eo ed (x:=.ref a) rfl ?_)
  show wpAny (model prog w) _ (if (Value.ref a == Value.none)=true then _ else _) _ E s
  rw[if_neg (by show ¬ false=true;exact Bool.false_ne_true)]
  show wpAny (model prog w) _ (field (.ref it) 1 >>= _) _ E s
  refine wpAny_bind (wpAny_field eo ed (x:=.int i 0) rfl ?_)
  show wpAny (model prog w) _ (seqItems? (.ref a) >>= _) _ E s
  refine wpAny_bind (wpAny_seqItems ea da ?_)
  simp only[Int.toNat_natCast,hx]
  refine wpAny_bind (wpAny_setField eo ed (by simp) (wpAny_pure ⟨x,rfl,wpAny_pure (hQ _ ?_ (Heap.SameBut.update ..))⟩))
  show Heap.IsTupleIter _ it a (i + 1)
  refine⟨_,Heap.get?_update_self _ eo (Obj.isFreed_of_fields (Obj.data_mapFields ed _)),(Obj.cls_mapFields ..).trans ec,?_⟩
  rw[Obj.data_mapFields ed]
  simp[rawInt]
theorem z3Q{k:Bool}{it a:Addr}{i:Nat}{its:Array Value}{Q:Value→Shared→Prop}(hh:A.handled=none)(hi:IterK k s.heap it a i)(ha:HasK k s.heap a its)(hx:its[i]?=none)
  (hE:∀ h' e,Heap.ExtBut it s.heap h'→(∃ o,h'.get? e=some o∧o.cls=.type "StopIteration")→E (.ref e) {s with heap:=h'}):wpAny (model prog w) A (Builtin.SmallTypes.nextOf (.ref it)) Q E s:=by
 cases k with
 | true=>exact wpAny_nextOf_list_end hh hi ha hx hE
 | false =>
  have hit:s.heap.IsTupleIter it a i:=hi
  obtain⟨o,eo,ec,ed⟩:=id hit
  obtain⟨oa,ea,_,na,da⟩:=(show s.heap.IsTuple a its from ha)
  unfold Builtin.SmallTypes.nextOf
  refine wpAny_bind (wpAny_callSpecial?_slot (name:=Str.ofString "__next__") hit.typeIs F.slot_tuple_iterator_next (wpAny_call_entry F.slot_tuple_iterator_next hit.typeIs F.entry_tuple_iterator_next ?_ (F.args_tuple_iterator_next_1 _)))
  show wpAny (model prog w) _ (field (.ref it) 0 >>= _) _ E s
  refine wpAny_bind (wpAny_field eo ed (x:=.ref a) rfl ?_)
  show wpAny (model prog w) _ (if (Value.ref a == Value.none)=true then _ else _) _ E s
  rw[if_neg (by show ¬ false=true;exact Bool.false_ne_true)]
  show wpAny (model prog w) _ (field (.ref it) 1 >>= _) _ E s
  refine wpAny_bind (wpAny_field eo ed (x:=.int i 0) rfl ?_)
  show wpAny (model prog w) _ (seqItems? (.ref a) >>= _) _ E s
  refine wpAny_bind (wpAny_seqItems ea da ?_)
  simp only[Int.toNat_natCast,hx]
  refine wpAny_bind (wpAny_rule (wpAny_bind (wpAny_setField eo ed (by simp) ?_)))
  show wpAny (model prog w) _ (newExc (.type "StopIteration") [] >>= _) _ E _
  refine wpAny_bind ?_
  simp only[newExc,newTuple]
  refine wpAny_bind (wpAny_newObj_type ?_ (by size_fits))
  refine wpAny_bind (m:=firstArgMember _ _) (wpAny_of_eq (a:=Value.none) (by first | rfl | (simp only[firstArgMember];rfl)) (wpAny_newObj_type ?_ (by size_fits)))
  simp only[raiseNew]
  refine wpAny_bind (wpAny_handled ?_)
  first | rw[show A.in1.handled=none from hh] | rw[hh]
  exact wpAny_bind (wpAny_pure (wpAny_throw (hE _ _ (((Heap.SameBut.update ..).extBut.push _).push _) ⟨_,Heap.get?_push_size _ rfl,rfl⟩)))
theorem z2m{k:Bool}{a:Addr}{its:Array Value}{Q:Value→Shared→Prop}(ha:HasK k s.heap a its)(hQ:Q (.ref s.heap.objs.size) {s with heap:=s.heap.push (iterObj k a)}) :
  wpAny (model prog w) A (pyIter (.ref a)) Q E s:=by
 cases k with
 | true=>exact wpAny_pyIter_list ha hQ
 | false=>exact wpAny_pyIter_tuple ha hQ
theorem z48{k:Bool}{a it:Addr}{h:Heap}(e:h.get? it=some (iterObj k a)):IterK k h it a 0:=by
 cases k with
 | true=>exact⟨_,e,rfl,rfl⟩
 | false=>exact⟨_,e,rfl,rfl⟩
end
structure ZipRec(h:Heap)(k1 k2:Bool)(z TI TO i1 i2 a b:Addr)(n:Nat)(f0:Value):Prop where
 zr:IsZip h z TI TO f0
 pi:IsPair h TI (.ref i1) (.ref i2)
 po:∃ u v,IsPair h TO u v
 it1:IterK k1 h i1 a n
 it2:IterK k2 h i2 b n
structure ZipFar(z TI TO i1 i2:Addr):Prop where
 d1:TI≠z
 d2:TO≠z
 d3:i1≠z
 d4:i2≠z
 d5:TI≠TO
 d6:TI≠i1
 d7:TI≠i2
 d8:TO≠i1
 d9:TO≠i2
 d10:i1≠i2
section
variable {prog:Program} {w:World} {A:Around} {E:Value→Shared→Prop} {s:Shared} {k1 k2:Bool} {z TI TO i1 i2 a b:Addr} {n:Nat} {xs ys:Array Value}
theorem z9E{x y:Value}{Q:Value→Shared→Prop}(D:ZipFar z TI TO i1 i2)(Z:ZipRec s.heap k1 k2 z TI TO i1 i2 a b n .none)(ha:HasK k1 s.heap a xs)(hb:HasK k2 s.heap b ys)
  (fa:a≠z∧a≠TO∧a≠i1∧a≠i2) (fb:b≠z∧b≠TO∧b≠i1∧b≠i2) (hx:xs[n]?=some x) (hy:ys[n]?=some y)
  (hQ:∀ h',ZipRec h' k1 k2 z TI TO i1 i2 a b (n + 1) (rawInt s.heap.objs.size)→IsPair h' s.heap.objs.size x y→h'.objs.size=s.heap.objs.size + 1 →
   (∀ c o,c≠z→c≠TO→c≠i1→c≠i2→s.heap.get? c=some o→h'.get? c=some o)→Q (.ref s.heap.objs.size) {s with heap:=h'}) :
  wpAny (model prog w) A (Builtin.«zip.__next__» ⟨[.ref z],[]⟩) (fun fin s'=>∃ v,fin=.done (.ret v)∧Q v s') E s:=by
 obtain⟨zr,zi,⟨u,v,zo⟩,z1,z2⟩:=Z
 show wpAny (model prog w) A (field (.ref z) 2 >>= _) _ E s
 refine wpAny_bind (wpAny_field zr rfl (x:=.bool false) rfl ?_)
 show wpAny (model prog w) A (field (.ref z) 3 >>= _) _ E s
 refine wpAny_bind (wpAny_field zr rfl (x:=.ref TI) rfl (wpAny_bind (wpAny_seqItems zi rfl ?_)))
 show wpAny (model prog w) A (Builtin.SmallTypes.ownedTupleIsFree (.ref z) >>= _) _ E s
 refine wpAny_bind ?_
 unfold Builtin.SmallTypes.ownedTupleIsFree
 refine wpAny_bind (wpAny_field zr rfl (x:=.none) rfl (wpAny_pure ?_))
 simp only[if_true]
 refine wpAny_bind (wpAny_rule (wpAny_bind (wpAny_field zr rfl (x:=.ref TO) rfl (wpAny_bind (wpAny_setField_rec zr (by simp) fun g1 r1 e1=>?_)))))
 have r1':IsZip g1 z TI TO .ellipsis:=r1
 clear r1
 simp only[List.zipIdx_cons,List.zipIdx_nil,List.forIn_cons,List.forIn_nil]
 have kp1:∀ c o,c≠z→s.heap.get? c=some o→g1.get? c=some o:=fun c o q e=>e1.extBut c o q e
 refine wpAny_bind (wpAny_bind (wpAny_bind (wpAny_onRaise ?_)))
 show wpAny (model prog w) A (Builtin.SmallTypes.nextOf (.ref i1) >>= _) _ _ {s with heap:=g1}
 refine wpAny_bind (z3c (s:={s with heap:=g1}) (z1.at fun o e=>kp1 _ o D.d3 e) (ha.at fun o e=>kp1 _ o fa.1 e) hx fun g2 j1 e2=>wpAny_pure ?_)
 have kp2:∀ c o,c≠i1→g1.get? c=some o→g2.get? c=some o:=fun c o q e=>e2.extBut c o q e
 have o2:IsPair g2 TO u v:=kp2 _ _ D.d8 (kp1 _ _ D.d2 zo)
 refine wpAny_bind (wpAny_seqItems o2 rfl (wpAny_bind (wpAny_updateSeq_pair o2 fun g3 o3 e3=>wpAny_bind (wpAny_letGo (wpAny_pure ?_)))))
 have o3':IsPair g3 TO x v:=o3
 clear o3
 have kp3:∀ c o,c≠TO→g2.get? c=some o→g3.get? c=some o:=fun c o q e=>e3.extBut c o q e
 refine wpAny_bind (wpAny_bind (wpAny_onRaise ?_))
 show wpAny (model prog w) A (Builtin.SmallTypes.nextOf (.ref i2) >>= _) _ _ {s with heap:=g3}
 refine wpAny_bind (z3c (s:={s with heap:=g3}) (z2.at fun o e=>kp3 _ o D.d9.symm (kp2 _ o D.d10.symm (kp1 _ o D.d4 e))) (hb.at fun o e=>kp3 _ o fb.2.1 (kp2 _ o fb.2.2.1 (kp1 _ o fb.1 e))) hy fun g4 j2 e4=>wpAny_pure ?_)
 have kp4:∀ c o,c≠i2→g3.get? c=some o→g4.get? c=some o:=fun c o q e=>e4.extBut c o q e
 have o4:IsPair g4 TO x v:=kp4 _ _ D.d9 o3'
 refine wpAny_bind (wpAny_seqItems o4 rfl (wpAny_bind (wpAny_updateSeq_pair o4 fun g5 o5 e5=>wpAny_bind (wpAny_letGo (wpAny_pure (wpAny_pure ?_))))))
 have o5':IsPair g5 TO x y:=o5
 clear o5
 have kp5:∀ c o,c≠TO→g4.get? c=some o→g5.get? c=some o:=fun c o q e=>e5.extBut c o q e
 refine wpAny_bind (wpAny_seqItems o5' rfl (wpAny_bind (wpAny_newTuple ?_)))
 have sz5:g5.objs.size=s.heap.objs.size:=by rw[e5.1,e4.1,e3.1,e2.1,e1.1]
 have z5:IsZip g5 z TI TO .ellipsis:=kp5 _ _ D.d2.symm (kp4 _ _ D.d4.symm (kp3 _ _ D.d2.symm (kp2 _ _ D.d3.symm r1')))
 have all5:∀ c o,c≠z→c≠TO→c≠i1→c≠i2→s.heap.get? c=some o→g5.get? c=some o:=fun c o q1 q2 q3 q4 e=>kp5 _ _ q2 (kp4 _ _ q4 (kp3 _ _ q2 (kp2 _ _ q3 (kp1 _ _ q1 e))))
 have j1':IterK k1 g5 i1 a (n + 1):=j1.at fun o e=>kp5 _ _ D.d8.symm (kp4 _ _ D.d10 (kp3 _ _ D.d8.symm e))
 have j2':IterK k2 g5 i2 b (n + 1):=j2.at fun o e=>kp5 _ _ D.d9.symm e
 have zl:z < g5.objs.size:=Heap.lt_size z5
 refine wpAny_bind ?_
 unfold Builtin.SmallTypes.ownedTupleHandOut
 have z6:IsZip (g5.push {cls:=.type "tuple",data:=.seq #[x,y]}) z TI TO .ellipsis:=Heap.get?_push_of_some _ z5
 refine wpAny_bind (wpAny_setField_rec z6 (by simp) fun g7 r7 e7=>?_)
 have r7':IsZip g7 z TI TO (rawInt g5.objs.size):=r7
 refine wpAny_setField_rec r7' (by simp) fun g8 r8 e8=>?_
 have r8':IsZip g8 z TI TO (rawInt g5.objs.size):=r8
 have kp8:∀ c o,c≠z→g5.get? c=some o→g8.get? c=some o:=fun c o q e=>e8.extBut _ _ q (e7.extBut _ _ q (Heap.get?_push_of_some _ e))
 have t8:IsPair g8 g5.objs.size x y:=e8.extBut _ _ (Nat.ne_of_gt zl) (e7.extBut _ _ (Nat.ne_of_gt zl) (Heap.get?_push_size _ rfl))
 have sz8:g8.objs.size=g5.objs.size + 1:=by rw[e8.1,e7.1,Heap.size_push]
 rw[sz5]at r8' t8 sz8
 refine wpAny_pure ⟨_,rfl,?_⟩
 show Q (.ref g5.objs.size) _
 rw[sz5]
 exact hQ g8 ⟨r8',kp8 _ _ D.d1 (all5 _ _ D.d1 D.d5 D.d6 D.d7 zi),⟨_,_,kp8 _ _ D.d2 o5'⟩,j1'.at fun o e=>kp8 _ o D.d3 e,j2'.at fun o e=>kp8 _ o D.d4 e⟩ t8 sz8 fun c o q1 q2 q3 q4 e=>kp8 c o q1 (all5 c o q1 q2 q3 q4 e)
theorem zb4{Q:Fin→Shared→Prop}(hh:A.handled=none)(D:ZipFar z TI TO i1 i2)(Z:ZipRec s.heap k1 k2 z TI TO i1 i2 a b n .none)(ha:HasK k1 s.heap a xs)(hb:HasK k2 s.heap b ys)
  (fa:a≠z∧a≠TO∧a≠i1∧a≠i2) (fb:b≠z∧b≠TO∧b≠i1∧b≠i2) (hend:xs[n]?=none∨ys[n]?=none)
  (hE:∀ h' e,(∀ c o,c≠z→c≠TO→c≠i1→c≠i2→s.heap.get? c=some o→h'.get? c=some o)→(∃ o,h'.get? e=some o∧o.cls=.type "StopIteration")→E (.ref e) {s with heap:=h'}) :
  wpAny (model prog w) A (Builtin.«zip.__next__» ⟨[.ref z],[]⟩) Q E s:=by
 obtain⟨zr,zi,⟨u,v,zo⟩,z1,z2⟩:=Z
 show wpAny (model prog w) A (field (.ref z) 2 >>= _) _ E s
 refine wpAny_bind (wpAny_field zr rfl (x:=.bool false) rfl ?_)
 show wpAny (model prog w) A (field (.ref z) 3 >>= _) _ E s
 refine wpAny_bind (wpAny_field zr rfl (x:=.ref TI) rfl (wpAny_bind (wpAny_seqItems zi rfl ?_)))
 show wpAny (model prog w) A (Builtin.SmallTypes.ownedTupleIsFree (.ref z) >>= _) _ E s
 refine wpAny_bind ?_
 unfold Builtin.SmallTypes.ownedTupleIsFree
 refine wpAny_bind (wpAny_field zr rfl (x:=.none) rfl (wpAny_pure ?_))
 simp only[if_true]
 refine wpAny_bind (wpAny_rule (wpAny_bind (wpAny_field zr rfl (x:=.ref TO) rfl (wpAny_bind (wpAny_setField_rec zr (by simp) fun g1 r1 e1=>?_)))))
 have r1':IsZip g1 z TI TO .ellipsis:=r1
 clear r1
 simp only[List.zipIdx_cons,List.zipIdx_nil,List.forIn_cons,List.forIn_nil]
 have kp1:∀ c o,c≠z→s.heap.get? c=some o→g1.get? c=some o:=fun c o q e=>e1.extBut c o q e
 refine wpAny_bind (wpAny_bind (wpAny_bind (wpAny_onRaise ?_)))
 show wpAny (model prog w) A (Builtin.SmallTypes.nextOf (.ref i1) >>= _) _ _ {s with heap:=g1}
 cases hx:xs[n]? with
 | none =>
  refine wpAny_bind (z3Q (s:={s with heap:=g1}) hh (z1.at fun o e=>kp1 _ o D.d3 e) (ha.at fun o e=>kp1 _ o fa.1 e) hx fun g2 e e2 he=>?_)
  obtain⟨oe,eo,ec⟩:=he
  have z2':IsZip g2 z TI TO .ellipsis:=e2 _ _ D.d3.symm r1'
  have ez:e≠z:=fun q=>by subst q;rw[z2']at eo;cases eo;simp at ec
  exact wpAny_setField_rec z2' (by simp) fun g3 _ e3=>hE g3 e (fun c o q1 _ q3 _ q=>e3.extBut _ _ q1 (e2 _ _ q3 (kp1 _ _ q1 q))) ⟨oe,e3.extBut _ _ ez eo,ec⟩
 | some x =>
  have hy:ys[n]?=none:=hend.resolve_left fun q=>by rw[hx]at q;cases q
  refine wpAny_bind (z3c (s:={s with heap:=g1}) (z1.at fun o e=>kp1 _ o D.d3 e) (ha.at fun o e=>kp1 _ o fa.1 e) hx fun g2 j1 e2=>wpAny_pure ?_)
  have kp2:∀ c o,c≠i1→g1.get? c=some o→g2.get? c=some o:=fun c o q e=>e2.extBut c o q e
  have o2:IsPair g2 TO u v:=kp2 _ _ D.d8 (kp1 _ _ D.d2 zo)
  refine wpAny_bind (wpAny_seqItems o2 rfl (wpAny_bind (wpAny_updateSeq_pair o2 fun g3 o3 e3=>wpAny_bind (wpAny_letGo (wpAny_pure ?_)))))
  have kp3:∀ c o,c≠TO→g2.get? c=some o→g3.get? c=some o:=fun c o q e=>e3.extBut c o q e
  refine wpAny_bind (wpAny_bind (wpAny_onRaise ?_))
  show wpAny (model prog w) A (Builtin.SmallTypes.nextOf (.ref i2) >>= _) _ _ {s with heap:=g3}
  refine wpAny_bind (z3Q (s:={s with heap:=g3}) hh (z2.at fun o e=>kp3 _ o D.d9.symm (kp2 _ o D.d10.symm (kp1 _ o D.d4 e))) (hb.at fun o e=>kp3 _ o fb.2.1 (kp2 _ o fb.2.2.1 (kp1 _ o fb.1 e))) hy fun g4 e e4 he=>?_)
  obtain⟨oe,eo,ec⟩:=he
  have z4:IsZip g4 z TI TO .ellipsis:=e4 _ _ D.d4.symm (kp3 _ _ D.d2.symm (kp2 _ _ D.d3.symm r1'))
  have ez:e≠z:=fun q=>by subst q;rw[z4]at eo;cases eo;simp at ec
  exact wpAny_setField_rec z4 (by simp) fun g5 _ e5=>hE g5 e (fun c o q1 q2 q3 q4 q=>e5.extBut _ _ q1 (e4 _ _ q4 (kp3 _ _ q2 (kp2 _ _ q3 (kp1 _ _ q1 q))))) ⟨oe,e5.extBut _ _ ez eo,ec⟩
end
section
variable {prog:Program} {w:World} {A:Around} {E:Value→Shared→Prop} {s:Shared} {k1 k2:Bool} {z TI TO i1 i2 a b:Addr} {n:Nat} {xs ys:Array Value}
theorem z6S{x y:Value}{Q:Option Value→Shared→Prop}(D:ZipFar z TI TO i1 i2)(Z:ZipRec s.heap k1 k2 z TI TO i1 i2 a b n .none)(ha:HasK k1 s.heap a xs)(hb:HasK k2 s.heap b ys)
  (fa:a≠z∧a≠TO∧a≠i1∧a≠i2) (fb:b≠z∧b≠TO∧b≠i1∧b≠i2) (hx:xs[n]?=some x) (hy:ys[n]?=some y)
  (hQ:∀ h',ZipRec h' k1 k2 z TI TO i1 i2 a b (n + 1) (rawInt s.heap.objs.size)→IsPair h' s.heap.objs.size x y→h'.objs.size=s.heap.objs.size + 1 →
   (∀ c o,c≠z→c≠TO→c≠i1→c≠i2→s.heap.get? c=some o→h'.get? c=some o)→Q (some (.ref s.heap.objs.size)) {s with heap:=h'}) :
  wpAny (model prog w) A (pyNext (.ref z)) Q E s:=by
 have ty:s.TypeIs (.ref z) "zip":=⟨_,Z.zr,rfl⟩
 unfold pyNext
 refine wpAny_bind (wpAny_attempt (wpAny_callSpecial?_slot (name:=Str.ofString "__next__") ty F.slot_zip_next (wpAny_call_entry F.slot_zip_next ty F.entry_zip_next ?_ (F.args_zip_next_1 _))))
 exact z9E D Z ha hb fa fb hx hy fun h' q1 q2 q3 q4=>wpAny_pure (hQ h' q1 q2 q3 q4)
theorem z7B{Q:Option Value→Shared→Prop}(hh:A.handled=none)(D:ZipFar z TI TO i1 i2)(Z:ZipRec s.heap k1 k2 z TI TO i1 i2 a b n .none)(ha:HasK k1 s.heap a xs)(hb:HasK k2 s.heap b ys)
  (fa:a≠z∧a≠TO∧a≠i1∧a≠i2) (fb:b≠z∧b≠TO∧b≠i1∧b≠i2) (hend:xs[n]?=none∨ys[n]?=none)
  (hQ:∀ h',(∀ c o,c≠z→c≠TO→c≠i1→c≠i2→s.heap.get? c=some o→h'.get? c=some o)→Q none {s with heap:=h'}):wpAny (model prog w) A (pyNext (.ref z)) Q E s:=by
 have ty:s.TypeIs (.ref z) "zip":=⟨_,Z.zr,rfl⟩
 unfold pyNext
 refine wpAny_bind (wpAny_attempt (wpAny_callSpecial?_slot (name:=Str.ofString "__next__") ty F.slot_zip_next (wpAny_call_entry F.slot_zip_next ty F.entry_zip_next ?_ (F.args_zip_next_1 _))))
 refine zb4 hh D Z ha hb fa fb hend fun h' e kp he=>?_
 obtain⟨o,ho,hc⟩:=he
 exact wpAny_bind (wpAny_isInstance (T:="StopIteration") (b:=true) ⟨o,ho,hc⟩ isSubtype_stop (wpAny_pure (hQ _ kp)))
abbrev zG1(h:Heap)(k1:Bool)(a:Addr):Heap:=h.push (iterObj k1 a)
abbrev zG2(h:Heap)(k1 k2:Bool)(a b:Addr):Heap:=(zG1 h k1 a).push (iterObj k2 b)
abbrev zG3(h:Heap)(k1 k2:Bool)(a b:Addr):Heap:=(zG2 h k1 k2 a b).push {cls:=.type "tuple",data:=.seq #[.ref h.objs.size,.ref (zG1 h k1 a).objs.size]}
abbrev zG4(h:Heap)(k1 k2:Bool)(a b:Addr):Heap:=(zG3 h k1 k2 a b).push {cls:=.type "tuple",data:=.seq #[.none,.none]}
abbrev zG5(h:Heap)(k1 k2:Bool)(a b:Addr):Heap:=(zG4 h k1 k2 a b).push {cls:=.type "zip",data:=.fields #[.none,.bool false,.bool false,.ref (zG2 h k1 k2 a b).objs.size,.ref (zG3 h k1 k2 a b).objs.size]}
theorem z8S(k1 k2:Bool)(a b:Addr)(xs ys:Array Value):Meets (Builtin.«zip.__new__» ⟨[.type "zip",.ref a,.ref b],[]⟩) (fun _ R s=>HasK k1 s.heap a xs∧HasK k2 s.heap b ys ∧
   R (.ok (.ret (.ref (zG4 s.heap k1 k2 a b).objs.size))) {s with heap:=zG5 s.heap k1 k2 a b}) :=
 .of_wp fun prog w A R s h=>by
  obtain⟨hp,g,d,tk,os⟩:=s
  obtain⟨p1,p2,h⟩:=h
  have hsub:=sub_zip
  have q1:HasK k1 (Shared.heap ⟨hp,g,d,tk,os⟩) a xs:=p1
  have q2:HasK k2 (Shared.heap ⟨hp.push (iterObj k1 a),g,d,tk,os⟩) b ys:=p2.at fun o e=>Heap.get?_push_of_some _ e
  wp_walk using z2m q1,z2m q2
  exact⟨_,rfl,h⟩
theorem z9F{Q:Value→Shared→Prop}(ha:HasK k1 s.heap a xs)(hb:HasK k2 s.heap b ys)
  (h:∀ h',ZipRec h' k1 k2 (s.heap.objs.size + 4) (s.heap.objs.size + 2) (s.heap.objs.size + 3) s.heap.objs.size (s.heap.objs.size + 1) a b 0 .none→(∀ c o,s.heap.get? c=some o→h'.get? c=some o)→Q (.ref (s.heap.objs.size + 4)) {s with heap:=h'}) :
  wpAny (model prog w) A (call (.type "zip") [.ref a,.ref b]) Q E s:=by
 refine callType_new F.called_zip (by decide) (F.typeCall_zip_2 _ _) (F.newCall_zip_2 _ _) (fun obj=>F.args_object_init_3 obj _ _) F.entry_zip_new (z8S k1 k2 a b xs ys) ⟨ha,hb,?_⟩
 have n1:(zG1 s.heap k1 a).objs.size=s.heap.objs.size + 1:=Heap.size_push ..
 have n2:(zG2 s.heap k1 k2 a b).objs.size=s.heap.objs.size + 2:=by rw[Heap.size_push,n1]
 have n3:(zG3 s.heap k1 k2 a b).objs.size=s.heap.objs.size + 3:=by rw[Heap.size_push,n2]
 have n4:(zG4 s.heap k1 k2 a b).objs.size=s.heap.objs.size + 4:=by rw[Heap.size_push,n3]
 have up:∀ {g:Heap} {o:Obj} {c:Addr} {u:Obj},g.get? c=some u→(g.push o).get? c=some u:=fun e=>Heap.get?_push_of_some _ e
 have g5:(zG5 s.heap k1 k2 a b).get? (zG4 s.heap k1 k2 a b).objs.size=some _:=Heap.get?_push_size _ rfl
 have g4:(zG5 s.heap k1 k2 a b).get? (zG3 s.heap k1 k2 a b).objs.size=some _:=up (Heap.get?_push_size _ rfl)
 have g3:(zG5 s.heap k1 k2 a b).get? (zG2 s.heap k1 k2 a b).objs.size=some _:=up (up (Heap.get?_push_size _ rfl))
 have g2:(zG5 s.heap k1 k2 a b).get? (zG1 s.heap k1 a).objs.size=some (iterObj k2 b):=up (up (up (Heap.get?_push_size _ (by cases k2 <;> rfl))))
 have g1:(zG5 s.heap k1 k2 a b).get? s.heap.objs.size=some (iterObj k1 a):=up (up (up (up (Heap.get?_push_size _ (by cases k1 <;> rfl)))))
 show _∧_
 rw[n2,n3,n4]at g5
 rw[n1,n2]at g3
 rw[n3]at g4
 rw[n1]at g2
 rw[n4]
 exact⟨⟨_,g5,rfl⟩,h _ ⟨g5,g3,⟨_,_,g4⟩,z48 g1,z48 g2⟩ fun c o e=>up (up (up (up (up e))))⟩
end
def Itz(K:PySem.W.Frag)(k1 k2:Bool)(a b:Addr):It :=
  ⟨fun i H=>∃ xs ys x y,SqK k1 K H a xs∧SqK k2 K H b ys∧xs[i]?=some x∧ys[i]?=some y,
   fun i H v H'=>∃ p x y,v=.ref p∧H p=none∧H'=upd H p (.tup [x,y])∧(∀ xs,SqK k1 K H a xs→xs[i]?=some x)∧∀ ys,SqK k2 K H b ys→ys[i]?=some y,
   fun i H=>∃ xs ys,SqK k1 K H a xs∧SqK k2 K H b ys∧(xs.length≤i∨ys.length≤i)⟩
theorem zb5{P:Program}{w:World}{K:PySem.W.Frag}{elts:List Expr}{c:Nat}{pos:Pos}{k1 k2:Bool}{z TI TO i1 i2 a b:Addr}(D:ZipFar z TI TO i1 i2)(fa:a≠z∧a≠TO∧a≠i1∧a≠i2)(fb:b≠z∧b≠TO∧b≠i1∧b≠i2) :
  Turn P w K (.Tuple elts c pos) (Itz K k1 k2 a b) [z,TI,TO,i1,i2] z (fun i h=>ZipRec h k1 k2 z TI TO i1 i2 a b i .none) where
 mem:=by simp
 obj:=fun i h st q hq=>by
  obtain⟨zr,zi,⟨u,v,zo⟩,z1,z2⟩:=st
  simp only[List.mem_cons,List.not_mem_nil,or_false]at hq
  rcases hq with rfl | rfl | rfl | rfl | rfl
  ·exact⟨_,zr,fun v e=>nomatch e⟩
  ·exact⟨_,zi,fun v e=>nomatch e⟩
  ·exact⟨_,zo,fun v e=>nomatch e⟩
  ·exact z1.get
  ·exact z2.get
 keep:=fun i h h' st k=>by
  obtain⟨zr,zi,⟨u,v,zo⟩,z1,z2⟩:=st
  exact⟨k _ (by simp) _ zr,k _ (by simp) _ zi,⟨u,v,k _ (by simp) _ zo⟩,z1.at fun o e=>k _ (by simp) o e,z2.at fun o e=>k _ (by simp) o e⟩
 item:=by
  intro X hP hw hK hc i pins s σ H E I hf st hg
  subst hP hw hK
  obtain⟨xs,ys,x,y,sa,sb,hx,hy⟩:=hg
  obtain⟨ia,ra,ha,za⟩:=I.hasK sa
  obtain⟨ib,rb,hb,zb⟩:=I.hasK sb
  obtain⟨u,hu,ru⟩:=ra.get hx
  obtain⟨v,hv,rv⟩:=rb.get hy
  refine z6S D st ha hb fa fb (x:=u) (y:=v) (by simpa using hu) (by simpa using hv) fun h' Z' t' sz' kp=>?_
  refine⟨_,rfl,wpAny_letOwnedTupleGo_zip Z'.zr fun h'' z'' sb''=>?_⟩
  have lt:∀ {c o},s.heap.get? c=some o→s.heap.objs.size≠c:=fun e=>Nat.ne_of_gt (Heap.lt_size e)
  have hz:s.heap.objs.size≠z:=lt st.zr
  have kp2:∀ c o,c ∉ [z,TI,TO,i1,i2]→s.heap.get? c=some o→h''.get? c=some o:=fun c o hc e=>by
   simp only[List.mem_cons,List.not_mem_nil,or_false,not_or]at hc
   exact sb''.extBut _ _ hc.1 (kp c o hc.1 hc.2.2.1 hc.2.2.2.1 hc.2.2.2.2 e)
  have nH:H s.heap.objs.size=none:=I.hok.fresh (Nat.le_refl _)
  have frL:∀ q∈[z,TI,TO,i1,i2],H q=none:=fun q hq=>(hf q hq).1
  have neT:∀ q u,H q=some u→q≠s.heap.objs.size:=fun q u e=>zm e nH
  refine⟨.ref s.heap.objs.size,upd H s.heap.objs.size (.tup [x,y]),?_,rfl,⟨_,x,y,rfl,nH,rfl,fun xs' q=>by rw[I.sqK_inj q sa];exact hx,fun ys' q=>by rw[I.sqK_inj q sb];exact hy⟩,?_,fun q hq=>?_⟩
  ·refine Inv.step (s:=s) (h':=h'') (g':=s.gens) (d':=s.drawn) (t':=s.toks) (ch:=[z,TI,TO,i1,i2]) I (fun q hq=>?_) (fun q o _ _ hc e _=>kp2 q o hc e) (fun q o _ _ hc e _=>⟨o.slots,kp2 q o hc e⟩) (fun q o hc e n=>?_) (fun q o hc e=>⟨o,kp2 q o hc e⟩)
    (fun q xs e=>by rw[zj (neT q _ e)];exact e) (fun q o u e=>by rw[zj (neT q _ e)];exact e) (fun q ps e=>⟨#[],by rw[zj (neT q _ e),e];simp⟩) (fun m hm=>?_) (fun q o e=>?_) I.bare
   ·exact⟨(hf q hq).2.2.2.1,(hf q hq).2.1,(hf q hq).2.2.2.2.1,(hf q hq).2.2.2.2.2⟩
   ·rw[zj (fun zz=>lt e zz.symm)];exact n
   ·obtain⟨o,es,ep,ho,r⟩:=hm
    exact⟨o,es,ep,kp2 _ o (fun hq=>(hf _ hq).2.1 rfl) ho,r⟩
   ·have notin:∀ q u,H q=some u→q ∉ [z,TI,TO,i1,i2]:=fun q u e hq=>by rw[frL q hq]at e;cases e
    by_cases hq:q=s.heap.objs.size
    ·subst hq
     rw[zq]at e
     cases e
     exact⟨by show 2≤sizeLine;decide,[u,v],.cons ru (.cons rv .nil),⟨_,sb''.extBut _ _ hz t',rfl,_,rfl⟩⟩
    ·rw[zj hq]at e
     refine(I.hok q o e).stay (fun c w' hc r=>kp2 c w' ?_ r) (fun c r=>by rw[zj (neT c _ r)];exact r) fun c xs r=>by rw[zj (neT c _ r)];exact r
     rcases hc with rfl | hc
     ·exact notin _ _ e
     ·exact notin _ _ hc
  ·obtain⟨zr,zi,⟨u',v',zo⟩,z1,z2⟩:=Z'
   exact⟨z'',sb''.extBut _ _ D.d1 zi,⟨u',v',sb''.extBut _ _ D.d2 zo⟩,z1.at fun o e=>sb''.extBut _ o D.d3 e,z2.at fun o e=>sb''.extBut _ o D.d4 e⟩
  ·rw[zj]
   ·exact frL q hq
   ·obtain⟨zr,zi,⟨u',v',zo⟩,z1,z2⟩:=st
    simp only[List.mem_cons,List.not_mem_nil,or_false]at hq
    rcases hq with rfl | rfl | rfl | rfl | rfl
    ·exact fun zz=>lt zr zz.symm
    ·exact fun zz=>lt zi zz.symm
    ·exact fun zz=>lt zo zz.symm
    ·obtain⟨o,e,_⟩:=z1.get;exact fun zz=>lt e zz.symm
    ·obtain⟨o,e,_⟩:=z2.get;exact fun zz=>lt e zz.symm
 done:=by
  intro X hP hw hK hc i pins s σ H E I hf st hg
  subst hP hw hK
  obtain⟨xs,ys,sa,sb,hx⟩:=hg
  obtain⟨ia,ra,ha,za⟩:=I.hasK sa
  obtain⟨ib,rb,hb,zb⟩:=I.hasK sb
  have la:=ra.length
  have lb:=rb.length
  refine z7B (I.ok.hd hc) D st ha hb fa fb (hx.imp (fun q=>by simp;omega) fun q=>by simp;omega) fun h' kp=>⟨rfl,?_⟩
  have kp2:∀ c o,c ∉ [z,TI,TO,i1,i2]→s.heap.get? c=some o→h'.get? c=some o:=fun c o hc e=>by
   simp only[List.mem_cons,List.not_mem_nil,or_false,not_or]at hc
   exact kp c o hc.1 hc.2.2.1 hc.2.2.2.1 hc.2.2.2.2 e
  have notin:∀ q u,H q=some u→q ∉ [z,TI,TO,i1,i2]:=fun q u e hq=>by rw[(hf q hq).1]at e;cases e
  refine Inv.step (s:=s) (h':=h') (g':=s.gens) (d':=s.drawn) (t':=s.toks) (ch:=[z,TI,TO,i1,i2]) I (fun q hq=>?_) (fun q o _ _ hc e _=>kp2 q o hc e) (fun q o _ _ hc e _=>⟨o.slots,kp2 q o hc e⟩) (fun _ _ _ _ n=>n)
   (fun q o hq e=>?_) (fun _ _ e=>e) (fun _ _ _ e=>e) (fun q ps e=>⟨#[],by rw[e];simp⟩) (fun m hm=>?_) (fun q o e=>?_) I.bare
  ·exact⟨(hf q hq).2.2.2.1,(hf q hq).2.1,(hf q hq).2.2.2.2.1,(hf q hq).2.2.2.2.2⟩
  ·exact⟨o,kp2 q o hq e⟩
  ·obtain⟨o,es,ep,ho,r⟩:=hm
   exact⟨o,es,ep,kp2 _ o (fun hq=>(hf _ hq).2.1 rfl) ho,r⟩
  ·refine(I.hok q o e).stay (fun c w' hc r=>kp2 c w' ?_ r) (fun _ r=>r) fun _ _ r=>r
   rcases hc with rfl | hc
   ·exact notin _ _ e
   ·exact notin _ _ hc
 self:=fun _ _ _ _ _ st h=>wpAny_pyIter_zip st.zr h
def iZip(K:PySem.W.Frag)(ta:TA):TI:=fun σ H R=>ta σ H fun vs H1=>∃ k1 k2 a b xs ys,vs=[.ref a,.ref b]∧SqK k1 K H1 a xs∧SqK k2 K H1 b ys∧R (Itz K k1 k2 a b) H1
theorem ze5{X:Cx}{elts:List Expr}{c:Nat}{tp:Pos}{a b:Expr}{ta:TA}{p pos:Pos}(hg:Gl X "zip")(hm:X.mg "zip"=none)(ha:PA X [a,b] ta)(hs:starEach [a,b] X.env=[(false,eval a X.env),(false,eval b X.env)]:=by rfl)
  (hs2:starEach [b] X.env=[(false,eval b X.env)]:=by rfl):PI X (.Tuple elts c tp) (.Call (.Name "zip" p) [a,b] [] pos) (iZip X.K ta):=by
 intro pins s σ H R I h
 refine Call_ (z3N I hg hm (u:=.type "zip") (by first | rfl | decide +kernel) (PyProof.Rows.callWith_type1 (thn (ha pos pins s σ H _ I h) fun us s1 zhA=>?_) (by rw[hs,hs2]) (by rw[hs2];rfl)))
 obtain⟨vs,H1,I1,r1,q1⟩:=zhA
 obtain⟨k1,k2,a,b,xs,ys,e,sa,sb,q⟩:=q1
 subst e
 obtain⟨u,v,rfl,ru,rv⟩:=vals2 r1
 cases (show u=Value.ref a from ru)
 cases (show v=Value.ref b from rv)
 obtain⟨ia,ra,ha',za⟩:=I1.hasK sa
 obtain⟨ib,rb,hb',zb⟩:=I1.hasK sb
 refine z9F ha' hb' fun h' Z kp=>?_
 refine wpAny_pyIter_zip Z.zr ?_
 have la:LT.lt (α:=Nat) a s1.heap.objs.size:=ha'.lt
 have lb:LT.lt (α:=Nat) b s1.heap.objs.size:=hb'.lt
 generalize hn:s1.heap.objs.size=n at *
 refine⟨n + 4,[n + 4,n + 2,n + 3,n,n + 1],fun i h=>ZipRec h k1 k2 (n + 4) (n + 2) (n + 3) n (n + 1) a b i .none,Itz X.K k1 k2 a b,H1,rfl,I1.kept (t':=s1.toks) kp,zb5 ?_ ?_ ?_,Z,fun q hq=>?_,q⟩
 ·constructor <;> (intro e;have e':(_:Nat)=_:=e;omega)
 ·refine⟨?_,?_,?_,?_⟩ <;> (intro e;have e':(_:Nat)=_:=e;omega)
 ·refine⟨?_,?_,?_,?_⟩ <;> (intro e;have e':(_:Nat)=_:=e;omega)
 ·have hq':s1.heap.objs.size≤q:=by
   rw[hn]
   simp only[List.mem_cons,List.not_mem_nil,or_false]at hq
   rcases hq with rfl | rfl | rfl | rfl | rfl <;> first | exact Nat.le_refl _ | exact Nat.le_add_right _ _
  exact I1.fpOk hq' (I1.hok.fresh hq')
end L2
namespace L2
open PySem PySem.Spec PyProof.Rows
section
variable {prog:Program} {w:World} {A:Around} {E:Value→Shared→Prop} {s:Shared}
theorem drawsK{k:Bool}(hh:A.handled=none){it a:Addr}(hne:a≠it)(its:Array Value) :
  Draws prog w A it [it,a] its.size (fun i x=>its[i]?=some x) (fun i h=>IterK k h it a i∧HasK k h a its) where
 live:=fun i h st=>by obtain⟨o,e,_⟩:=st.1.get;exact⟨o,e⟩
 frame:=fun i h h' st hk=>⟨st.1.at fun o e=>hk it (by simp) o e,st.2.at fun o e=>hk a (by simp) o e⟩
 item:=fun i s Q E hi st hQ=>by
  have hx:its[i]?=some its[i]:=Array.getElem?_eq_getElem hi
  exact z3c st.1 st.2 hx fun h' q1 q2=>hQ _ h' s.toks hx ⟨q1,st.2.at fun o e=>q2.extBut _ _ hne e⟩ q2
 done:=fun s Q E st hE=>z3Q hh st.1 st.2 (by simp) hE
theorem drawsEnd{k:Bool}(hh:A.handled=none){it a:Addr}(its:Array Value){i:Nat}(hi:its[i]?=none) :
  Draws prog w A it [it,a] i (fun _ _=>True) (fun j h=>j=i∧IterK k h it a i∧HasK k h a its) where
 live:=fun _ h st=>by obtain⟨o,e,_⟩:=st.2.1.get;exact⟨o,e⟩
 frame:=fun _ h h' st hk=>⟨st.1,st.2.1.at fun o e=>hk it (by simp) o e,st.2.2.at fun o e=>hk a (by simp) o e⟩
 item:=fun j s Q E hj st _=>absurd hj (by rw[st.1];exact Nat.lt_irrefl i)
 done:=fun s Q E st hE=>z3Q hh st.2.1 st.2.2 hi hE
abbrev eG1(h:Heap)(k:Bool)(a:Addr):Heap:=h.push (iterObj k a)
abbrev eG2(h:Heap)(k:Bool)(a:Addr):Heap:=(eG1 h k a).push {cls:=.type "enumerate",data:=.fields #[.none,.bool false,.ref h.objs.size,rawInt 0,.none,.none]}
theorem z7C(k:Bool)(a:Addr)(xs:Array Value):Meets (Builtin.«enumerate.__new__» ⟨[.type "enumerate",.ref a],[]⟩) (fun _ R s=>HasK k s.heap a xs∧R (.ok (.ret (.ref (eG1 s.heap k a).objs.size))) {s with heap:=eG2 s.heap k a}) :=
 .of_wp fun prog w A R s h=>by
  obtain⟨hp,g,d,tk,os⟩:=s
  obtain⟨p1,h⟩:=h
  have hsub:=sub_enumerate
  have q1:HasK k (Shared.heap ⟨hp,g,d,tk,os⟩) a xs:=p1
  wp_walk using z2m q1
  all_goals first | exact⟨_,rfl,h⟩ | skip
  refine wpAny_stack_any fun st=>wpAny_pure ?_
  split
  ·rename_i c _ _ _ _ _
   cases (c == Value.type "enumerate")
   ·wp_walk using z2m q1
    exact⟨_,rfl,h⟩
   ·wp_walk using z2m q1
    exact⟨_,rfl,h⟩
  ·wp_walk using z2m q1
   exact⟨_,rfl,h⟩
theorem z8T{k:Bool}{a:Addr}{xs:Array Value}{Q:Value→Shared→Prop}(ha:HasK k s.heap a xs)
  (h:∀ h',IsEnum h' (s.heap.objs.size + 1) s.heap.objs.size 0 .none→IterK k h' s.heap.objs.size a 0→(∀ c o,s.heap.get? c=some o→h'.get? c=some o)→Q (.ref (s.heap.objs.size + 1)) {s with heap:=h'}) :
  wpAny (model prog w) A (call (.type "enumerate") [.ref a]) Q E s:=by
 refine callType_new F.called_enumerate (by decide) (F.typeCall_enumerate_1 _) (F.newCall_enumerate_1 _) (fun ob=>F.args_object_init_2 ob _) F.entry_enumerate_new (z7C k a xs) ⟨ha,?_⟩
 have n1:(eG1 s.heap k a).objs.size=s.heap.objs.size + 1:=Heap.size_push ..
 have up:∀ {g:Heap} {o:Obj} {c:Addr} {u:Obj},g.get? c=some u→(g.push o).get? c=some u:=fun e=>Heap.get?_push_of_some _ e
 have g2:(eG2 s.heap k a).get? (eG1 s.heap k a).objs.size=some _:=Heap.get?_push_size _ rfl
 have g1:(eG2 s.heap k a).get? s.heap.objs.size=some (iterObj k a):=up (Heap.get?_push_size _ (by cases k <;> rfl))
 show _∧_
 rw[n1]at g2 ⊢
 exact⟨⟨_,g2,rfl⟩,h _ g2 (z48 g1) fun c o e=>up (up e)⟩
end
def Itn(K:PySem.W.Frag)(k:Bool)(a:Addr):It :=
  ⟨fun i H=>∃ xs x,SqK k K H a xs∧xs[i]?=some x,
   fun i H v H'=>∃ p x,v=.ref p∧H p=none∧H'=upd H p (.tup [.int (i:Int),x])∧∀ xs,SqK k K H a xs→xs[i]?=some x,
   fun i H=>∃ xs,SqK k K H a xs∧xs.length≤i⟩
structure EnRec(h:Heap)(k:Bool)(e it a:Addr)(i:Nat):Prop where
 er:∃ old,IsEnum h e it i old
 ir:IterK k h it a i
theorem z9G{P:Program}{w:World}{K:PySem.W.Frag}{elts:List Expr}{c:Nat}{pos:Pos}{k:Bool}{e it a:Addr}(hei:e≠it)(fa:a≠e∧a≠it) :
  Turn P w K (.Tuple elts c pos) (Itn K k a) [e,it] e (fun i h=>EnRec h k e it a i) where
 mem:=by simp
 obj:=fun i h st q hq=>by
  obtain⟨⟨old,er⟩,ir⟩:=st
  simp only[List.mem_cons,List.not_mem_nil,or_false]at hq
  rcases hq with rfl | rfl
  ·exact⟨_,er,fun v z=>nomatch z⟩
  ·exact ir.get
 keep:=fun i h h' st kp=>by
  obtain⟨⟨old,er⟩,ir⟩:=st
  exact⟨⟨old,kp _ (by simp) _ er⟩,ir.at fun o z=>kp _ (by simp) o z⟩
 item:=by
  intro X hP hw hK hc i pins s σ H E I hf st hg
  subst hP hw hK
  obtain⟨xs,x,sa,hx⟩:=hg
  obtain⟨ia,ra,ha,za⟩:=I.hasK sa
  obtain⟨u,hu,ru⟩:=ra.get hx
  obtain⟨⟨old,er⟩,ir⟩:=st
  have hil:i < ia.toArray.size:=by rw[List.size_toArray];exact(List.getElem?_eq_some_iff.mp hu).1
  refine wpAny_pyNext_enum_itemD (drawsK (A:=X.A.in1) (k:=k) (show X.A.in1.handled=none from I.ok.hd hc) fa.2 ia.toArray) er ⟨ir,ha⟩ hil hei (by simp only[List.mem_cons,List.not_mem_nil,or_false,not_or];exact⟨hei,Ne.symm fa.1⟩) fun y h' tk hy eo st' ht sz kp=>?_
  have hyu:y=u:=by
   have:ia[i]?=some y:=by simpa using hy
   rw[hu]at this;exact(Option.some.inj this).symm
  subst hyu
  refine⟨_,rfl,wpAny_letOwnedTupleGo_enum eo fun h'' e'' sb''=>?_⟩
  have lt:∀ {c o},s.heap.get? c=some o→s.heap.objs.size≠c:=fun z=>Nat.ne_of_gt (Heap.lt_size z)
  have hz:s.heap.objs.size≠e:=lt er
  have kp2:∀ c o,c ∉ [e,it]→s.heap.get? c=some o→h''.get? c=some o:=fun c o hc z=>by
   simp only[List.mem_cons,List.not_mem_nil,or_false,not_or]at hc
   exact sb''.extBut _ _ hc.1 (kp c o hc.1 hc.2 z)
  have nH:H s.heap.objs.size=none:=I.hok.fresh (Nat.le_refl _)
  have frL:∀ q∈[e,it],H q=none:=fun q hq=>(hf q hq).1
  have neT:∀ q u,H q=some u→q≠s.heap.objs.size:=fun q u z=>zm z nH
  refine⟨.ref s.heap.objs.size,upd H s.heap.objs.size (.tup [.int (i:Int),x]),?_,rfl,⟨_,x,rfl,nH,rfl,fun xs' q=>by rw[I.sqK_inj q sa];exact hx⟩,?_,fun q hq=>?_⟩
  ·refine Inv.step (s:=s) (h':=h'') (g':=s.gens) (d':=s.drawn) (t':=tk + 1) (ch:=[e,it]) I (fun q hq=>?_) (fun q o _ _ hc z _=>kp2 q o hc z) (fun q o _ _ hc z _=>⟨o.slots,kp2 q o hc z⟩) (fun q o hc z n=>?_) (fun q o hc z=>⟨o,kp2 q o hc z⟩)
    (fun q xs z=>by rw[zj (neT q _ z)];exact z) (fun q o u z=>by rw[zj (neT q _ z)];exact z) (fun q ps z=>⟨#[],by rw[zj (neT q _ z),z];simp⟩) (fun m hm=>?_) (fun q o z=>?_) I.bare
   ·exact⟨(hf q hq).2.2.2.1,(hf q hq).2.1,(hf q hq).2.2.2.2.1,(hf q hq).2.2.2.2.2⟩
   ·rw[zj (fun zz=>lt z zz.symm)];exact n
   ·obtain⟨o,es,ep,ho,r⟩:=hm
    exact⟨o,es,ep,kp2 _ o (fun hq=>(hf _ hq).2.1 rfl) ho,r⟩
   ·have notin:∀ q u,H q=some u→q ∉ [e,it]:=fun q u z hq=>by rw[frL q hq]at z;cases z
    by_cases hq:q=s.heap.objs.size
    ·subst hq
     rw[zq]at z
     cases z
     exact⟨by show 2≤sizeLine;decide,[.int (i:Int) tk,y],.cons ⟨_,rfl⟩ (.cons ru .nil),⟨_,sb''.extBut _ _ hz ht,rfl,_,rfl⟩⟩
    ·rw[zj hq]at z
     refine(I.hok q o z).stay (fun c w' hc r=>kp2 c w' ?_ r) (fun c r=>by rw[zj (neT c _ r)];exact r) fun c xs r=>by rw[zj (neT c _ r)];exact r
     rcases hc with rfl | hc
     ·exact notin _ _ z
     ·exact notin _ _ hc
  ·exact⟨⟨_,by simpa using e''⟩,st'.1.at fun o z=>sb''.extBut _ o (Ne.symm hei) z⟩
  ·rw[zj]
   ·exact frL q hq
   ·simp only[List.mem_cons,List.not_mem_nil,or_false]at hq
    rcases hq with rfl | rfl
    ·exact fun zz=>lt er zz.symm
    ·obtain⟨o,z,_⟩:=ir.get;exact fun zz=>lt z zz.symm
 done:=by
  intro X hP hw hK hc i pins s σ H E I hf st hg
  subst hP hw hK
  obtain⟨xs,sa,hx⟩:=hg
  obtain⟨ia,ra,ha,za⟩:=I.hasK sa
  obtain⟨⟨old,er⟩,ir⟩:=st
  have la:=ra.length
  refine wpAny_pyNext_enum_endD (drawsEnd (A:=X.A.in1) (k:=k) (it:=it) (a:=a) (show X.A.in1.handled=none from I.ok.hd hc) ia.toArray (i:=i) (by simp;omega)) er ⟨rfl,ir,ha⟩ fun h' kp=>⟨rfl,?_⟩
  have kp2:∀ c o,c ∉ [e,it]→s.heap.get? c=some o→h'.get? c=some o:=fun c o hc z=>by
   simp only[List.mem_cons,List.not_mem_nil,or_false,not_or]at hc
   exact kp c o hc.2 z
  have notin:∀ q u,H q=some u→q ∉ [e,it]:=fun q u z hq=>by rw[(hf q hq).1]at z;cases z
  refine Inv.step (s:=s) (h':=h') (g':=s.gens) (d':=s.drawn) (t':=s.toks) (ch:=[e,it]) I (fun q hq=>?_) (fun q o _ _ hc z _=>kp2 q o hc z) (fun q o _ _ hc z _=>⟨o.slots,kp2 q o hc z⟩) (fun _ _ _ _ n=>n)
   (fun q o hq z=>⟨o,kp2 q o hq z⟩) (fun _ _ z=>z) (fun _ _ _ z=>z) (fun q ps z=>⟨#[],by rw[z];simp⟩) (fun m hm=>?_) (fun q o z=>?_) I.bare
  ·exact⟨(hf q hq).2.2.2.1,(hf q hq).2.1,(hf q hq).2.2.2.2.1,(hf q hq).2.2.2.2.2⟩
  ·obtain⟨o,es,ep,ho,r⟩:=hm
   exact⟨o,es,ep,kp2 _ o (fun hq=>(hf _ hq).2.1 rfl) ho,r⟩
  ·refine(I.hok q o z).stay (fun c w' hc r=>kp2 c w' ?_ r) (fun _ r=>r) fun _ _ r=>r
   rcases hc with rfl | hc
   ·exact notin _ _ z
   ·exact notin _ _ hc
 self:=fun _ _ _ _ _ st h=>by obtain⟨⟨old,er⟩,_⟩:=st;exact wpAny_pyIter_enum er h
def iEnum(K:PySem.W.Frag)(ta:TA):TI:=fun σ H R=>ta σ H fun vs H1=>∃ k a xs,vs=[.ref a]∧SqK k K H1 a xs∧R (Itn K k a) H1
theorem zcG{X:Cx}{elts:List Expr}{c:Nat}{tp:Pos}{a:Expr}{ta:TA}{p pos:Pos}(hg:Gl X "enumerate")(hm:X.mg "enumerate"=none)(ha:PA X [a] ta)(hs:starEach [a] X.env=[(false,eval a X.env)]:=by rfl) :
  PI X (.Tuple elts c tp) (.Call (.Name "enumerate" p) [a] [] pos) (iEnum X.K ta):=by
 intro pins s σ H R I h
 refine Call_ (z3N I hg hm (u:=.type "enumerate") (by first | rfl | decide +kernel) (PyProof.Rows.callWith_type1 (thn (ha pos pins s σ H _ I h) fun us s1 zhB=>?_) (by rw[hs];rfl) rfl))
 obtain⟨vs,H1,I1,r1,q1⟩:=zhB
 obtain⟨k,a,xs,e,sa,q⟩:=q1
 subst e
 obtain⟨u,rfl,ru⟩:=vals1 r1
 cases (show u=Value.ref a from ru)
 obtain⟨ia,ra,ha',za⟩:=I1.hasK sa
 refine z8T ha' fun h' En It kp=>?_
 refine wpAny_pyIter_enum En ?_
 have la:LT.lt (α:=Nat) a s1.heap.objs.size:=ha'.lt
 generalize hn:s1.heap.objs.size=n at *
 refine⟨n + 1,[n + 1,n],fun i h=>EnRec h k (n + 1) n a i,Itn X.K k a,H1,rfl,I1.kept (t':=s1.toks) kp,z9G ?_ ?_,⟨⟨_,En⟩,It⟩,fun q hq=>?_,q⟩
 ·intro e;have e':n + 1=n:=e;omega
 ·refine⟨?_,?_⟩ <;> (intro e;have e':(_:Nat)=_:=e;omega)
 ·have hq':s1.heap.objs.size≤q:=by
   simp only[List.mem_cons,List.not_mem_nil,or_false]at hq
   rw[hn]
   rcases hq with rfl | rfl <;> first | exact Nat.le_refl _ | exact Nat.le_succ _
  exact I1.fpOk hq' (I1.hok.fresh hq')
end L2
namespace L2
open PySem PySem.Spec PyProof.Rows
def revSm(a b c:Int):Bool:=Builtin.Range.rangeFitsLong a && Builtin.Range.rangeFitsLong b && Builtin.Range.rangeFitsLong c && Builtin.Range.rangeFitsLong (-c) && Builtin.Range.rangeFitsLong (a - c) && Builtin.Range.rangeFitsLong (Builtin.Range.rangeSize a b c)
theorem z5F(r:Addr)(a b c:Int)(t u v:Tok)(hs:¬(!(Builtin.Range.rangeFitsLong a && Builtin.Range.rangeFitsLong b && Builtin.Range.rangeFitsLong c && Builtin.Range.rangeFitsLong (-c) && Builtin.Range.rangeFitsLong (a - c) && Builtin.Range.rangeFitsLong (Builtin.Range.rangeSize a b c)))=true) :
  Meets (Builtin.«range.__reversed__» ⟨[.ref r],[]⟩) (fun _ R s=>IsRange s.heap r a b c t u v ∧
   R (.ok (.ret (.ref s.heap.objs.size))) {s with heap:=s.heap.push {cls:=.type (if (Builtin.Range.rangeFitsLong a && Builtin.Range.rangeFitsLong b && Builtin.Range.rangeFitsLong c && Builtin.Range.rangeFitsLong (-c) && Builtin.Range.rangeFitsLong (a - c) && Builtin.Range.rangeFitsLong (Builtin.Range.rangeSize a b c))=true then "range_iterator" else "longrange_iterator"),data:=.fields #[rawInt (a + (Builtin.Range.rangeSize a b c - 1) * c),rawInt (Builtin.Range.rangeSize a b c),rawInt (-c)]}}) :=
 .of_wp fun prog w A R s h=>by
  obtain⟨hp,g,d,tk,os⟩:=s
  obtain⟨hl,h⟩:=h
  wp_walk
  exact⟨_,rfl,h⟩
section
variable {prog:Program} {w:World} {A:Around} {E:Value→Shared→Prop} {s:Shared}
theorem z53:isSubtype (.type "range_iterator") (.type "reversed")=pure false:=by rw[isSubtype_type];kernel_rfl
theorem z9H{r:Addr}{a b:Int}{t u v:Tok}{Q:Value→Shared→Prop}(hr:IsRange s.heap r a b 1 t u v)(hs:revSm a b 1=true)
  (h:Q (.ref s.heap.objs.size) {s with heap:=s.heap.push {cls:=.type "range_iterator",data:=.fields #[rawInt (a + (Builtin.Range.rangeSize a b 1 - 1) * 1),rawInt (Builtin.Range.rangeSize a b 1),rawInt (-1)]}}):wpAny (model prog w) A (call (.builtin "range.__reversed__") [.ref r]) Q E s:=by
 have hT:s.TypeIs (.ref r) "range":=⟨_,hr,rfl⟩
 unfold revSm at hs
 refine call_meets F.slot_range_reversed hT F.entry_range_reversed (F.args_range_reversed_1 _) (z5F r a b 1 t u v (by rw[hs];decide)) ⟨hr,?_⟩
 simp only[hs,if_true]
 exact h
theorem z3A{r:Addr}{a b:Int}{t u v:Tok}{Q:Value→Shared→Prop}(hr:IsRange s.heap r a b 1 t u v)(hs:revSm a b 1=true)
  (h:Q (.ref s.heap.objs.size) {s with heap:=s.heap.push {cls:=.type "range_iterator",data:=.fields #[rawInt (a + (Builtin.Range.rangeSize a b 1 - 1) * 1),rawInt (Builtin.Range.rangeSize a b 1),rawInt (-1)]}}):wpAny (model prog w) A (call (.type "reversed") [.ref r]) Q E s:=by
 have hT:s.TypeIs (.ref r) "range":=⟨_,hr,rfl⟩
 refine callType_other (U:="range_iterator") (Q₁:=fun ob s1=>ob=.ref s.heap.objs.size∧s1={s with heap:=s.heap.push {cls:=.type "range_iterator",data:=.fields #[rawInt (a + (Builtin.Range.rangeSize a b 1 - 1) * 1),rawInt (Builtin.Range.rangeSize a b 1),rawInt (-1)]}}) (by decide +kernel) F.create_reversed ⟨_,_,F.mro_reversed⟩ F.made_reversed z53 (F.typeCall_reversed_1 _) ?_ ?_
 ·refine codeAny_of_tree (show wpAny _ A.in1.in1 (do checkBuiltinCall "reversed.__new__" ⟨[.type "reversed",.ref r],[]⟩;again (.builtin "reversed.__new__" ⟨[.type "reversed",.ref r],[]⟩)) _ _ s from ?_)
  refine wpAny_bind (wpAny_of_eq (F.newCall_reversed_1 _) (wpAny_pure ⟨plainId_quiet F.plain_reversed_new _,codeAny_builtin F.entry_reversed_new ?_⟩));rw[Around.under_plainId F.plain_reversed_new _]
  unfold Builtin.«reversed.__new__»;refine wpAny_bind (wpAny_of_eq (newClass_reversed _) ?_)
  refine wpAny_bind (wpAny_of_eq (a:=()) (by first | rfl | kernel_rfl) ?_);refine wpAny_bind (wpAny_of_eq (a:=()) (by first | rfl | kernel_rfl) ?_)
  refine wpAny_bind (wpAny_specialOf hT F.slot_range_reversed.lookup ?_);refine wpAny_bind (wpAny_of_eq (F.slot_range_reversed.bind _) ?_)
  show wpAny _ _ (if (Value.builtin "range.__reversed__" == Value.none)=true then _ else _) _ _ _;rw[if_neg (show ¬ ((Value.builtin "range.__reversed__" == Value.none)=true) from Bool.false_ne_true)]
  refine wpAny_bind (wpAny_rule (wpAny_bind (m:=runValue (.call (.builtin "range.__reversed__") ⟨[.ref r],[]⟩)) (show wpAny _ _ (call (.builtin "range.__reversed__") [.ref r]) _ _ _ from z9H hr hs ?_)))
  first | exact wpAny_pure ⟨rfl,rfl⟩ | exact wpAny_bind (wpAny_pure (wpAny_pure ⟨rfl,rfl⟩))
 ·rintro ob s1 ⟨rfl,rfl⟩
  exact⟨⟨_,Heap.get?_push_size _ rfl,rfl⟩,h⟩
end
def Itd(lo:Int)(n:Nat):It:=⟨fun i _=>i < n,fun i H x H'=>H'=H∧x=.int (lo + (n:Int) - 1 - i),fun i _=>n≤i⟩
theorem z9I{P:Program}{w:World}{K:PySem.W.Frag}{tg:Expr}(it:Addr)(lo:Int)(n:Nat):Turn P w K tg (Itd lo n) [it] it (fun i h=>IsRangeIter h it (lo + (n:Int) - 1 + (i:Nat) * (-1)) ((n:Int) - (i:Nat)) (-1)) where
 mem:=by simp
 obj:=fun i h st b hb=>by
  have e:b=it:=by simpa using hb
  subst e
  exact⟨_,st,fun v z=>nomatch (show Data.fields _=Data.cell v from z)⟩
 keep:=fun i h h' st k=>k it (by simp) _ st
 item:=by
  intro X hP hw hK hc i pins s σ H E I hf st hg
  subst hP hw hK
  obtain⟨f0,f1,f2,f3,f4,f5⟩:=hf it (by simp)
  have hlt:i < n:=hg
  refine wpAny_pyNext_range_item st (by omega) fun h' st' sb=>?_
  have I1:Inv X pins σ H {s with heap:=h',toks:=s.toks + 1}:=I.turned (fun b o hb e=>(sb.2 b hb).trans e) f0 f1 f3 f4 f5
  have e1:lo + (n:Int) - 1 + (i:Nat) * (-1) + (-1)=lo + (n:Int) - 1 + ((i + 1:Nat):Int) * (-1):=by omega
  have e2:(n:Int) - (i:Nat) - 1=(n:Int) - ((i + 1:Nat):Int):=by omega
  rw[e1,e2]at st'
  refine⟨_,rfl,zaQ (s:={s with heap:=h',toks:=s.toks + 1}) (n:="range_iterator") st' rfl rfl (by decide) ⟨.int (lo + (n:Int) - 1 - i),H,I1,⟨s.toks,?_⟩,⟨rfl,rfl⟩,st',fun b hb=>(hf b hb).1⟩⟩
  rw[show lo + (n:Int) - 1 + (i:Nat) * (-1)=lo + (n:Int) - 1 - (i:Int) by omega]
 done:=by
  intro X hP hw hK hc i pins s σ H E I hf st hg
  subst hP hw hK
  obtain⟨f0,f1,f2,f3,f4,f5⟩:=hf it (by simp)
  exact wpAny_pyNext_range_end (I.ok.hd hc) st (by have:n≤i:=hg;omega) fun h' eb=>⟨rfl,I.turned (t':=s.toks) (fun b o hb e=>eb b o hb e) f0 f1 f3 f4 f5⟩
 self:=fun _ _ _ _ _ st h=>wpAny_pyIter_rangeiter st h
def iRevR(ta:TA):TI:=fun σ H R=>ta σ H fun vs H1=>∃ j:Int,vs=[.int j]∧-(2 ^ 62)≤j∧j < 2 ^ 62∧R (Itd 0 j.toNat) H1
theorem zcH{X:Cx}{tg a:Expr}{ta:TA}{p pos p2 pos2:Pos}(hg:Gl X "reversed")(hm:X.mg "reversed"=none)(hg2:Gl X "range")(hm2:X.mg "range"=none)(ha:PA X [a] ta)(hs2:starEach [a] X.env=[(false,eval a X.env)]:=by rfl)
  (hs:starEach [.Call (.Name "range" p2) [a] [] pos2] X.env=(false,eval (.Call (.Name "range" p2) [a] [] pos2) X.env)::starEach [] X.env:=by rfl):PI X tg (.Call (.Name "reversed" p) [.Call (.Name "range" p2) [a] [] pos2] [] pos) (iRevR ta):=by
 intro pins s σ H R I h
 refine Call_ (z3N I hg hm (u:=.type "reversed") (by first | rfl | decide +kernel) (PyProof.Rows.callWith_type1 ?_ hs rfl))
 rw[hs]
 refine Calls.spliced_cons (s:=s) ?_
 refine Call_ (z3N I hg2 hm2 boot_range (PyProof.Rows.callWith_type1 (thn (ha pos2 pins s σ H _ I h) fun us s1 zhC=>?_) hs2 rfl))
 obtain⟨vs,H1,I1,r1,q1⟩:=zhC
 obtain⟨j,e,q1,q2,q⟩:=q1
 subst e
 obtain⟨u,rfl,ru⟩:=vals1 r1
 obtain⟨t,rfl⟩:=ru
 refine call_range_1 (Calls.spliced_nil ?_)
 generalize hR:({cls:=.type "range",data:=.fields #[.int 0 s1.toks,.int j t,.int 1 (s1.toks + 1)]}:Obj)=ro
 have I2:Inv X pins σ H1 {s1 with heap:=s1.heap.push ro,toks:=s1.toks + 1 + 1}:=I1.kept fun b o e=>Heap.get?_push_of_some _ e
 have hr:IsRange (s1.heap.push ro) s1.heap.objs.size 0 j 1 s1.toks t (s1.toks + 1):=by rw[← hR];exact Heap.get?_push_size _ rfl
 have hn:Builtin.Range.rangeSize 0 j 1=(j.toNat:Int):=by rw[rangeSize_one];split <;> omega
 have hsm:revSm 0 j 1=true:=by
  unfold revSm
  rw[hn]
  simp only[Builtin.Range.rangeFitsLong,Bool.and_eq_true,decide_eq_true_eq]
  omega
 refine z3A (s:={s1 with heap:=s1.heap.push ro,toks:=s1.toks + 1 + 1}) hr hsm ?_
 have hst:IsRangeIter ((s1.heap.push ro).push {cls:=.type "range_iterator",data:=.fields #[rawInt (0 + (Builtin.Range.rangeSize 0 j 1 - 1) * 1),rawInt (Builtin.Range.rangeSize 0 j 1),rawInt (-1)]}) (s1.heap.push ro).objs.size (0 + (j.toNat:Int) - 1 + ((0:Nat):Int) * (-1)) ((j.toNat:Int) - ((0:Nat):Int)) (-1):=by
  have e1:(0:Int) + (j.toNat:Int) - 1 + ((0:Nat):Int) * (-1)=0 + (Builtin.Range.rangeSize 0 j 1 - 1) * 1:=by rw[hn];omega
  have e2:(j.toNat:Int) - ((0:Nat):Int)=Builtin.Range.rangeSize 0 j 1:=by rw[hn];omega
  rw[e1,e2]
  exact Heap.get?_push_size _ rfl
 refine wpAny_pyIter_rangeiter (s:={s1 with heap:=(s1.heap.push ro).push {cls:=.type "range_iterator",data:=.fields #[rawInt (0 + (Builtin.Range.rangeSize 0 j 1 - 1) * 1),rawInt (Builtin.Range.rangeSize 0 j 1),rawInt (-1)]},toks:=s1.toks + 1 + 1}) hst ?_
 exact⟨(s1.heap.push ro).objs.size,[(s1.heap.push ro).objs.size],_,Itd 0 j.toNat,H1,rfl,I2.kept (t':=s1.toks + 1 + 1) fun b o e=>Heap.get?_push_of_some _ e,z9I _ 0 j.toNat,hst,fun b hb=>by
  have e:b=(s1.heap.push ro).objs.size:=by simpa using hb
  rw[e]
  exact I2.fpOk (Nat.le_refl _) (I2.hok.fresh (Nat.le_refl _)),q⟩
end L2
namespace L2
open PySem PySem.Spec PyProof.Rows
section
variable {prog:Program} {w:World} {A:Around} {E:Value→Shared→Prop} {s:Shared}
theorem z6T{it t:Addr}{items:Array Value}(hne:t≠it):∀ (n i:Nat) (s:Shared) (Q:List Value→Shared→Prop),s.heap.IsListIter it t i→s.heap.IsList t items→i + n≤items.size →
  (∀ h',h'.IsListIter it t (i + n)→Heap.SameBut it s.heap h'→Q ((items.toList.drop i).take n) {s with heap:=h'})→wpAny (model prog w) A (draw (.ref it) n) Q E s
 | 0,i,s,Q,hit,_,_,hQ=>by
  show wpAny _ _ (pure []) Q E s
  exact wpAny_pure (by simpa using hQ s.heap hit (Heap.SameBut.refl ..))
 | n + 1,i,s,Q,hit,ht,hle,hQ=>by
  have hlt:i < items.size:=by omega
  show wpAny _ _ (pyNext (.ref it) >>= _) Q E s
  refine wpAny_bind (wpAny_pyNext_list_item hit ht (x:=items[i]) (by simp[hlt]) fun h₁ hit₁ hs₁=>?_)
  refine wpAny_bind (wpAny_holding (z6T hne n (i + 1) _ _ hit₁ (ht.extBut hs₁.extBut hne) (by omega) fun h₂ hit₂ hs₂=>wpAny_pure ?_))
  have hd:items.toList.drop i=items[i]::items.toList.drop (i + 1):=by simp[List.drop_eq_getElem_cons,hlt]
  have:=hQ h₂ (by rw[show i + (n + 1)=i + 1 + n by omega];exact hit₂) (hs₁.trans hs₂)
  rw[hd,List.take_succ_cons]at this
  exact this
theorem z4w{t:Addr}{items:Array Value}{Q:List Value→Shared→Prop}(hh:A.handled=none)(ht:s.heap.IsList t items)
  (hQ:∀ h',Heap.ExtBut s.heap.objs.size s.heap h'→Q items.toList {s with heap:=h'}):wpAny (model prog w) A (unpackItems (.ref t) items.size none) Q E s:=by
 have hlt:t≠s.heap.objs.size:=by obtain⟨o,ho,_⟩:=ht;exact Nat.ne_of_lt (Heap.lt_size ho)
 unfold unpackItems
 refine wpAny_bind ?_
 ·unfold notIterableAtAll
  refine wpAny_bind (wpAny_specialOf ht.typeIs F.slot_list_iter.lookup ?_)
  refine wpAny_pure ?_
  simp only[Bool.false_eq_true,if_false]
  refine wpAny_bind (wpAny_holding (wpAny_pyIter_list ht ?_))
  refine wpAny_bind (wpAny_holding (z6T hlt items.size 0 _ _ ⟨_,Heap.get?_push_size _ rfl,rfl,rfl⟩ (ht.push _) (by omega) fun h₁ hit₁ hs₁=>?_))
  have hall:List.take items.size (List.drop 0 items.toList)=items.toList:=by
   rw[List.drop_zero];exact List.take_of_length_le (by simp)
  rw[hall]
  rw[if_neg (by simp)]
  have ht₁:h₁.IsList t items:=(ht.push _).extBut hs₁.extBut hlt
  refine wpAny_bind (wpAny_holding (wpAny_pyNext_list_end hh hit₁ ht₁ (by simp) fun h₂ he₂=>?_))
  simp only[Option.isSome_none,Bool.false_eq_true,if_false]
  refine wpAny_pure (hQ h₂ fun b o hb e=>he₂ b o hb (hs₁.extBut b o hb (Heap.get?_push_of_some _ e)))
theorem z49{env:Env}{elts:List Expr}{x1:Nat}{pos:Pos}{t:Addr}{items:Array Value}{Q:Unit→Shared→Prop}(hh:A.handled=none)(ht:s.heap.IsList t items)
  (hn:(assignEach elts env).length=items.size) (hstar:(assignEach elts env).findIdx? (·.1)=none)
  (h:∀ h',Heap.ExtBut s.heap.objs.size s.heap h'→wpAny (model prog w) A (assignInOrder ((assignEach elts env).map (·.2)) items.toList) Q E {s with heap:=h'}) :
  wpAny (model prog w) A (assign (.Tuple elts x1 pos) env (.ref t)) Q E s:=by
 rw[assign_Tuple]
 refine wpAny_bind (wpAny_standAt ?_)
 unfold unpack
 rw[hn,hstar]
 exact wpAny_bind (wpAny_holding (z4w hh ht h))
end
section
variable {X:Cx} {pos:Pos}
def gSeqT(K:PySem.W.Frag)(n:Nat)(t:TGs):TG:=fun v σ H Q=>∃ a xs,v=.ref a∧(SqT K H a xs∨SqL K H a xs)∧xs.length=n∧t xs σ H Q
theorem zcI{es:List Expr}{k:Nat}{t:TGs}{n:Nat}(hc:X.calm=true)(h:PGs X es t)
  (hn:(assignEach es X.env).length=n:=by rfl) (hst:(assignEach es X.env).findIdx? (·.1)=none:=by rfl):PG X (.Tuple es k pos) (gSeqT X.K n t):=by
 intro pins s σ H v u Q I r hw
 obtain⟨a,xs,e1,hq,hl,hw⟩:=hw
 rcases hq with hq | hq
 ·exact zbQ hc h hn hst pins s σ H v u Q I r ⟨a,xs,e1,hq,hl,hw⟩
 ·subst e1
  cases r
  obtain⟨its,rv,pl,hz⟩:=I.list hq
  refine z49 (I.ok.hd hc) pl.isList (by simp[hn,← hl,rv.length]) hst fun h' hx=>?_
  have I1:Inv X pins σ H {s with heap:=h'}:=I.kept (t':=s.toks) fun b o e=>hx b o (Nat.ne_of_lt (Heap.lt_size e)) e
  exact h pins _ σ H xs _ Q I1 (by simpa using rv) hw
def tPar3(i j k:Nat)(ta:TA):TS:=fun D σ H=>ta σ H fun vs H1=>∃ v w z,vs=[v,w,z]∧D.nx (((σ.set i (some v)).set j (some w)).set k (some z)) H1
theorem zcJ{i j k:Nat}{x y z:Str}{a b c:Expr}{ta:TA}{px py pz pt:Pos}{kt k2 pt2}(hc:X.calm=true)(hN:X.N.Nodup)(hi:X.N[i]?=some x)(hj:X.N[j]?=some y)(hk:X.N[k]?=some z)(hij:i≠j)(hik:i≠k)(hjk:j≠k)
  (hx:X.env.scope.names.lookup x=some .local) (hy:X.env.scope.names.lookup y=some .local) (hz:X.env.scope.names.lookup z=some .local) (ha:PA X [a,b,c] ta)
  (hw:swappedStores [.Tuple [.Name x px,.Name y py,.Name z pz] kt pt] (.Tuple [a,b,c] k2 pt2) X.env=pure (some [x,y,z]))
  (hs:swapsWithSole [.Tuple [.Name x px,.Name y py,.Name z pz] kt pt] (.Tuple [a,b,c] k2 pt2) pos.line X.env=pure false:=by rfl) :
  PS X (.Assign [.Tuple [.Name x px,.Name y py,.Name z pz] kt pt] (.Tuple [a,b,c] k2 pt2) pos) (tPar3 i j k ta):=by
 intro pins s σ H D I h
 rw[exec_Assign_arm]
 refine wpAny_bind (wpAny_standAt ?_)
 rw[hs]
 refine wpAny_bind (wpAny_pure ?_)
 rw[if_neg (by decide)]
 refine wpAny_bind (Tuple_ (thn (ha _ pins s σ H _ I h) fun us s1 h1=>?_))
 obtain⟨vs,H1,I1,r1,q1⟩:=h1
 obtain⟨v,w,t,e1,q1⟩:=q1
 subst e1
 obtain⟨u1,u2,u3,rfl,rv,rw',rt⟩:∃ u1 u2 u3,us=[u1,u2,u3]∧RelV v u1∧RelV w u2∧RelV t u3:=by
  cases r1 with
  | cons p q =>
   cases q with
   | cons p' q' =>
    cases q' with
    | cons p'' q'' =>
     cases q''
     exact⟨_,_,_,rfl,p,p',p''⟩
 refine wpAny_newObj_type ?_ (by show 3≤sizeLine;decide)
 have I2:Inv X pins σ H1 {s1 with heap:=s1.heap.push {cls:=.type "tuple",data:=.seq [u1,u2,u3].toArray}}:=I1.kept (t':=s1.toks) fun b o e=>Heap.get?_push_of_some _ e
 rw[hw]
 refine wpAny_bind (wpAny_pure ?_)
 show wpAny (model X.prog X.w) X.A (do rule "assign.swapped-stores";let items ← unpackItems (.ref s1.heap.objs.size) 3 none;assignInOrder [fun v=>bindName X.env z v,fun v=>bindName X.env y v,fun v=>bindName X.env x v] items.reverse;pure Flow.next) _ _ _
 refine wpAny_bind (wpAny_rule (wpAny_bind (unpackItems_tuple (items:=#[u1,u2,u3]) (I.ok.hd hc) (IsTup.new s1.heap _) fun h' hx'=>?_)))
 have I3:=I2.kept (h':=h') (t':=s1.toks) fun b o e=>hx' b o (Nat.ne_of_lt (Heap.lt_size e)) e
 show wpAny _ _ (assignInOrder [fun v=>bindName X.env z v,fun v=>bindName X.env y v,fun v=>bindName X.env x v] [u3,u2,u1] >>= fun _=>pure Flow.next) _ _ _
 refine wpAny_bind (assignInOrder_cons (wpAny_bindName (z1J I3 hN hk (.inl hz) rt (fun s2 I4=>?_) (.inr hz))))
 refine assignInOrder_cons (wpAny_bindName (z1J I4 hN hj (.inl hy) rw' (fun s2 I5=>?_) (.inr hy)))
 refine assignInOrder_cons (wpAny_bindName (z1J I5 hN hi (.inl hx) rv (fun s3 I6=>assignInOrder_nil (wpAny_pure ?_)) (.inr hx)))
 rw[List.set_comm _ _ (Ne.symm hij),List.set_comm _ _ (Ne.symm hik),List.set_comm _ _ (Ne.symm hjk)]at I6
 exact⟨_,H1,I6,q1⟩
end
end L2
namespace L2
open PySem PySem.Spec PyProof.Rows
section
variable {prog:Program} {w:World} {A:Around} {E:Value→Shared→Prop} {s:Shared}
end
end L2
namespace L2
open PySem PySem.Spec PyProof.Rows
structure ZipRec2(h:Heap)(k1 k2:Bool)(z TI TO i1 i2 a b:Addr)(n:Nat)(B:Addr):Prop where
 zr:∃ f1:Bool,h.get? z=some {cls:=.type "zip",data:=.fields #[rawInt B,.bool f1,.bool false,.ref TI,.ref TO]}
 pi:IsPair h TI (.ref i1) (.ref i2)
 it1:IterK k1 h i1 a n
 it2:IterK k2 h i2 b n
 bl:∃ o,h.get? B=some o
section
variable {prog:Program} {w:World} {A:Around} {E:Value→Shared→Prop} {s:Shared} {k1 k2:Bool} {z TI TO i1 i2 a b B:Addr} {n:Nat} {xs ys:Array Value}
end
structure ZipAcc(h0 h:Heap)(k1 k2:Bool)(z TI TO i1 i2 a b S N:Addr)(xs ys:Array Value)(i:Nat):Prop where
 sz:h.objs.size=N + i
 zr:(i=0∧ZipRec h k1 k2 z TI TO i1 i2 a b 0 .none)∨(0 < i∧ZipRec2 h k1 k2 z TI TO i1 i2 a b i N)
 ha:HasK k1 h a xs
 hb:HasK k2 h b ys
 ps:∀ j,j < i→∃ x y,xs[j]?=some x∧ys[j]?=some y∧IsPair h (N + j) x y
 ls:∃ c,h.get? S=some {cls:=.type "list",data:=.seq ((List.range i).map fun j=>Value.ref (N + j)).toArray c}
 kp:∀ c o,c≠z→c≠TO→c≠i1→c≠i2→c≠S→h0.get? c=some o→h.get? c=some o
section
variable {prog:Program} {w:World} {A:Around} {R:Result→Shared→Prop} {k1 k2:Bool} {z TI TO i1 i2 a b S N:Addr} {xs ys:Array Value} {h0:Heap}
end
def laid(H:Hp)(N:Addr):List (V × V)→Hp
 | []=>H
 | p::r=>laid (upd H N (.tup [p.1,p.2])) (N + 1) r
section
variable {X:Cx} {pins:List (Addr × Obj)} {σ:St} {s:Shared}
end
end L2
namespace L2
open PySem PySem.Spec PyProof.Rows
theorem ObjOk.there{P:Program}{w:World}{H:Hp}{h:Heap}{a:Addr}{o:HO}(x:ObjOk P w H h a o):∃ u,h.get? a=some u:=by
 cases o with
 | lst xs=>obtain⟨_,_,_,_,e⟩:=x;exact⟨_,e⟩
 | tup xs=>obtain⟨_,_,_,ob,e,_⟩:=x;exact⟨_,e⟩
 | dK kvs=>obtain⟨_,_,_,_,o,_,_,e,_⟩:=x;exact⟨_,e⟩
 | dT kvs=>obtain⟨_,_,_,_,o,_,_,e,_⟩:=x;exact⟨_,e⟩
 | set S n=>obtain⟨o,_,_,_,e,_⟩:=x;exact⟨_,e⟩
 | ins C dx fs=>obtain⟨_,_,_,e,_⟩:=x;exact⟨_,e⟩
 | own y=>obtain⟨_,e⟩:=x;exact⟨_,e⟩
 | xd fs=>obtain⟨_,⟨_,_,_,e,_⟩,_⟩:=x;exact⟨_,e⟩
 | rng lo hi=>obtain⟨_,_,_,e⟩:=x;exact⟨_,e⟩
 | frz ob u=>obtain⟨e,_⟩:=x;exact⟨_,e⟩
 | tbl ps=>exact⟨_,show h.get? a=some _ from x⟩
 | met f y=>exact⟨_,show h.get? a=some _ from x⟩
 | ext φ=>obtain⟨_,⟨_,e⟩,_⟩:=x;exact⟨_,e⟩
section
variable {M:Model} {A:Around} {E:Value→Shared→Prop} {s:Shared} {base:Heap} {env:Env} {outer:List Env} {L e:Addr} {oe:Obj} {vs:Array Value} {Q:Unit→Shared→Prop}
structure Entry(h h':Heap)(l:List Env)(e T:Addr)(oe:Obj)(fl:Value):Prop where
 keep:∀ b o,b≠e→b ∉ frs l→h.get? b=some o→h'.get? b=some o
 slot:∀ b o,b∈frs l→h.get? b=some o→∃ sl,h'.get? b=some {o with slots:=sl}
 new:h.get? T=none
 ne:T≠e
 exc:h'.get? e=some (Obj.mapFields (·.setIfInBounds 1 (.ref T)) oe)
 tb:∃ oT ts,h'.get? T=some oT∧oT.data=.fields ts∧ts[3]?=some fl
theorem z54{head:Value}{hadNext:Bool}(hfr:A.frames=some (env::outer))(hl:s.heap.FunFrames base (env::outer))(hf:env.frame=some L)(he:s.heap.get? e=some oe)(hd:oe.data=.fields vs)(hsz:1 < vs.size)
  (h:∀ h' T,Entry s.heap h' (env::outer) e T oe (rawInt L)→Q () {s with heap:=h'}) :
  wpAny M A (do let a ← frameOf env;let pl ← entryPlaceOf L hadNext;let b ← EntryCells.newEntry head a .none (rawInt L) .none pl;setField (.ref e) 1 b) Q E s:=by
 have hene:e ∉ (env::outer).filterMap (·.frame):=fun hm=>by
  obtain⟨_,o,ho,hnf⟩:=hl.mem hm
  rw[he]at ho;cases ho;exact hnf vs hd
 refine wpAny_bind (wpAny_frameOf_fun hfr hl hf fun h₁ hs₁=>wpAny_bind (wpAny_entryPlaceOf fun pl hpl=>?_))
 unfold EntryCells.newEntry newFields
 refine wpAny_bind (wpAny_newObj_type ?_ (hpl.sizeOk5 _ _ _ _ _))
 have he₁:h₁.get? e=some oe:=(hs₁.2.1 e hene).trans he
 have he₂:=Heap.get?_push_of_some (h:=h₁) {cls:=.type "traceback",dict:=none,data:=.fields ([head,.ref L,.none,rawInt L,.none]++(if pl.isEmpty then List.replicate 6 Value.none else pl)).toArray} he₁
 refine wpAny_setField he₂ hd hsz (h _ h₁.objs.size ?_)
 have hTe:h₁.objs.size≠e:=Nat.ne_of_gt (Heap.lt_size he₁)
 have hd₃:=Obj.data_mapFields hd (·.setIfInBounds 1 (Value.ref h₁.objs.size))
 have he₃:=Heap.get?_update_self (Obj.mapFields (·.setIfInBounds 1 (Value.ref h₁.objs.size))) he₂ (Obj.isFreed_of_fields hd₃)
 have hT₃:=(Heap.get?_update_other (h₁.push {cls:=.type "traceback",dict:=none,data:=.fields ([head,.ref L,.none,rawInt L,.none]++(if pl.isEmpty then List.replicate 6 Value.none else pl)).toArray})
  (Obj.mapFields (·.setIfInBounds 1 (Value.ref h₁.objs.size))) (Ne.symm hTe)).trans (Heap.get?_push_size h₁ rfl)
 have kp:∀ b o,b≠e→h₁.get? b=some o→((h₁.push {cls:=.type "traceback",dict:=none,data:=.fields ([head,.ref L,.none,rawInt L,.none]++(if pl.isEmpty then List.replicate 6 Value.none else pl)).toArray}).update e (Obj.mapFields (·.setIfInBounds 1 (Value.ref h₁.objs.size)))).get? b=some o:=fun b o hbe hb=>by
  rw[Heap.get?_update_other _ _ (Ne.symm hbe)]
  exact Heap.get?_push_of_some _ hb
 refine⟨fun b o hbe hbf q=>kp b o hbe ((hs₁.2.1 b hbf).trans q),fun b o hbf q=>?_,?_,hTe,he₃,⟨_,_,hT₃,rfl,by simp⟩⟩
 ·obtain⟨sl,q1⟩:=hs₁.2.2 b o q
  exact⟨sl,kp b _ (fun z=>hene (z ▸ hbf)) q1⟩
 ·cases q:s.heap.get? h₁.objs.size with
  | none=>rfl
  | some o =>
   obtain⟨sl,q1⟩:=hs₁.2.2 _ o q
   exact absurd (Heap.lt_size q1) (Nat.lt_irrefl _)
theorem z8U(hfr:A.frames=some (env::outer))(hl:s.heap.FunFrames base (env::outer))(hf:env.frame=some L)(he:s.heap.get? e=some oe)(hd:oe.data=.fields vs)(h1:vs[1]?=some .none)
  (h:∀ h' T,Entry s.heap h' (env::outer) e T oe (rawInt L)→Q () {s with heap:=h'}):wpAny M A (noteFrame (.ref e) env) Q E s:=by
 unfold noteFrame
 simp only[hf]
 refine wpAny_bind (wpAny_field he hd h1 ?_)
 rw[if_neg (by decide)]
 exact z54 hfr hl hf he hd (Array.getElem?_eq_some_iff.mp h1).1 h
end
inductive TrT(h:Heap)(a T:Addr)(cls:Value):Prop
 | mk (oe:Obj) (vs:Array Value) (oT:Obj) (ts:Array Value) (h0:h.get? a=some oe) (h1:oe.cls=cls) (h2:oe.dict=none) (h3:oe.data=.fields vs) (h4:vs[1]?=some (.ref T)) (h5:T≠a) (h6:h.get? T=some oT) (h7:oT.data=.fields ts) (h8:ts[3]?=some .none)
theorem map_dict{f:Array Value→Array Value}{o:Obj}:(Obj.mapFields f o).dict=o.dict:=by
 obtain⟨c,d,da,sl⟩:=o
 cases da <;> rfl
structure Mark(h h':Heap)(l:List Env)(e T0 T:Addr)(cls:Value):Prop where
 keep:∀ b o,b≠e→b≠T0→b ∉ frs l→h.get? b=some o→h'.get? b=some o
 slot:∀ b o,b∈frs l→h.get? b=some o→∃ sl,h'.get? b=some {o with slots:=sl}
 new:h.get? T=none
 tr:TrT h' e T cls
section
variable {M:Model} {A:Around} {E:Value→Shared→Prop} {s:Shared} {base:Heap} {env:Env} {outer:List Env} {L e T0:Addr} {oe:Obj} {vs:Array Value} {cls:Value} {Q:Unit→Shared→Prop}
theorem z55{h2:Heap}{T:Addr}{g:Heap}(hen:e ∉ frs (env::outer))(en:Entry g h2 (env::outer) e T oe (rawInt L))(hT0:∀ b o,b≠T0→s.heap.get? b=some o→g.get? b=some o)(hfT:T0 ∉ frs (env::outer))(hnT:s.heap.get? T=none)(hc:oe.cls=cls)(hdi:oe.dict=none)(hd:oe.data=.fields vs)(hsz:1 < vs.size)
  (h:∀ h3,Mark s.heap h3 (env::outer) e T0 T cls→Q () {s with heap:=h3}):wpAny M A (setFlight (.ref e) none) Q E {s with heap:=h2}:=by
 obtain⟨oT,ts,q1,q2,q3⟩:=en.tb
 have hd3:=Obj.data_mapFields hd (·.setIfInBounds 1 (Value.ref T))
 have h1':(vs.setIfInBounds 1 (Value.ref T))[1]?=some (Value.ref T):=by simp[hsz]
 have sz:3 < ts.size:=(Array.getElem?_eq_some_iff.mp q3).1
 refine wpAny_setFlight_none en.exc hd3 h1' q1 q2 sz (h _ ⟨fun b o n1 n2 n3 q=>?_,fun b o n1 q=>?_,hnT,?_⟩)
 ·have q':=en.keep b o n1 n3 (hT0 b o n2 q)
  exact(Heap.get?_update_other _ _ fun z=>by rw[z,q]at hnT;cases hnT).trans q'
 ·obtain⟨sl,q'⟩:=en.slot b o n1 (hT0 b o (fun z=>hfT (z ▸ n1)) q)
  exact⟨sl,(Heap.get?_update_other _ _ fun z=>by rw[z,q]at hnT;cases hnT).trans q'⟩
 ·refine⟨_,_,_,_,(Heap.get?_update_other _ _ en.ne).trans en.exc,(Obj.cls_mapFields _ _).trans hc,map_dict.trans hdi,hd3,h1',en.ne,Heap.get?_update_self _ q1 (Obj.isFreed_of_fields (Obj.data_mapFields q2 _)),Obj.data_mapFields q2 _,by simp[sz]⟩
theorem z7D{h':Heap}{args:List Value}(hfr:A.frames=some (env::outer))(hl:s.heap.FunFrames base (env::outer))(hf:env.frame=some L)(hx:Heap.MadeExcOf s.heap h' e cls args)
  (h:∀ h3 T,Mark s.heap h3 (env::outer) e e T cls→Q () {s with heap:=h3}):wpAny M A (leaving env (.ref e)) Q E {s with heap:=h'}:=by
 obtain⟨t,he,_,_⟩:=hx.there
 have hl':h'.FunFrames base (env::outer):=hl.of_keeps fun b o q _=>⟨o,hx.keeps b o q,rfl⟩
 have hen:e ∉ frs (env::outer):=fun z=>by
  obtain⟨_,o,q,_⟩:=hl.mem z
  rw[hx.new]at q;cases q
 unfold leaving
 refine wpAny_bind (z8U (s:={s with heap:=h'}) hfr hl' hf he rfl rfl fun h2 T en=>?_)
 refine z55 (s:=s) (T0:=e) (vs:=#[.ref t,.none,.none,.none,.bool false,.none]) hen en (fun b o _ q=>hx.keeps b o q) hen ?_ rfl rfl rfl (show 1 < 6 by decide) fun h3 m=>h h3 T m
 cases q:s.heap.get? T with
 | none=>rfl
 | some o=>have:=hx.keeps T o q;rw[en.new]at this;cases this
theorem z8V(hfr:A.frames=some (env::outer))(hl:s.heap.FunFrames base (env::outer))(hf:env.frame=some L)(tr:TrT s.heap e T0 cls)
  (h:∀ h3 T,Mark s.heap h3 (env::outer) e T0 T cls→Q () {s with heap:=h3}):wpAny M A (noteFrame (.ref e) env) (fun _ s2=>wpAny M A (setFlight (.ref e) none) Q E s2) E s:=by
 obtain⟨oe,vs,oT,ts,h0,h1,h2,h3,h4,h5,h6,h7,h8⟩:=tr
 have hen:e ∉ frs (env::outer):=fun z=>by
  obtain⟨_,o,q,nf⟩:=hl.mem z
  rw[h0]at q;cases q;exact nf vs h3
 have hfT:T0 ∉ frs (env::outer):=fun z=>by
  obtain⟨_,o,q,nf⟩:=hl.mem z
  rw[h6]at q;cases q;exact nf ts h7
 unfold noteFrame
 simp only[hf]
 refine wpAny_bind (wpAny_field h0 h3 h4 ?_)
 rw[if_pos (show(Value.ref T0 != Value.none)=true from by simp)]
 refine wpAny_bind (wpAny_field h6 h7 h8 ?_)
 rw[if_neg (show ¬ ((Value.none == rawInt L)=true) from by simp[rawInt])]
 refine wpAny_bind (wpAny_setField h6 h7 (Array.getElem?_eq_some_iff.mp h8).1 ?_)
 have oth:∀ b o,b≠T0→s.heap.get? b=some o→(s.heap.update T0 (Obj.mapFields (·.setIfInBounds 3 Value.none))).get? b=some o:=fun b o n q=>(Heap.get?_update_other _ _ (Ne.symm n)).trans q
 have hl':(s.heap.update T0 (Obj.mapFields (·.setIfInBounds 3 Value.none))).FunFrames base (env::outer):=hl.of_keeps fun b o q nf=>⟨o,oth b o (fun z=>by rw[z,h6]at q;cases q;exact nf ts h7) q,rfl⟩
 refine z54 (s:={s with heap:=s.heap.update T0 (Obj.mapFields (·.setIfInBounds 3 Value.none))}) hfr hl' hf (oth e oe (Ne.symm h5) h0) h3 (Array.getElem?_eq_some_iff.mp h4).1 fun hh T en=>?_
 refine z55 (s:=s) (T0:=T0) hen en oth hfT ?_ h1 h2 h3 (Array.getElem?_eq_some_iff.mp h4).1 fun h3 m=>h h3 T m
 cases q:s.heap.get? T with
 | none=>rfl
 | some o =>
  by_cases z:T=T0
  ·have:=Heap.get?_update_self (Obj.mapFields (·.setIfInBounds 3 Value.none)) h6 (Obj.isFreed_of_fields (Obj.data_mapFields h7 _))
   have nw:(s.heap.update T0 (Obj.mapFields (·.setIfInBounds 3 Value.none))).get? T=none:=en.new
   rw[z]at nw
   rw[nw]at this;cases this
  ·have:=oth T o z q
   have nw:(s.heap.update T0 (Obj.mapFields (·.setIfInBounds 3 Value.none))).get? T=none:=en.new
   rw[nw]at this;cases this
end
inductive Flew(P:Program)(w:World)(base:Heap)(outer:List Env)(H0:Hp)(s0:Shared)(E:XK)(e:Value)(s':Shared):Prop
 | mk (a:Addr) (cls:Value) (H':Hp) (h0:e=.ref a) (h1:E cls none H') (h2:s'.os=s0.os) (h3:AllBare s'.gens) (h4:Un (frs outer) [] H0 H' s0.heap s'.heap) (h5:HOk P w H' s'.heap)
  (T:Addr) (h6:TrT s'.heap a T cls) (h7:H' a=none) (h8:s0.heap.get? a=none) (h9:s0.heap.get? T=none) (h10:s'.heap.FunFrames base outer) (h11:H' T=none)
abbrev CX1(P:Program)(w:World)(base:Heap):CXT:=fun outer H0 s0 E e s'=>Flew P w base outer H0 s0 E e s'
section
variable {X:Cx} {pins:List (Addr × Obj)} {σ:St} {H:Hp} {s:Shared} {h':Heap} {e:Addr} {cls:Value} {args:List Value} {E:XK} {E':Value→Shared→Prop}
theorem Inv.flies(I:Inv X pins σ H s)(hst:X.stack=X.env::X.outer)(hex:X.ex=[])(hL:∀ b o,X.s₀.heap.get? b=some o→X.env.frame≠some b)(hx:Heap.MadeExcOf s.heap h' e cls args)(hE:E cls none H) :
  wpAny (model X.prog X.w) X.A (leaving X.env (.ref e)) (fun _ s''=>Flew X.prog X.w X.base X.outer X.H₀ X.s₀ E (.ref e) s'') E' {s with heap:=h'}:=by
 have hfr:=I.ok.frames
 have hfs:=I.stack
 rw[hst]at hfr hfs
 obtain⟨_,⟨L,_,hf,_,_,_⟩,_⟩:=id hfs
 refine z7D (s:=s) hfr hfs hf hx fun h2 T m=>?_
 have keep:∀ b o,s.heap.get? b=some o→b ∉ frs (X.env::X.outer)→h2.get? b=some o:=fun b o q n=>by
  have ne:b≠e:=fun z=>by rw[z,hx.new]at q;cases q
  exact m.keep b o ne ne n q
 have slot:∀ b o,s.heap.get? b=some o→b∈frs (X.env::X.outer)→∃ sl,h2.get? b=some {o with slots:=sl}:=fun b o q n=>m.slot b o n q
 have fr0:∀ b o,X.s₀.heap.get? b=some o→b ∉ frs X.outer→b ∉ frs (X.env::X.outer):=fun b o q n z=>by
  obtain⟨env,he,ea⟩:=List.mem_filterMap.mp z
  rcases List.mem_cons.mp he with rfl | he
  ·exact hL b o q ea
  ·exact n (List.mem_filterMap.mpr ⟨env,he,ea⟩)
 have frO:∀ b,b∈frs X.outer→b∈frs (X.env::X.outer):=fun b z=>by
  obtain⟨env,he,ea⟩:=List.mem_filterMap.mp z
  exact List.mem_filterMap.mpr ⟨env,List.mem_cons_of_mem _ he,ea⟩
 have free:∀ b∈frs (X.env::X.outer),H b=none:=fun b hb=>I.stkFree b (by rw[hst];exact hb)
 have J:=I.base
 rw[hex]at J
 have hHe:H e=none:=by
  cases q:H e with
  | none=>rfl
  | some u =>
   obtain⟨o,eo⟩:=(I.hok e u q).there
   rw[hx.new]at eo;cases eo
 refine⟨e,cls,H,rfl,hE,I.os,I.bare,⟨fun b o q n hb _=>keep b o (J.keep b o q n hb (fun z=>nomatch z)) (fr0 b o q hb),fun b o q n hb _=>?_,fun b o q n hb=>J.free b o q n hb,fun b o q hb=>?_,J.tups,J.frzs,J.tbls⟩,fun a o q=>?_,T,m.tr,hHe,?_,?_,hfs.2.2.of_keeps fun b o q nf=>?_,?_⟩
 ·obtain⟨sl,q1⟩:=J.slot b o q n hb (fun z=>nomatch z)
  obtain⟨sl2,q2⟩:=slot b _ q1 (frO b hb)
  exact⟨sl2,q2⟩
 ·obtain⟨o',q1⟩:=J.there b o q hb
  by_cases hm:b∈frs (X.env::X.outer)
  ·obtain⟨sl,q2⟩:=slot b o' q1 hm;exact⟨_,q2⟩
  ·exact⟨_,keep b o' q1 hm⟩
 ·refine(I.hok a o q).stay (fun b u hb qb=>keep b u qb fun z=>?_) (fun _ q=>q) fun _ _ q=>q
  have:=free b z
  rcases hb with rfl | hb
  ·rw[q]at this;cases this
  ·rw[hb]at this;cases this
 ·cases q:X.s₀.heap.get? e with
  | none=>rfl
  | some o =>
   obtain⟨o',q1⟩:=J.there e o q (fun z=>nomatch z)
   rw[hx.new]at q1;cases q1
 ·cases q:X.s₀.heap.get? T with
  | none=>rfl
  | some o =>
   obtain⟨o',q1⟩:=J.there T o q (fun z=>nomatch z)
   rw[m.new]at q1;cases q1
 ·by_cases hm:b∈frs (X.env::X.outer)
  ·obtain⟨sl,q2⟩:=slot b o q hm
   exact⟨_,q2,rfl⟩
  ·exact⟨_,keep b o q hm,rfl⟩
 ·cases q:H T with
  | none=>rfl
  | some u =>
   obtain⟨o',q1⟩:=(I.hok T u q).there
   rw[m.new]at q1;cases q1
theorem Inv.lands{s':Shared}{v:Value}{Q:Unit→Shared→Prop}(I:Inv X pins σ H s)(hst:X.stack=X.env::X.outer)(F:Flew X.prog X.w X.base X.stack H s E v s')
  (k:∀ a cls H' h3 T,v=.ref a→E cls none H'→(∀ h4 tk,(∀ b o,b≠T→h3.get? b=some o→h4.get? b=some o)→Inv X pins σ H' {s' with heap:=h4,toks:=tk})→TrT h3 a T cls→H' a=none→H' T=none→s.heap.get? a=none→s.heap.get? T=none→Q () {s' with heap:=h3}) :
  wpAny (model X.prog X.w) X.A (noteFrame v X.env) (fun _ s2=>wpAny (model X.prog X.w) X.A (setFlight v none) Q E' s2) E' s':=by
 obtain⟨a,cls,H',rfl,hE,os,bare,un,hok,T,tr,hHa,ha0,hT0,ff,hHT⟩:=F
 have hfr:=I.ok.frames
 rw[hst]at hfr ff un
 obtain⟨_,⟨L,_,hf,_,_,_⟩,_⟩:=id ff
 refine z8V (s:=s') hfr ff hf tr fun h3 T3 m=>?_
 have keep:∀ b o,s'.heap.get? b=some o→b ∉ frs (X.env::X.outer)→b≠a→b≠T→h3.get? b=some o:=fun b o q n1 n2 n3=>m.keep b o n2 n3 n1 q
 have slot:∀ b o,s'.heap.get? b=some o→b∈frs (X.env::X.outer)→∃ sl,h3.get? b=some {o with slots:=sl}:=fun b o q n=>m.slot b o n q
 have nA:∀ b o,s.heap.get? b=some o→b≠a:=fun b o q z=>by rw[z,ha0]at q;cases q
 have nT:∀ b o,s.heap.get? b=some o→b≠T:=fun b o q z=>by rw[z,hT0]at q;cases q
 have frH:∀ b∈frs (X.env::X.outer),H' b=none:=fun b hb=>by
  obtain⟨_,o,q,_⟩:=(show s.heap.FunFrames X.base (X.env::X.outer) from hst ▸ I.stack).mem hb
  exact un.free b o q (I.stkFree b (by rw[hst];exact hb)) (fun z=>nomatch z)
 have bn:∀ o,s'.heap.get? T3=some o→False:=fun o q=>by rw[m.new]at q;cases q
 have hT3:H' T3=none:=by
  cases q:H' T3 with
  | none=>rfl
  | some u =>
   obtain⟨o,q1⟩:=(hok T3 u q).there
   exact(bn o q1).elim
 have hs3:s.heap.get? T3=none:=by
  cases q:s.heap.get? T3 with
  | none=>rfl
  | some o =>
   obtain⟨o',q1⟩:=un.there T3 o q (fun z=>nomatch z)
   exact(bn o' q1).elim
 have nf3:T3 ∉ frs (X.env::X.outer):=fun z=>by
  obtain⟨_,o2,q3,_⟩:=ff.mem z
  exact bn o2 q3
 obtain⟨hp,g,d,tk0,os'⟩:=s'
 obtain rfl:os'=s.os:=os
 refine k a cls H' h3 T3 rfl hE (fun h4 tk up=>?_) m.tr hHa hT3 ha0 hs3
 have keep4:∀ b o,hp.get? b=some o→b ∉ frs (X.env::X.outer)→b≠a→b≠T→h4.get? b=some o:=fun b o q n1 n2 n3=>up b o (fun z=>by
  subst z
  exact bn o q) (keep b o q n1 n2 n3)
 have slot4:∀ b o,hp.get? b=some o→b∈frs (X.env::X.outer)→∃ sl,h4.get? b=some {o with slots:=sl}:=fun b o q n=>by
  obtain⟨sl,q2⟩:=slot b o q n
  exact⟨sl,up b _ (fun z=>nf3 (z ▸ n)) q2⟩
 have un4:Un (frs X.stack) [] H H' s.heap h4:=by
  rw[hst]
  refine⟨fun b o q n hb hx=>keep4 b o (un.keep b o q n hb hx) hb (nA b o q) (nT b o q),fun b o q n hb hx=>?_,un.free,fun b o q hx=>?_,un.tups,un.frzs,un.tbls⟩
  ·obtain⟨sl,q1⟩:=un.slot b o q n hb hx
   obtain⟨sl2,q2⟩:=slot4 b _ q1 hb
   exact⟨sl2,q2⟩
  ·obtain⟨o',q1⟩:=un.there b o q hx
   by_cases hm:b∈frs (X.env::X.outer)
   ·obtain⟨sl,q2⟩:=slot4 b o' q1 hm;exact⟨_,q2⟩
   ·exact⟨_,keep4 b o' q1 hm (nA b o q) (nT b o q)⟩
 have hok4:HOk X.prog X.w H' h4:=fun b o q=>(hok b o q).stay (fun c u hc qc=>by
  have hn:H' c≠none:=by
   rcases hc with rfl | hc
   ·rw[q];exact fun z=>nomatch z
   ·rw[hc];exact fun z=>nomatch z
  exact keep4 c u qc (fun z=>hn (frH c z)) (fun z=>hn (by rw[z];exact hHa)) (fun z=>hn (by rw[z];exact hHT))) (fun _ q=>q) fun _ _ q=>q
 have J:Inv X pins σ H' {s with heap:=h4,gens:=g,drawn:=d,toks:=tk}:=I.call (h':=h4) (g':=g) (d':=d) (t':=tk) (ch:=[]) un4 hok4 bare (fun b z=>absurd z (by simp))
 exact J
end
def Cx.marked(X:Cx)(v:Value):Cx:={X with A:=X.A.mark (some v),calm:=false}
theorem Inv.marked{X:Cx}{pins:List (Addr × Obj)}{σ:St}{H:Hp}{s:Shared}(I:Inv X pins σ H s)(v:Value):Inv (X.marked v) pins σ H s :=
 ⟨⟨I.ok.mod,I.ok.kind,I.ok.glob,I.ok.blt,I.ok.above,I.ok.inj,I.ok.has,I.ok.cab,(fun z=>nomatch z),I.ok.frames,I.ok.stk,I.ok.exf,I.ok.bs,I.ok.bsz,I.ok.noex,I.ok.exfs,I.ok.funs,I.ok.frf⟩,I.os,I.bare,I.base,I.loc,I.cell,I.free,I.freeC,I.pin,I.hok,I.len⟩
theorem Inv.unmarked{X:Cx}{pins:List (Addr × Obj)}{σ:St}{H:Hp}{s:Shared}{v:Value}(o:X.Ok)(I:Inv (X.marked v) pins σ H s):Inv X pins σ H s :=
 ⟨o,I.os,I.bare,I.base,I.loc,I.cell,I.free,I.freeC,I.pin,I.hok,I.len⟩
theorem zcK{K:PySem.W.Frag}{h:Heap}{C:Addr}{bmB:List Value}{newId:String}(X:K.In h)(q:PySem.W.excIn K C bmB newId=true) :
  ∃ bm N nm qn bs hdct sn sub ab col dd k0 k1 k2 k3 k5 mN,h.get? C=some (excClassObj nm qn C N bs bm hdct sn sub ab col dd k0 k1 k2 k3 k5 newId)∧h.Ns N mN∧mN "__init__"=none∧OwnTail h bmB bm:=by
 unfold PySem.W.excIn at q
 split at q
 ·rename_i dd cd sl ho
  split at q
  ·rename_i C' bm k0 k1 k2 k3 n k5 hm hs
   simp only[Bool.and_eq_true,beq_iff_eq,Bool.not_eq_true']at q
   obtain⟨⟨⟨⟨⟨e1,e2⟩,hdel⟩,ht⟩,hok⟩,hni⟩:=q
   subst e1 e2
   obtain⟨nm,bs,mro,ns,qn,hd,sn,sub,ab,col,del⟩:=cd
   dsimp only at hm hdel hok hni
   subst hm hdel
   have hsl:sl=#[k0,k1,k2,k3,some (.builtin n),k5]:=by
    obtain⟨l⟩:=sl
    simp only at hs
    rw[hs]
   subst hsl
   exact⟨bm,ns,nm,qn,bs,hd,sn,sub,ab,col,dd,k0,k1,k2,k3,k5,_,X _ _ ho,.of_isNs (PySem.W.isNs_of_in X hok),PySem.W.nsMap_none_of_in X hok hni,PySem.W.tail_of_in X ht⟩
  ·cases q
 ·cases q
section
variable {X:Cx} {x z:Str} {C:Addr} {B newId initId:String} {bmB:List Value} {np cpos pos p2:Pos} {j:Nat}
def tRaise(X:Cx)(C:Addr):TS:=fun _ σ H=>∀ pins s h' e args,Inv X pins σ H s→Heap.MadeExcOf s.heap h' e (.ref C) args→X.xe (.ref e) {s with heap:=h'}
end
theorem z7E{P:Program}{w:World}{K:PySem.W.Frag}{mg:Str→Option Value}{base:Heap}{N:List Str}{qual:Str}{scope:Scope}{f:Addr}{cd:Value}{A:Around}{outer:List Env}{s:Shared}{H0 H:Hp}{E:XK}{C:Addr}{D:Ends}{σ:St}
  (hE:E (.ref C) none H):tRaise (cxOf (CX1 P w base) P w K mg base N qual scope f cd A outer s H0 E) C D σ H:=fun pins s1 h' e args I hx =>
 I.flies (X:=cxOf (CX1 P w base) P w K mg base N qual scope f cd A outer s H0 E) rfl rfl (fun b o q z=>by
  have hb:s.heap.objs.size=b:=Option.some.inj z
  have:=Heap.lt_size (show s.heap.get? b=some o from q)
  rw[hb]at this
  exact Nat.lt_irrefl _ this) hx hE
section
variable {X:Cx} {pins:List (Addr × Obj)} {σ:St} {H:Hp} {h3:Heap} {s':Shared} {a T C':Addr} {cls:Value} {c n y:Str} {ie iy:Nat} {np p1 p2 p3 pos:Pos} {Q:Flow→Shared→Prop} {E':Value→Shared→Prop}
theorem z9J(up:∀ h4 tk,(∀ b o,b≠T→h3.get? b=some o→h4.get? b=some o)→Inv X pins σ H {s' with heap:=h4,toks:=tk})(tr:TrT h3 a T cls)(hHa:H a=none)
  (exm:PySem.W.exmOne X.K cls (.ref C')=some true) (hg:Gl X c) (hm:X.mg c=some (.ref C')) (hdb:(c == ("__debug__":Str))=false)
  (hN:X.N.Nodup) (hie:X.N[ie]?=some n) (hln:Loc X.env.scope n) (hfn:X.fn n=true∨X.env.scope.names.lookup n=some .local) (hs:PS (X.marked (.ref a)).nox (.Assign [.Name y p1] (.Name n p2) p3) (tAsg (tVar ie) (gName iy)))
  (hl:ie < σ.length)
  (k:∀ s5 oe,oe.cls=cls→oe.dict=none→PySem.W.notCls oe=true→Inv X ((a,oe)::pins) ((σ.set ie (some (.ref a))).set iy (some (.ref a))) H s5→wpAny (model X.prog X.w) X.A (do bindName X.env n .none;unbindBehindTheSuite X.env n pos) (fun _ s6=>Q .next s6) E' s5) :
  wpAny (model X.prog X.w) X.A (handleBy (.ref a) X.env [.ExceptHandler (some (.Name c np)) (some n) [.Assign [.Name y p1] (.Name n p2) p3] pos]) Q E' {s' with heap:=h3}:=by
 obtain⟨oe,vs,oT,ts,h0,h1,h2,h3',h4,h5,h6,h7,h8⟩:=tr
 have I3:Inv X pins σ H {s' with heap:=h3}:=up h3 s'.toks fun b o _ q=>q
 have lt:PySem.W.Looks (model X.prog X.w) h3 (typeOf (.ref a)) cls:=by
  have:PySem.W.Looks (model X.prog X.w) h3 (typeOf (.ref a)) oe.cls:=(PySem.W.Looks.ld h0).andThen .now
  rw[h1]at this
  exact this
 refine wpAny_handleBy_cons (codeAny_handlers_test (Calls.Name_function_global I3.ok.kind hg (Calls.loadGlobal_global (by rw[I3.ok.glob];exact I3.mod.glob.keeps I3.bk) hm (PySem.W.exm_one I3.kIn lt exm _ _ _ _ (fun b o q=>q) ?_)) hdb)) (by intro q;cases q)
 show codeAny _ _ _ _ _
 refine codeAny_handlers_suite_as (wpAny_setFlight_none h0 h3' h4 h6 h7 (Array.getElem?_eq_some_iff.mp h8).1 ?_)
 have I4:Inv X pins σ H {s' with heap:=h3.update T (Obj.mapFields (·.setIfInBounds 3 .none))}:=up _ s'.toks fun b o nb q=>(Heap.get?_update_other _ _ (Ne.symm nb)).trans q
 have g4:(h3.update T (Obj.mapFields (·.setIfInBounds 3 .none))).get? a=some oe:=(Heap.get?_update_other _ _ h5).trans h0
 have nL:a≠X.env.locals:=fun z=>by
  obtain⟨m,⟨o,es,ep,ho,hd,_⟩,_⟩:=I4.loc
  rw[← z]at ho
  rw[show(h3.update T (Obj.mapFields (·.setIfInBounds 3 .none))).get? a=some o from ho]at g4
  cases g4
  rw[hd]at h3';cases h3'
 have nF:a ∉ X.fs:=fun z=>by
  obtain⟨_,o,ho,nf⟩:=I4.funs.mem z
  rw[show(h3.update T (Obj.mapFields (·.setIfInBounds 3 .none))).get? a=some o from ho]at g4
  cases g4
  exact nf vs h3'
 have I5:Inv X ((a,oe)::pins) σ H {s' with heap:=h3.update T (Obj.mapFields (·.setIfInBounds 3 .none))}:=I4.pins_of fun p hp=>by
  rcases List.mem_cons.mp hp with rfl | hp
  ·exact⟨g4,hHa,nL,nF,fun v z=>by rw[h3']at z;cases z⟩
  ·exact I4.pin p (List.mem_append_right _ hp)
 refine z1J (v:=.ref a) I5 hN hie hln rfl (fun s2 I6=>?_) hfn
 refine wpAny_mono ((z47 hs:PSs (X.marked (.ref a)).nox _ _) ((a,oe)::pins) s2 (σ.set ie (some (.ref a))) H {nx:=fun σ' H'=>σ'=(σ.set ie (some (.ref a))).set iy (some (.ref a))∧H'=H,rt:=fun _ _=>False} ((I6.marked (.ref a)).wish _) ⟨.ref a,List.getElem?_set_self hl,rfl,rfl⟩) (fun f s3 sp=>?_) fun _ _ z=>z.elim
 cases f with
 | next =>
  obtain⟨σ7,H7,I7,e1,e2⟩:=sp
  subst e1 e2
  have I8:=(I7.unwish).unmarked I6.ok
  exact k s3 oe h1 h2 (by unfold PySem.W.notCls;rw[h3']) I8
 | brk=>obtain⟨_,_,_,z⟩:=sp;exact z.elim
 | cont=>obtain⟨_,_,_,z⟩:=sp;exact z.elim
 | ret u=>obtain⟨_,_,_,_,_,z⟩:=sp;exact z.elim
end
theorem z9K{X:Cx}{pins:List (Addr × Obj)}{σ:St}{H:Hp}{s:Shared}{M:Model}{A:Around}{E:Value→Shared→Prop}{Q:Unit→Shared→Prop}{n:Str}{i:Nat}{pos:Pos}(I:Inv X pins σ H s)(hN:X.N.Nodup)(hi:X.N[i]?=some n)(hk:X.env.kindOf n=some .local)
  (k:∀ s6,Inv X pins (σ.set i none) H s6→Q () s6):wpAny M A (do bindName X.env n .none;unbindBehindTheSuite X.env n pos) Q E s:=by
 have hcls:(X.env.scope.kind == .class || (X.env.scope.kind == .module && X.env.locals != X.env.globals))=false:=by rw[I.ok.kind];rfl
 have hiσ:i < σ.length:=by rw[I.len];exact(List.getElem?_eq_some_iff.mp hi).1
 obtain⟨m,hn,hl⟩:=id I.loc
 refine wpAny_bind (wpAny_bindName (wpAny_storeName_local hk hn (fun h1 hn1 hs1=>?_) hcls))
 unfold unbindBehindTheSuite
 refine wpAny_onRaise ?_
 unfold unbindName
 refine wpAny_bind (wpAny_point (wpAny_bind ?_))
 unfold deleteName
 simp only[hk,hcls]
 rw[if_neg (by decide)]
 refine wpAny_bind (wpAny_nsDel_keeps hn1 fun h2 w hn2 hs2=>?_)
 simp only[if_true,Option.isSome_some,Bool.not_true,Bool.false_eq_true,if_false]
 refine wpAny_pure (wpAny_point (k _ ?_))
 have hs:Heap.SameBut X.env.locals s.heap h2:=hs1.trans hs2
 have cne:=I.cne
 refine⟨I.ok,I.os,I.bare,⟨fun b o e n hb hx=>?_,fun b o e n hb hx=>?_,I.base.free,fun b o e hx=>?_,I.base.tups,I.base.frzs,I.base.tbls⟩,⟨_,hn2,fun j y v' e1 e2 e3=>?_⟩,fun y c e=>?_,I.free,I.freeC,fun p hp=>?_,fun b ob e=>?_,by rw[List.length_set];exact I.len⟩
 ·exact(hs.2 b (Nat.ne_of_lt (Nat.lt_of_lt_of_le (Heap.lt_size e) I.ok.above))).trans (I.base.keep b o e n hb hx)
 ·obtain⟨sl,e1⟩:=I.base.slot b o e n hb hx
  exact⟨sl,(hs.2 b (Nat.ne_of_lt (Nat.lt_of_lt_of_le (Heap.lt_size e) I.ok.above))).trans e1⟩
 ·obtain⟨o',e1⟩:=I.base.there b o e hx
  exact⟨o',(hs.2 b (Nat.ne_of_lt (Nat.lt_of_lt_of_le (Heap.lt_size e) I.ok.above))).trans e1⟩
 ·by_cases hj:j=i
  ·subst hj
   rw[List.getElem?_set_self hiσ]at e2
   cases e2
  ·rw[List.getElem?_set_ne (Ne.symm hj)]at e2
   obtain⟨u',r',q⟩:=hl j y v' e1 e2 e3
   refine⟨u',r',?_⟩
   rcases q with ⟨k,e⟩ | ⟨k,c,e,z⟩
   ·refine .inl ⟨k,?_⟩
    have:y≠n:=fun e=>hj (z62 hN e1 (e ▸ hi))
    simp[this,e]
   ·exact .inr ⟨k,c,e,z.sameBut hs (cne y c e)⟩
 ·obtain⟨w',z⟩:=I.cell y c e
  exact⟨w',z.sameBut hs (cne y c e)⟩
 ·obtain⟨e,n,ne,nf,d⟩:=I.pin p hp
  exact⟨(hs.2 p.1 ne).trans e,n,ne,nf,d⟩
 ·refine(I.hok b ob e).stay (fun c w' hc q=>(hs.2 c ?_).trans q) (fun _ q=>q) fun _ _ q=>q
  rintro rfl
  rcases hc with rfl | hc
  ·rw[I.free]at e;cases e
  ·rw[I.free]at hc;cases hc
theorem Inv.trackN{X:Cx}{pins:List (Addr × Obj)}{σ:St}{H:Hp}{s:Shared}{D:Addr}{o:HO}(I:Inv X pins σ H s)(hn:H D=none)(hL:D≠X.env.locals)(h1:X.s₀.heap.get? D=none)(h2:∀ x c,X.env.cells.lookup x=some c→c≠D)(h3:∀ p∈X.pn++pins,p.1≠D)
  (new:ObjOk X.prog X.w (upd H D o) s.heap D o):Inv X pins σ (upd H D o) s:=by
 have ne:∀ b u,H b=some u→b≠D:=fun b u e=>zm e hn
 have n0:∀ b u,X.s₀.heap.get? b=some u→b≠D:=fun b u e z=>by rw[z,h1]at e;cases e
 refine⟨I.ok,I.os,I.bare,⟨I.base.keep,I.base.slot,fun b ob e n hx=>?_,I.base.there,fun b xs e=>?_,fun b ob u e=>?_,fun b ps e=>?_⟩,I.loc,I.cell,?_,fun x c e=>?_,fun p hp=>?_,fun b u e=>?_,I.len⟩
 ·rw[zj (n0 b ob e)];exact I.base.free b ob e n hx
 ·have:=I.base.tups b xs e
  rw[zj (ne b _ this)];exact this
 ·have:=I.base.frzs b ob u e
  rw[zj (ne b _ this)];exact this
 ·obtain⟨more,this⟩:=I.base.tbls b ps e
  exact⟨more,by rw[zj (ne b _ this)];exact this⟩
 ·rw[zj (Ne.symm hL)];exact I.free
 ·rw[zj (h2 x c e)];exact I.freeC x c e
 ·obtain⟨a1,a2,a3⟩:=I.pin p hp
  exact⟨a1,by rw[zj (h3 p hp)];exact a2,a3⟩
 ·by_cases hb:b=D
  ·subst hb;rw[zq]at e;cases e;exact new
  ·rw[zj hb]at e
   exact(I.hok b u e).stay (fun c v _ q=>q) (fun c q=>by rw[zj (ne c _ q)];exact q) fun c xs q=>by rw[zj (ne c _ q)];exact q
section
variable {X:Cx} {k ie iy:Nat} {f C C':Addr} {fd:FuncData} {ps:List Str} {sp:Sp} {x c n y:Str} {p cpos xpos np p1 p2 p3 pos1 pos:Pos} {e:Expr} {es:List Expr} {t:TA}
def IsExc(C a:Addr)(h:Heap):Prop:=∃ oe,h.get? a=some oe∧oe.cls=.ref C∧oe.dict=none∧PySem.W.notCls oe=true
def tTry(C:Addr)(ie iy:Nat)(sp:Sp)(t:TA):TS:=fun D σ H=>t σ H fun vs H1=>sp vs H1 (fun _ H'=>D.nx σ H')
 fun cls _ H'=>cls=.ref C∧∀ a,H' a=none→D.nx (((σ.set ie (some (.ref a))).set iy (some (.ref a))).set ie none) (upd H' a (.ext (IsExc C a)))
theorem ze6(hst:X.stack=X.env::X.outer)(hex:X.ex=[])(F:FnOk X.prog X.w X.K X.mg X.base (CX1 X.prog X.w X.base) k f fd ps sp)(hr:Room k X.A)(hg:Gl X x)(hm:X.mg x=some (.ref f))(hk:PySem.W.keepIn X.K (.ref f)=true)(hb:Binds X.K fd ps [])
  (ha:PA X.nox (e::es) t) (exm:PySem.W.exmOne X.K (.ref C) (.ref C')=some true) (hgc:Gl X c) (hmc:X.mg c=some (.ref C')) (hN:X.N.Nodup) (hie:X.N[ie]?=some n) (hkn:X.env.kindOf n=some .local) (hln:Loc X.env.scope n) (hfn:X.fn n=true∨X.env.scope.names.lookup n=some .local)
  (hs:∀ a,PS (X.marked (.ref a)).nox (.Assign [.Name y p1] (.Name n p2) p3) (tAsg (tVar ie) (gName iy)))
  (hsw:swapsWith (.Call (.Name x p) (e::es) [] cpos) none xpos.line X.env=pure false:=by rfl) (hdb:(x == ("__debug__":Str))=false:=by decide) (hdc:(c == ("__debug__":Str))=false:=by decide)
  (he:starEach (e::es) X.env=(false,eval e X.env)::starEach es X.env:=by rfl) (hpl:(backTo cpos (starEach es X.env)).any (·.1)=false:=by rfl) :
  PS X (.Try [.Expr (.Call (.Name x p) (e::es) [] cpos) xpos] [.ExceptHandler (some (.Name c np)) (some n) [.Assign [.Name y p1] (.Name n p2) p3] pos1] [] [] pos) (tTry C ie iy sp t):=by
 intro pins s σ H D I h
 refine wpAny_Try_except (wpAny_execs_cons (thn (wpAny_Expr_any (Q:=fun f s1=>f=.next∧NP X pins D.nx s1) (wpAny_Call_Name_kw (z4W I hg hm ?_ hdb)) I.quiet hsw) fun f s1 zhD=>?_))
 ·refine PySem.W.callWith_K (h₀:=X.base) I.ok.mod.kin hk (wpAny_mono (ha cpos pins s σ H _ (I.wish _) h) (fun us s1 ap=>?_) fun _ _ z=>z.elim) he hpl
  obtain⟨vs,H1,I1,r,q⟩:=ap
  have I2:=I1.unwish
  have hl:us.length=ps.length:=by rw[← r.length];exact F.len _ _ _ _ q
  refine⟨I2.kIn,wpAny_call (codeAny_mono (F.run X.A X.stack s1 H1 ⟨us,[]⟩ us vs _ _ hr I2.env0 (by have:=hb s1 us I2.kIn (by rw[List.append_nil];exact hl);rwa [List.append_nil]at this) r q) fun r s' hq=>?_)⟩
  cases r with
  | error v =>
   refine Inv.lands I2 hst hq fun a cls H' h3 T ev hE up tr hHa hHT ha0 hT0=>?_
   subst ev
   obtain⟨rfl,nx⟩:=hE
   refine z9J up tr hHa exm hgc hmc hdc hN hie hln hfn (hs a) (by rw[I.len];exact(List.getElem?_eq_some_iff.mp hie).1) fun s5 oe e5 e6 e7 I5=>z9K I5 hN hie hkn fun s6 I6=>?_
   obtain⟨g6,_,nL,_⟩:=I6.pin (a,oe) (List.mem_append_right _ List.mem_cons_self)
   have I7:Inv X pins _ H' s6:=I6.pins_of fun p hp=>I6.pin p (List.mem_append_right _ (List.mem_cons_of_mem _ hp))
   have nA:∀ b o,s1.heap.get? b=some o→b≠a:=fun b o q z=>by rw[z,ha0]at q;cases q
   refine⟨_,_,I7.trackN (o:=.ext (IsExc C a)) hHa nL ?_ (fun x c e=>?_) (fun p hp=>nA _ _ (I2.pin p hp).1) ⟨⟨oe,g6,e5,e6,e7⟩,⟨oe,g6⟩,fun h1 h2 zhE kk=>(by obtain⟨o,q,cc⟩:=zhE;exact⟨o,kk o q,cc⟩)⟩,nx a hHa⟩
   ·cases q:X.s₀.heap.get? a with
    | none=>rfl
    | some o =>
     obtain⟨o',q1⟩:=I2.base.there a o q (by rw[hex];exact fun z=>nomatch z)
     exact absurd rfl (nA a o' q1)
   ·obtain⟨v,o,ho,_⟩:=I2.cell x c e
    exact nA c o ho
  | ok fl =>
   cases fl with
   | ret u =>
    obtain⟨v,H',I',r',q'⟩:=I2.after hq
    exact⟨rfl,σ,H',I',q'⟩
   | next=>exact False.elim hq
   | brk=>exact False.elim hq
   | cont=>exact False.elim hq
 ·obtain⟨e1,q⟩:=zhD
  subst e1
  exact wpAny_execs_nil (wpAny_execs_nil q)
end
section
variable {prog:Program} {w:World} {A:Around} {E:Value→Shared→Prop} {s:Shared} {K:PySem.W.Frag} {x D:Addr}
open PySem.W in
theorem z9L{ox:Obj}(hga:findIn K (.ref D) "__getattribute__"=some (some (.builtin "BaseException.__getattribute__")))(hno:findIn K (.ref D) "__getattr__"=some none)(hdct:hasDictIn K D=true)(ha:findIn K (.ref D) "__class__"=some (some (.builtin "object.__class__")))
  (hn:specialIn K (.builtin "object.__class__") "__get__"=some (some (.builtin "getset_descriptor.__get__"))) (htk:takesIn K (.builtin "object.__class__")=some true) (hm:mroIn K D (.type "object")=some true) (hb:mroIn K D (.type "BaseException")=some true)
  {Q:Option Value→Shared→Prop} (X:K.In s.heap) (I:InstAt s.heap x ox D none) (h:Q (some (.ref D)) {s with toks:=s.toks + 1}):wpAny (model prog w) A (getAttr? (.ref x) "__class__") Q E s:=by
 have hf:findObj K D none "__class__"=some (.bind (.builtin "getset_descriptor.__get__") (.builtin "object.__class__")):=by
  obtain⟨cd,hc,_⟩:=any_some hdct
  unfold findObj
  rw[hc,Option.bind_some,ha,Option.bind_some]
  simp[hn,htk]
 obtain⟨hh,g,d,t,os⟩:=s
 have L0:=I.type (M:=model prog w)
 have L1:=looks_findIn (M:=model prog w) X hga
 have L2:=looks_findIn (M:=model prog w) X hno
 have L3:=looks_mroIn (M:=model prog w) X hb
 have L4:=looks_find (M:=model prog w) X I hf
 have hx2:(Value.builtin "BaseException.__getattribute__" == Value.builtin "object.__getattribute__")=false:=by decide +kernel
 unfold getAttr? getAttrBy? getAttrBy
 refine wpAny_bind (wpAny_mkText (wpAny_bind (wpAny_attempt (wpAny_holding (wpAny_bind (L0.at (wpAny_bind (L1.at ?_))))))))
 dsimp only
 rw[hx2,Bool.and_false]
 show wpAny _ _ (getAttrByItsOwn _ _ _ _ _ _) _ _ _
 unfold getAttrByItsOwn hookBefore
 refine wpAny_bind ?_
 show wpAny _ _ (typeLookup _ _) _ _ _
 refine L2.at ?_
 refine wpAny_bind (wpAny_attempt (wpAny_holding ?_))
 show wpAny _ _ (boundAndCalled _ _ _) _ _ _
 unfold boundAndCalled
 rw[F.excAttr_ValueError.ga.bind]
 refine wpAny_bind (wpAny_pure ?_)
 show wpAny _ _ (call (.builtin "BaseException.__getattribute__") [.ref x,.str "__class__" t]) _ _ _
 refine wpAny_call (codeAny_call_builtin F.excAttr_ValueError.ga.plain F.entry_bexc_ga ?_)
 have hk:builtinKind "BaseException.__getattribute__"=some .slot:=by decide +kernel
 have hsplit:splitId "BaseException.__getattribute__"=some ("BaseException","__getattribute__"):=by decide +kernel
 simp only[checkBuiltinCall,hk,hsplit]
 refine wpAny_bind ?_
 unfold isInstance
 have harg:=F.args_bexc_ga (.ref x) (.str "__class__" t)
 refine wpAny_bind (L0.at (L3.at ?_))
 generalize hQ:(fun(_:Unit) (s₁:Shared)=>wpAny (model prog w) A.in1 (Builtin.«object.__getattribute__» {pos:=[Value.ref x,Value.str (Str.ofString "__class__") t]}) _ _ s₁)=Q1
 repeat wp_step
 subst hQ
 unfold Builtin.«object.__getattribute__»
 refine wpAny_bind (wpAny_pure ?_)
 refine wpAny_bind (wpAny_pure ?_)
 refine wpAny_bind (L0.at (wpAny_bind (L4.at ?_)))
 show wpAny _ _ (holding [Value.builtin "object.__class__"] (call (Value.builtin "getset_descriptor.__get__") [Value.builtin "object.__class__",.ref x,.ref D]) >>= ret) _ _ _
 refine wpAny_bind (wpAny_holding (wpAny_call (class_get (s:=⟨hh,g,d,t + 1,os⟩) (ox:=ox) (od:=none) X I hm ?_)))
 exact wpAny_pure (handed_on (v:=.ref D) rfl (wpAny_pure h))
open PySem.W in
theorem zb6(hg:findIn K (.ref D) "__getattribute__"=some (some (.builtin "BaseException.__getattribute__")))(hno:findIn K (.ref D) "__getattr__"=some none)(hb:mroIn K D (.type "BaseException")=some true)(hdct:hasDictIn K D=true)(ha:findIn K (.ref D) "__class__"=some (some (.builtin "object.__class__")))
  (hn:specialIn K (.builtin "object.__class__") "__get__"=some (some (.builtin "getset_descriptor.__get__"))) (htk:takesIn K (.builtin "object.__class__")=some true) (hm:mroIn K D (.type "object")=some true) :
  KitX K (.ref x) (.ref D) (IsExc D x) where
 ty:=fun _ _ _ zhF=>(by obtain⟨oe,h0,h1,_⟩:=zhF;exact h1 ▸ (Looks.ld h0).andThen .now)
 it:=fun _ _ X _=>by
  obtain⟨cdD,hcD,_⟩:=any_some hdct
  unfold clsIn at hcD
  split at hcD
  ·rename_i c' d' cd' sl' ho
   intro A' Q' E' s' k q
   unfold isType loadHead
   exact wpAny_bind (wpAny_loadPart (k _ _ (X _ _ ho)) (wpAny_pure q))
  ·cases hcD
 ne:=fun h tp dd its n sl X htp=>by
  obtain⟨cdD,hcD,_⟩:=any_some hdct
  refine Bool.eq_false_iff.mpr fun q=>?_
  have e:D=tp:=Value.ref.inj (beq_iff_eq.mp q)
  subst e
  unfold clsIn at hcD
  split at hcD
  ·rename_i c' d' cd' sl' ho
   have z:=(X _ _ ho).symm.trans htp
   cases z
  ·cases hcD
 ca:=fun X zhG k=>(by obtain⟨oe,h0,h1,h2,h3⟩:=zhG;exact z9L hg hno hdct ha hn htk hm hb X (ox:=oe) ⟨h0,h1,h3,by rw[h2];trivial⟩ k)
end
structure ExcK(K:PySem.W.Frag)(D:Addr):Prop where
 hg:PySem.W.findIn K (.ref D) "__getattribute__"=some (some (.builtin "BaseException.__getattribute__"))
 hno:PySem.W.findIn K (.ref D) "__getattr__"=some none
 hb:PySem.W.mroIn K D (.type "BaseException")=some true
 hdct:PySem.W.hasDictIn K D=true
 ha:PySem.W.findIn K (.ref D) "__class__"=some (some (.builtin "object.__class__"))
 hn:PySem.W.specialIn K (.builtin "object.__class__") "__get__"=some (some (.builtin "getset_descriptor.__get__"))
 htk:PySem.W.takesIn K (.builtin "object.__class__")=some true
 hm:PySem.W.mroIn K D (.type "object")=some true
theorem z2n{X:Cx}{C:Addr}{v:V}{c:Value}{b:Bool}(hv:RelV v c)(hr:∀ u,RelV v u→u=c)(k:ExcK X.K C)(e:PySem.W.kitOne X.K (.ref C) c=some b) :
  CallR X (.builtin "isinstance") (fun xs H Q=>∃ a,xs=[.ref a,v]∧H a=some (.ext (IsExc C a))∧Q (.bl b) H):=by
 intro pins s σ H xs us Q I r h
 obtain⟨a,rfl,ea,q⟩:=h
 obtain⟨u1,u2,rfl,r1,r2⟩:=r.two
 cases (show u1=Value.ref a from r1)
 cases hr u2 r2
 refine PySem.W.kia_one (zb6 (x:=a) k.hg k.hno k.hb k.hdct k.ha k.hn k.htk k.hm) I.kIn (I.hok a _ ea).1 e (fun z=>nomatch z) fun tk=>?_
 exact⟨.bl b,H,I.kept (h':=s.heap) (t':=tk) fun _ _ q=>q,rfl,q⟩
end L2
namespace L3
open PySem L2 PySem.Spec PyProof.Rows
theorem bnd1{α γ:Type}{x:Option α}{f:α→Option γ}{r:γ}{Q:Prop}(e:x.bind f=some r)(h:∀ p,x=some p→f p=some r→Q):Q:=by
 cases x with
 | none=>cases e
 | some p=>exact h p rfl e
theorem bnd2{α β γ:Type}{x:Option (α × β)}{f:α × β→Option γ}{r:γ}{Q:Prop}(e:x.bind f=some r)(h:∀ d s,x=some (d,s)→f (d,s)=some r→Q):Q:=bnd1 e fun p=>h p.1 p.2
theorem mpp1{α γ:Type}{x:Option α}{f:α→γ}{r:γ}{Q:Prop}(e:x.map f=some r)(h:∀ p,x=some p→f p=r→Q):Q:=by
 cases x with
 | none=>cases e
 | some p=>exact h p rfl (Option.some.inj e)
theorem mpp2{α β γ:Type}{x:Option (α × β)}{f:α × β→γ}{r:γ}{Q:Prop}(e:x.map f=some r)(h:∀ d s,x=some (d,s)→f (d,s)=r→Q):Q:=mpp1 e fun p=>h p.1 p.2
abbrev D:=PyData
abbrev Zt:=Option (Addr × Addr)
abbrev Sx:=List Int × Int
def NotZ(Z:Zt)(p:Addr):Prop:=∀ a c,Z=some (a,c)→p≠a∧p≠c
def stDict(c:Addr)(t:Int):List (Key × V):=[(Sum.inr "cells",.ref c),(Sum.inr "turn",.int t)]
def StateAt(Z:Zt)(H:Hp)(s:Sx):Prop:=∀ a c,Z=some (a,c)→H a=some (.dK (stDict c s.2))∧H c=some (.lst (s.1.map V.int))
def Ext(Z:Zt)(H H':Hp):Prop:=∀ b o,H b=some o→NotZ Z b→H' b=some o
theorem Ext.refl{Z:Zt}(H:Hp):Ext Z H H:=fun _ _ e _=>e
theorem Ext.trans{Z:Zt}{H H1 H2:Hp}(a:Ext Z H H1)(b:Ext Z H1 H2):Ext Z H H2:=fun c o e n=>b c o (a c o e n) n
theorem Ext.upd{Z:Zt}{H:Hp}{p:Addr}{o:HO}(h:H p=none):Ext Z H (upd H p o):=fun b u e _=>by rw[zj (zm e h)];exact e
theorem StateAt.upd{Z:Zt}{H:Hp}{s:Sx}{p:Addr}{o:HO}(S:StateAt Z H s)(h:H p=none):StateAt Z (upd H p o) s:=fun a c e =>
 ⟨by rw[zj (zm (S a c e).1 h)];exact(S a c e).1,by rw[zj (zm (S a c e).2 h)];exact(S a c e).2⟩
theorem StateAt.notZ{Z:Zt}{H:Hp}{s:Sx}{p:Addr}(S:StateAt Z H s)(h:H p=none):NotZ Z p:=fun a c e=>⟨Ne.symm (zm (S a c e).1 h),Ne.symm (zm (S a c e).2 h)⟩
def ModT(K:PySem.W.Frag)(p:Addr)(vs:List V):Prop:=∃ (o:Obj) (its:Array Value) (n:Nat),K.lookup p=some o∧o.cls=.type "tuple"∧o.data=.seq its n∧its.size≤sizeLine∧Vals vs its.toList
mutual
inductive Rep(K:PySem.W.Frag)(Z:Zt)(H:Hp)(A:List Addr):V→D→Prop
 | non:Rep K Z H A .non .none
 | bl (b:Bool):Rep K Z H A (.bl b) (.bool b)
 | int (i:Int):Rep K Z H A (.int i) (.int i)
 | str (x:Str):Rep K Z H A (.str x) (.str x)
 | tup {p:Addr} {vs:List V} {ds:List D}:H p=some (.tup vs)→¬ p∈A→NotZ Z p→Reps K Z H A vs ds→Rep K Z H A (.ref p) (.tuple ds)
 | lst {p:Addr} {vs:List V} {ds:List D}:H p=some (.lst vs)→¬ p∈A→NotZ Z p→Reps K Z H A vs ds→Rep K Z H A (.ref p) (.list ds)
 | mod {p:Addr} {vs:List V} {ds:List D}:ModT K p vs→Reps K Z H A vs ds→Rep K Z H A (.ref p) (.tuple ds)
 | st {a c:Addr}:Z=some (a,c)→Rep K Z H A (.ref a) (.dict [])
 | obj {p C dx:Addr} {c:Str} {ns:List Str} {vs:List V} {ds:List D}:PySem.W.nsIn K mainGlobals c=some (some (.ref C))→H p=some (.ins C dx (ns.zip vs))→¬ p∈A→NotZ Z p→Reps K Z H A vs ds →
   Rep K Z H A (.ref p) (.dict ((.str "",.str c)::(ns.map PyData.str).zip ds))
inductive Reps(K:PySem.W.Frag)(Z:Zt)(H:Hp)(A:List Addr):List V→List D→Prop
 | nil:Reps K Z H A [] []
 | cons {v:V} {d:D} {vs:List V} {ds:List D}:Rep K Z H A v d→Reps K Z H A vs ds→Reps K Z H A (v::vs) (d::ds)
end
section
variable {K:PySem.W.Frag} {Z:Zt} {H H':Hp} {A A':List Addr}
theorem Reps.move(hm:∀ p o,H p=some o→¬ p∈A→NotZ Z p→H' p=some o∧¬ p∈A'){vs:List V}{ds:List D}(r:Reps K Z H A vs ds):Reps K Z H' A' vs ds :=
 Reps.rec (motive_1:=fun v d _=>Rep K Z H' A' v d) (motive_2:=fun vs ds _=>Reps K Z H' A' vs ds) .non .bl .int .str
  (fun h n z _ r=>.tup (hm _ _ h n z).1 (hm _ _ h n z).2 z r) (fun h n z _ r=>.lst (hm _ _ h n z).1 (hm _ _ h n z).2 z r) (fun h _ r=>.mod h r) (fun h=>.st h)
  (fun k h n z _ r=>.obj k (hm _ _ h n z).1 (hm _ _ h n z).2 z r) .nil (fun _ _ r t=>.cons r t) r
theorem Reps.head{v:V}{d:D}{vs:List V}{ds:List D}(r:Reps K Z H A (v::vs) (d::ds)):Rep K Z H A v d:=by
 cases r with
 | cons r _=>exact r
theorem Rep.move(hm:∀ p o,H p=some o→¬ p∈A→NotZ Z p→H' p=some o∧¬ p∈A'){v:V}{d:D}(r:Rep K Z H A v d):Rep K Z H' A' v d:=Reps.head (Reps.move hm (.cons r .nil))
theorem Rep.ext{v:V}{d:D}(r:Rep K Z H A v d)(e:Ext Z H H'):Rep K Z H' A v d:=r.move fun p o h n z=>⟨e p o h z,n⟩
theorem Reps.ext{vs:List V}{ds:List D}(r:Reps K Z H A vs ds)(e:Ext Z H H'):Reps K Z H' A vs ds:=r.move fun p o h n z=>⟨e p o h z,n⟩
theorem Rep.sub{v:V}{d:D}(r:Rep K Z H A v d)(e:∀ q∈A',q∈A):Rep K Z H A' v d:=r.move fun p o h n z=>⟨h,fun q=>n (e _ q)⟩
theorem Reps.sub{vs:List V}{ds:List D}(r:Reps K Z H A vs ds)(e:∀ q∈A',q∈A):Reps K Z H A' vs ds:=r.move fun p o h n z=>⟨h,fun q=>n (e _ q)⟩
theorem Reps.length{vs:List V}{ds:List D}(h:Reps K Z H A vs ds):vs.length=ds.length:=by
 induction vs generalizing ds with
 | nil=>cases h;rfl
 | cons v vs ih =>
  cases h with
  | cons _ t=>exact congrArg (· + 1) (ih t)
theorem Reps.get:∀ {vs:List V} {ds:List D} {i:Nat} {d:D},Reps K Z H A vs ds→ds[i]?=some d→∃ v,vs[i]?=some v∧Rep K Z H A v d
 | _,_,_,_,.nil,e=>by simp at e
 | _,_,0,_,.cons r _,e=>by simp at e;subst e;exact⟨_,rfl,r⟩
 | _,_,i + 1,d,.cons _ t,e=>by
  obtain⟨u,h1,h2⟩:=Reps.get (i:=i) (d:=d) t (by simpa using e)
  exact⟨u,by simpa using h1,h2⟩
theorem Reps.at:∀ {vs:List V} {ds:List D} {i:Nat} {v:V},Reps K Z H A vs ds→vs[i]?=some v→∃ d,ds[i]?=some d∧Rep K Z H A v d
 | _,_,_,_,.nil,e=>by simp at e
 | _,_,0,_,.cons r _,e=>by simp at e;subst e;exact⟨_,rfl,r⟩
 | _,_,i + 1,v,.cons _ t,e=>by
  obtain⟨u,h1,h2⟩:=Reps.at (i:=i) (v:=v) t (by simpa using e)
  exact⟨u,by simpa using h1,h2⟩
theorem Reps.append{vs ws:List V}{ds es:List D}(h:Reps K Z H A vs ds)(s:Reps K Z H A ws es):Reps K Z H A (vs++ws) (ds++es):=by
 induction vs generalizing ds with
 | nil=>cases h;exact s
 | cons v vs ih =>
  cases h with
  | cons r t=>exact .cons r (ih t)
theorem Reps.take:∀ {vs:List V} {ds:List D} (n:Nat),Reps K Z H A vs ds→Reps K Z H A (vs.take n) (ds.take n)
 | _,_,0,_=>.nil
 | _,_,_ + 1,.nil=>.nil
 | _,_,n + 1,.cons r t=>.cons r (Reps.take n t)
theorem Reps.drop:∀ {vs:List V} {ds:List D} (n:Nat),Reps K Z H A vs ds→Reps K Z H A (vs.drop n) (ds.drop n)
 | _,_,0,r=>r
 | _,_,_ + 1,.nil=>.nil
 | _,_,n + 1,.cons _ t=>Reps.drop n t
theorem Reps.set{v:V}{d:D}(r:Rep K Z H A v d):∀ {vs:List V} {ds:List D} (i:Nat),Reps K Z H A vs ds→Reps K Z H A (vs.set i v) (ds.set i d)
 | _,_,_,.nil=>.nil
 | _,_,0,.cons _ t=>.cons r t
 | _,_,i + 1,.cons q t=>.cons q (Reps.set r i t)
theorem Reps.rep(k:Nat){vs:List V}{ds:List D}(h:Reps K Z H A vs ds):Reps K Z H A (List.replicate k vs).flatten (List.replicate k ds).flatten:=by
 induction k with
 | zero=>exact .nil
 | succ k ih=>rw[List.replicate_succ,List.replicate_succ,List.flatten_cons,List.flatten_cons];exact h.append ih
theorem Reps.dropLast:∀ {vs:List V} {ds:List D},Reps K Z H A vs ds→Reps K Z H A vs.dropLast ds.dropLast:=fun{vs ds} h=>by
 rw[List.dropLast_eq_take,List.dropLast_eq_take,h.length];exact h.take _
theorem zO{p:Addr}(hA:∀ q∈A,∃ o,H q=some o)(h:H p=none):¬ p∈A:=fun m=>by
 obtain⟨o,e⟩:=hA p m
 rw[h]at e;cases e
end
def RepW(K:PySem.W.Frag)(Z:Zt)(H:Hp)(A:List Addr)(v:V)(d:D):Prop :=
 Rep K Z H A v d∨∃ p vs ds,v=.ref p∧d=.list ds∧H p=some (.lst vs)∧NotZ Z p∧Reps K Z H A vs ds
section
variable {K:PySem.W.Frag} {Z:Zt} {H H':Hp} {A A':List Addr} {v:V} {d:D}
theorem Rep.w(r:Rep K Z H A v d):RepW K Z H A v d:=.inl r
theorem RepW.ext(r:RepW K Z H A v d)(e:Ext Z H H'):RepW K Z H' A v d:=by
 rcases r with r | ⟨p,vs,ds,e1,e2,e3,e4,e5⟩
 ·exact .inl (r.ext e)
 ·exact .inr ⟨p,vs,ds,e1,e2,e _ _ e3 e4,e4,e5.ext e⟩
theorem RepW.list{ds:List D}(r:RepW K Z H A v (.list ds)):∃ p vs,v=.ref p∧SqL K H p vs∧NotZ Z p∧Reps K Z H A vs ds:=by
 rcases r with r | ⟨p,vs,ds,e1,e2,e3,e4,e5⟩
 ·cases r with
  | lst h n z q=>exact⟨_,_,rfl,.of h,z,q⟩
 ·cases e2;exact⟨p,vs,e1,.of e3,e4,e5⟩
theorem RepW.tuple{ds:List D}(r:RepW K Z H A v (.tuple ds)):∃ p vs,v=.ref p∧SqT K H p vs∧Reps K Z H A vs ds:=by
 rcases r with r | ⟨p,vs,ds,e1,e2,e3,e4,e5⟩
 ·cases r with
  | tup h n z q=>exact⟨_,_,rfl,.of h,q⟩
  | mod h q=>exact⟨_,_,rfl,.inr h,q⟩
 ·cases e2
theorem RepW.int{i:Int}(r:RepW K Z H A v (.int i)):v=.int i:=by
 rcases r with r | ⟨p,vs,ds,e1,e2,e3,e4,e5⟩
 ·cases r;rfl
 ·cases e2
theorem RepW.bool{i:Bool}(r:RepW K Z H A v (.bool i)):v=.bl i:=by
 rcases r with r | ⟨p,vs,ds,e1,e2,e3,e4,e5⟩
 ·cases r;rfl
 ·cases e2
theorem RepW.str{i:Str}(r:RepW K Z H A v (.str i)):v=.str i:=by
 rcases r with r | ⟨p,vs,ds,e1,e2,e3,e4,e5⟩
 ·cases r;rfl
 ·cases e2
theorem RepW.none(r:RepW K Z H A v .none):v=.non:=by
 rcases r with r | ⟨p,vs,ds,e1,e2,e3,e4,e5⟩
 ·cases r;rfl
 ·cases e2
end
inductive Ce where
 | non | val (d:D) | own (xs:List D)
abbrev Sl:=List Ce
abbrev Ow:=List (Nat × Addr)
inductive ValAt(K:PySem.W.Frag)(Z:Zt)(A:List Addr)(ow:Ow)(σ:L2.St)(H:Hp)(i:Nat)(d:D):Prop
 | mk (v:V) (h0:σ[i]?=some (some v)) (h1:Rep K Z H (A++ow.map (·.2)) v d)
inductive OwnAt(K:PySem.W.Frag)(Z:Zt)(A:List Addr)(ow:Ow)(σ:L2.St)(H:Hp)(i:Nat)(xs:List D):Prop
 | mk (p:Addr) (vs:List V) (h0:(i,p)∈ow) (h1:σ[i]?=some (some (.ref p))) (h2:H p=some (.lst vs)) (h3:Reps K Z H (A++ow.map (·.2)) vs xs)
structure RepS(K:PySem.W.Frag)(B:Hp)(Z:Zt)(A:List Addr)(ow:Ow)(σ:L2.St)(δ:Sl)(H:Hp):Prop where
 ok:∀ q∈A,(∃ o,H q=some o)∧NotZ Z q
 ext:Ext Z B H
 len:δ.length=σ.length
 val:∀ (i:Nat) (d:D),δ[i]?=some (.val d)→ValAt K Z A ow σ H i d
 own:∀ (i:Nat) (xs:List D),δ[i]?=some (.own xs)→OwnAt K Z A ow σ H i xs
 ows:∀ i p,(i,p)∈ow→B p=none∧(∃ vs,H p=some (.lst vs))∧NotZ Z p∧¬ p∈A
 inj:∀ i j p,(i,p)∈ow→(j,p)∈ow→i=j
section
variable {K:PySem.W.Frag} {B:Hp} {Z:Zt} {A:List Addr} {ow:Ow} {σ:L2.St} {δ:Sl} {H H':Hp}
theorem RepS.mono(R:RepS K B Z A ow σ δ H)(e:Ext Z H H'):RepS K B Z A ow σ δ H' where
 ok:=fun q hq=>⟨let ⟨o,h⟩:=(R.ok q hq).1;⟨o,e q o h (R.ok q hq).2⟩,(R.ok q hq).2⟩
 ext:=R.ext.trans e
 len:=R.len
 val:=fun i d h=>let ⟨v,a,b⟩:=R.val i d h;⟨v,a,b.ext e⟩
 own:=fun i xs h=>let ⟨p,vs,a,b,c,d⟩:=R.own i xs h;⟨p,vs,a,b,e p _ c (R.ows i p a).2.2.1,d.ext e⟩
 ows:=fun i p h=>let ⟨a,⟨o,b⟩,c,d⟩:=R.ows i p h;⟨a,⟨o,e p _ b c⟩,c,d⟩
 inj:=R.inj
theorem RepS.all(R:RepS K B Z A ow σ δ H):∀ q∈A++ow.map (·.2),∃ o,H q=some o:=fun q hq=>by
 rcases List.mem_append.mp hq with h | h
 ·exact(R.ok q h).1
 ·obtain⟨⟨i,p⟩,hp,rfl⟩:=List.mem_map.mp h
  obtain⟨vs,h⟩:=(R.ows i p hp).2.1
  exact⟨_,h⟩
end
def Frm(Z:Zt)(ow:Ow)(H:Hp)(ow':Ow)(H':Hp):Prop:=∀ b o,H b=some o→NotZ Z b→¬ b∈ow.map (·.2)→H' b=some o∧¬ b∈ow'.map (·.2)
theorem Frm.ext{Z:Zt}{ow:Ow}{H H':Hp}(e:Ext Z H H'):Frm Z ow H ow H':=fun b o h n m=>⟨e b o h n,m⟩
theorem Frm.refl{Z:Zt}{ow:Ow}{H:Hp}:Frm Z ow H ow H:=fun _ _ h _ m=>⟨h,m⟩
theorem Frm.trans{Z:Zt}{o1 o2 o3:Ow}{H1 H2 H3:Hp}(a:Frm Z o1 H1 o2 H2)(b:Frm Z o2 H2 o3 H3):Frm Z o1 H1 o3 H3:=fun c o h n m=>let ⟨h',m'⟩:=a c o h n m;b c o h' n m'
section
variable {K:PySem.W.Frag} {Z:Zt} {H H':Hp} {A:List Addr} {ow ow':Ow}
theorem z5S{p:Addr}{u:HO}(h:H p=some u)(f:Frm Z ow H ow' H')(n:NotZ Z p)(m:¬ p∈A++ow.map (·.2)):H' p=some u∧¬ p∈A++ow'.map (·.2):=by
 have m1:¬ p∈A:=fun q=>m (List.mem_append_left _ q)
 have m2:¬ p∈ow.map (·.2):=fun q=>m (List.mem_append_right _ q)
 exact⟨(f _ _ h n m2).1,fun q=>(List.mem_append.mp q).elim m1 (f _ _ h n m2).2⟩
theorem Rep.frm{v:V}{d:D}(r:Rep K Z H (A++ow.map (·.2)) v d)(f:Frm Z ow H ow' H'):Rep K Z H' (A++ow'.map (·.2)) v d:=r.move fun p o h n z=>z5S h f z n
theorem Reps.frm{vs:List V}{ds:List D}(r:Reps K Z H (A++ow.map (·.2)) vs ds)(f:Frm Z ow H ow' H'):Reps K Z H' (A++ow'.map (·.2)) vs ds:=r.move fun p o h n z=>z5S h f z n
end
abbrev FE:=Sl→Sx→Option (D × Sx)
abbrev FT:=Sl→Sx→Option (Bool × Sx)
abbrev FA:=Sl→Sx→Option (List D × Sx)
inductive tDK(K:PySem.W.Frag)(Z:Zt)(A:List Addr)(F:FE)(σ:L2.St)(H:Hp)(Q:VK):Prop
 | mk (B:Hp) (ow:Ow) (δ:Sl) (s:Sx) (d:D) (s':Sx) (h0:RepS K B Z A ow σ δ H) (h1:StateAt Z H s) (h2:F δ s=some (d,s')) (h3:∀ v H',Ext Z H H'→StateAt Z H' s'→Rep K Z H' (A++ow.map (·.2)) v d→Q v H')
abbrev tD(X:Cx)(Z:Zt)(A:List Addr)(F:FE):TE:=tDK X.K Z A F
inductive tDTK(K:PySem.W.Frag)(Z:Zt)(A:List Addr)(F:FT)(σ:L2.St)(H:Hp)(Q:Bool→Hp→Prop):Prop
 | mk (B:Hp) (ow:Ow) (δ:Sl) (s:Sx) (b:Bool) (s':Sx) (h0:RepS K B Z A ow σ δ H) (h1:StateAt Z H s) (h2:F δ s=some (b,s')) (h3:∀ H',Ext Z H H'→StateAt Z H' s'→Q b H')
abbrev tDT(X:Cx)(Z:Zt)(A:List Addr)(F:FT):TT:=tDTK X.K Z A F
inductive tDAK(K:PySem.W.Frag)(Z:Zt)(A:List Addr)(F:FA)(σ:L2.St)(H:Hp)(Q:List V→Hp→Prop):Prop
 | mk (B:Hp) (ow:Ow) (δ:Sl) (s:Sx) (ds:List D) (s':Sx) (h0:RepS K B Z A ow σ δ H) (h1:StateAt Z H s) (h2:F δ s=some (ds,s')) (h3:∀ vs H',Ext Z H H'→StateAt Z H' s'→Reps K Z H' (A++ow.map (·.2)) vs ds→Q vs H')
abbrev tDA(X:Cx)(Z:Zt)(A:List Addr)(F:FA):TA:=tDAK X.K Z A F
structure DE(X:Cx)(e:Expr)(F:FE):Prop where
 go:∀ Z A,PE X e (tD X Z A F)
instance {X:Cx} {e:Expr} {F:FE}:CoeFun (DE X e F) (fun _=>∀ Z A,PE X e (tD X Z A F)):=⟨fun h=>h.go⟩
structure DT(X:Cx)(e:Expr)(F:FT):Prop where
 go:∀ Z A,PT X e (tDT X Z A F)
instance {X:Cx} {e:Expr} {F:FT}:CoeFun (DT X e F) (fun _=>∀ Z A,PT X e (tDT X Z A F)):=⟨fun h=>h.go⟩
structure DA(X:Cx)(es:List Expr)(F:FA):Prop where
 go:∀ Z A,PA X es (tDA X Z A F)
instance {X:Cx} {es:List Expr} {F:FA}:CoeFun (DA X es F) (fun _=>∀ Z A,PA X es (tDA X Z A F)):=⟨fun h=>h.go⟩
abbrev FO:=Sl→Sx→Option (List D × Sx)
inductive tDOK(K:PySem.W.Frag)(Z:Zt)(A:List Addr)(F:FO)(σ:L2.St)(H:Hp)(Q:VK):Prop
 | mk (B:Hp) (ow:Ow) (δ:Sl) (s:Sx) (ds:List D) (s':Sx) (h0:RepS K B Z A ow σ δ H) (h1:StateAt Z H s) (h2:F δ s=some (ds,s')) (h3:∀ p vs H',Ext Z H H'→StateAt Z H' s'→H' p=some (.lst vs)→NotZ Z p→Reps K Z H' (A++ow.map (·.2)) vs ds→Q (.ref p) H')
abbrev tDO(X:Cx)(Z:Zt)(A:List Addr)(F:FO):TE:=tDOK X.K Z A F
structure DO(X:Cx)(e:Expr)(F:FO):Prop where
 go:∀ Z A,PE X e (tDO X Z A F)
instance {X:Cx} {e:Expr} {F:FO}:CoeFun (DO X e F) (fun _=>∀ Z A,PE X e (tDO X Z A F)):=⟨fun h=>h.go⟩
inductive tDWK(K:PySem.W.Frag)(Z:Zt)(A:List Addr)(F:FE)(σ:L2.St)(H:Hp)(Q:VK):Prop
 | mk (B:Hp) (ow:Ow) (δ:Sl) (s:Sx) (d:D) (s':Sx) (h0:RepS K B Z A ow σ δ H) (h1:StateAt Z H s) (h2:F δ s=some (d,s')) (h3:∀ v H',Ext Z H H'→StateAt Z H' s'→RepW K Z H' (A++ow.map (·.2)) v d→Q v H')
abbrev tDW(X:Cx)(Z:Zt)(A:List Addr)(F:FE):TE:=tDWK X.K Z A F
structure DW(X:Cx)(e:Expr)(F:FE):Prop where
 go:∀ Z A,PE X e (tDW X Z A F)
instance {X:Cx} {e:Expr} {F:FE}:CoeFun (DW X e F) (fun _=>∀ Z A,PE X e (tDW X Z A F)):=⟨fun h=>h.go⟩
theorem PE.imp{X:Cx}{e:Expr}{t t':TE}(h:PE X e t)(hi:∀ σ H Q,t' σ H Q→t σ H Q):PE X e t':=fun pins s σ H Q I q=>h pins s σ H Q I (hi σ H Q q)
theorem PT.imp{X:Cx}{e:Expr}{t t':TT}(h:PT X e t)(hi:∀ σ H Q,t' σ H Q→t σ H Q):PT X e t':=fun pins s σ H Q I q=>h pins s σ H Q I (hi σ H Q q)
theorem PA.imp{X:Cx}{e:List Expr}{t t':TA}(h:PA X e t)(hi:∀ σ H Q,t' σ H Q→t σ H Q):PA X e t':=fun pos pins s σ H Q I q=>h pos pins s σ H Q I (hi σ H Q q)
theorem PS.imp{X:Cx}{st:Stmt}{t t':TS}(h:PS X st t)(hi:∀ D σ H,t' D σ H→t D σ H):PS X st t':=fun pins s σ H D I q=>h pins s σ H D I (hi D σ H q)
theorem PSs.imp{X:Cx}{st:List Stmt}{t t':TS}(h:PSs X st t)(hi:∀ D σ H,t' D σ H→t D σ H):PSs X st t':=fun pins s σ H D I q=>h pins s σ H D I (hi D σ H q)
section
variable {X:Cx} {a b c:Expr} {Fa Fb Fc:FE} {pos:Pos}
def fVar(i:Nat):FE:=fun δ s=>match δ[i]? with | some (.val d)=>some (d,s) | _=>none
def fC(d:D):FE:=fun _ s=>some (d,s)
theorem zgF{e:Expr}{i:Nat}(h:PE X e (tVar i)):DE X e (fVar i):=⟨fun Z A=>PE.imp h fun σ H Q zhH=>by
 obtain⟨B,ow,δ,s,d,s',R,S,e,q⟩:=zhH
 unfold fVar at e
 split at e
 ·rename_i d' hd
  cases e
  obtain⟨v,h1,h2⟩:=R.val i _ hd
  exact⟨v,h1,q v H (Ext.refl H) S h2⟩
 ·cases e⟩
theorem dv(i:Nat){x:Str}(hN:X.N[i]?=some x:=by rfl)(hv:Vis X.env.scope x:=by first | exact Or.inl rfl | exact Or.inr (Or.inl rfl) | exact Or.inr (Or.inr rfl))(hd:(x == ("__debug__":Str))=false:=by decide)
  (hcd:(x == ("__classdict__":Str))=false:=by decide):DE X (.Name x pos) (fVar i):=zgF (pv i hN hv hd hcd)
theorem z4J{e:Expr}{v:V}{d:D}(h:PE X e (tC v))(r:∀ K Z H A,Rep K Z H A v d):DE X e (fC d):=⟨fun Z A=>PE.imp h fun σ H Q zhI=>by
 obtain⟨B,ow,δ,s,d',s',R,S,e,q⟩:=zhI
 cases e
 exact q v H (Ext.refl H) S (r _ _ _ _)⟩
theorem de_int{i:Int}{j}:DE X (.Constant (.int i) j pos) (fC (.int i)):=z4J z4V fun _ _ _ _=>.int i
theorem z4a{i:Bool}{j}:DE X (.Constant (.bool i) j pos) (fC (.bool i)):=z4J zgv fun _ _ _ _=>.bl i
theorem z6U{j}:DE X (.Constant .none j pos) (fC .none):=z4J zbN fun _ _ _ _=>.non
theorem ze7{x:Str}{j}:DE X (.Constant (.str x) j pos) (fC (.str x)):=z4J z4m fun _ _ _ _=>.str x
theorem DE.w{e:Expr}{F:FE}(h:DE X e F):DW X e F:=⟨fun Z A=>PE.imp (h Z A) fun σ H Q zhJ=>(by obtain⟨B,ow,δ,s,d,s',R,S,e,q⟩:=zhJ;exact⟨B,ow,δ,s,d,s',R,S,e,fun v H' a b c=>q v H' a b c.w⟩)⟩
def asL(F:FO):FE:=fun δ s=>(F δ s).map fun p=>(.list p.1,p.2)
abbrev G2:=D→D→Option D
def DOp(X:Cx)(f:Value→Value→Sem Value)(g:G2):Prop:=∀ (Z:Zt) (A:List Addr) (pins:List (Addr × Obj)) (s:Shared) (σ:L2.St) (H:Hp) (st:Sx) (x y:V) (v u:Value) (dx dy d:D) (Q:VK),
 Inv X pins σ H s→StateAt Z H st→(∀ q∈A,∃ o,H q=some o)→RepW X.K Z H A x dx→RepW X.K Z H A y dy→RelV x v→RelV y u→g dx dy=some d →
 (∀ v' H',Ext Z H H'→StateAt Z H' st→Rep X.K Z H' A v' d→Q v' H')→wpAny (model X.prog X.w) X.A (f v u) (EP X pins σ Q) X.xe s
theorem DOp.of{f:Value→Value→Sem Value}{g:G2}{r:R2}(h:OpR X f r)
  (hr:∀ (Z:Zt) (A:List Addr) (H:Hp) (st:Sx) (x y:V) (dx dy d:D) (Q:VK),StateAt Z H st→(∀ q∈A,∃ o,H q=some o)→RepW X.K Z H A x dx→RepW X.K Z H A y dy→g dx dy=some d →
   (∀ v' H',Ext Z H H'→StateAt Z H' st→Rep X.K Z H' A v' d→Q v' H')→r x y H Q):DOp X f g :=
 fun Z A pins s σ H st x y v u dx dy d Q I S hA rx ry vx vy e q=>h pins s σ H x y v u Q I vx vy (hr Z A H st x y dx dy d Q S hA rx ry e q)
theorem DOp.or{f:Value→Value→Sem Value}{g g':G2}(h:DOp X f g)(h':DOp X f g'):DOp X f (fun a b=>(g a b).or (g' a b)) :=
 fun Z A pins s σ H st x y v u dx dy d Q I S hA rx ry vx vy e q=>by
  cases e1:g dx dy with
  | some d'=>dsimp only at e;rw[e1]at e;exact h Z A pins s σ H st x y v u dx dy d Q I S hA rx ry vx vy (by rw[e1];exact e) q
  | none=>dsimp only at e;rw[e1]at e;exact h' Z A pins s σ H st x y v u dx dy d Q I S hA rx ry vx vy e q
def f2(g:G2)(Fa Fb:FE):FE:=fun δ s=>(Fa δ s).bind fun p=>(Fb δ p.2).bind fun q=>(g p.1 q.1).map fun d=>(d,q.2)
theorem two{g:G2}{f:Value→Value→Sem Value}(ho:DOp X f g)(ha:DW X a Fa)(hb:DW X b Fb){Z:Zt}{A:List Addr}{pins:List (Addr × Obj)}{s:Shared}{σ:L2.St}{H:Hp}{Q:VK}(I:Inv X pins σ H s)(h:tD X Z A (f2 g Fa Fb) σ H Q) :
  wpAny (model X.prog X.w) X.A (eval a X.env) (fun v s₁=>wpAny (model X.prog X.w) X.A (eval b X.env) (fun u s₂=>wpAny (model X.prog X.w) X.A (f v u) (EP X pins σ Q) X.xe s₂) X.xe s₁) X.xe s:=by
 obtain⟨B,ow,δ,st,d,st',R,S,e,q⟩:=h
 unfold f2 at e
 first | refine bnd2 e fun dx s1 e1 e=>?_ | refine mpp2 e fun dx s1 e1 e=>?_
 replace e:((Fb δ s1).bind fun q=>(g dx q.1).map fun d=>(d,q.2))=some (d,st'):=e
 first | refine bnd2 e fun dy s2 e2 e=>?_ | refine mpp2 e fun dy s2 e2 e=>?_
 replace e:((g dx dy).map fun d=>(d,s2))=some (d,st'):=e
 cases e3:g dx dy with
 | none=>rw[e3]at e;cases e
 | some d' =>
  rw[e3]at e
  cases e
  refine thn (ha Z A pins s σ H (fun x H1=>Ext Z H H1∧StateAt Z H1 s1∧RepW X.K Z H1 (A++ow.map (·.2)) x dx) I ⟨B,ow,δ,st,dx,s1,R,S,e1,fun v H' a b c=>⟨a,b,c⟩⟩) fun v s1' zhK=>?_
  obtain⟨x,H1,I1,r1,x1,S1,q1⟩:=zhK
  refine thn (hb Z A pins s1' σ H1 (fun y H2=>Ext Z H1 H2∧StateAt Z H2 st'∧RepW X.K Z H2 (A++ow.map (·.2)) y dy) I1 ⟨B,ow,δ,s1,dy,st',R.mono x1,S1,e2,fun v H' a b c=>⟨a,b,c⟩⟩) fun u s2' zhL=>?_
  obtain⟨y,H2,I2,r2,x2,S2,q2⟩:=zhL
  exact ho Z _ pins s2' σ H2 st' x y v u dx dy d Q I2 S2 ((R.mono x1).mono x2).all (q1.ext x2) q2 r1 r2 e3 fun v' H' a b c=>q v' H' ((x1.trans x2).trans a) b c
theorem de_op{op:Operator}{g:G2}(ho:DOp X (binaryOp op) g)(ha:DW X a Fa)(hb:DW X b Fb):DE X (.BinOp a op b pos) (f2 g Fa Fb):=⟨fun _ _ _ _ _ _ _ I h=>wpAny_BinOp (two ho ha hb I h)⟩
theorem z2E{op:CmpOp}{g:G2}(ho:DOp X (compareOp op) g)(ha:DW X a Fa)(hb:DW X b Fb)(hm:behindInMarks op b=false):DE X (.Compare a [op] [b] pos) (f2 g Fa Fb):=⟨fun _ _ _ _ _ _ _ I h=>wpAny_Compare1 (two ho ha hb I h) hm⟩
def asB(F:FE):FT:=fun δ s=>(F δ s).bind fun p=>match p.1 with | .bool b=>some (b,p.2) | _=>none
theorem zbZ{Z:Zt}{A:List Addr}{F:FE}{σ:L2.St}{H:Hp}{Q:Bool→Hp→Prop}(h:tDT X Z A (asB F) σ H Q):tD X Z A F σ H fun x H'=>∃ k,x=.bl k∧Q k H':=by
 obtain⟨B,ow,δ,st,b,st',R,S,e,q⟩:=h
 unfold asB at e
 first | refine bnd2 e fun d s1 e1 e=>?_ | refine mpp2 e fun d s1 e1 e=>?_
 cases d <;> first | (cases e;done) | skip
 cases e
 exact⟨B,ow,δ,st,_,_,R,S,e1,fun v H' a b c=>by cases c;exact⟨_,rfl,q H' a b⟩⟩
theorem zP{op:CmpOp}{g:G2}(ho:DOp X (compareOp op) g)(ha:DW X a Fa)(hb:DW X b Fb)(hm:behindInMarks op b=false):DT X (.Compare a [op] [b] pos) (asB (f2 g Fa Fb)):=⟨fun Z A pins s σ H Q I h=>by
 refine wpAny_isTrue_Compare1 (thn (two ho ha hb I (zbZ h)) fun v s1 h1=>thn h1 fun u s2 h2=>thn h2 fun cv s3 zhM=>?_) hm
 obtain⟨x,H1,I1,r1,k,e,q1⟩:=zhM
 subst e
 cases r1
 exact wpAny_truthy_bool ⟨H1,I1,q1⟩⟩
def gI(C:Int→Int→Bool)(f:Int→Int→D):G2:=fun a b=>match a,b with | .int i,.int j=>if C i j then some (f i j) else none | _,_=>none
theorem z1Q{f:Value→Value→Sem Value}{C:Int→Int→Prop}{Cb:Int→Int→Bool}{gv:Int→Int→V}{gd:Int→Int→D}(h:OpR X f (rI C gv))(hC:∀ i j,Cb i j=true→C i j)(hg:∀ i j K Z H A,Rep K Z H A (gv i j) (gd i j)):DOp X f (gI Cb gd) :=
 DOp.of h fun Z A H st x y dx dy d Q S hA rx ry e q=>by
  unfold gI at e
  split at e
  ·have ex:=rx.int
   have ey:=ry.int
   subst ex ey
   split at e
   ·rename_i i j hc
    cases e
    exact⟨i,j,rfl,rfl,hC i j hc,q _ H (Ext.refl H) S (hg i j _ _ _ _)⟩
   ·cases e
  ·cases e
theorem z4o{g:Int→Int→V}{f:Value→Value→Sem Value}(h:OpR X f (rI0 g)):OpR X f (rI (fun _ _=>True) g):=fun pins s σ H x y v u Q I rx ry zhN=>(by obtain⟨i,j,e1,e2,_,q⟩:=zhN;exact h pins s σ H x y v u Q I rx ry ⟨i,j,e1,e2,q⟩)
def gAddI:G2:=gI (fun _ _=>true) fun i j=>.int (i + j)
def gSubI:G2:=gI (fun _ _=>true) fun i j=>.int (i - j)
def mulOk(i j:Int):Bool:=decide (Builtin.Int.intBits i + Builtin.Int.intBits j≤134217728)
def divOk(_ j:Int):Bool:=decide (j≠0) && decide (j.natAbs.log2 < 9000)
theorem dadd_int:DOp X (binaryOp .Add) gAddI:=z1Q (z4o zbS) (fun _ _ _=>trivial) fun i j _ _ _ _=>.int _
theorem zM:DOp X (binaryOp .Sub) gSubI:=z1Q (z4o zdO) (fun _ _ _=>trivial) fun i j _ _ _ _=>.int _
def gLt:G2:=gI (fun _ _=>true) fun i j=>.bool (decide (i < j))
def gLe:G2:=gI (fun _ _=>true) fun i j=>.bool (decide (i≤j))
def gGt:G2:=gI (fun _ _=>true) fun i j=>.bool (decide (j < i))
def gGe:G2:=gI (fun _ _=>true) fun i j=>.bool (decide (j≤i))
theorem dlt:DOp X (compareOp .Lt) gLt:=z1Q (z4o zgz) (fun _ _ _=>trivial) fun i j _ _ _ _=>.bl _
theorem dle:DOp X (compareOp .LtE) gLe:=z1Q (z4o zgA) (fun _ _ _=>trivial) fun i j _ _ _ _=>.bl _
theorem dgt:DOp X (compareOp .Gt) gGt:=z1Q (z4o zgB) (fun _ _ _=>trivial) fun i j _ _ _ _=>.bl _
theorem dge:DOp X (compareOp .GtE) gGe:=z1Q (z4o zdR) (fun _ _ _=>trivial) fun i j _ _ _ _=>.bl _
end
end L3
namespace L3
open PySem L2 PySem.Spec PyProof.Rows
section
variable {X:Cx} {a b c e:Expr} {es:List Expr} {Fa Fb Fc F:FE} {Ga Gb:FT} {FL:FA} {pos:Pos}
theorem zb7{i j:Int}(h:mulOk i j=true):IntMulOk i j:=mulOk_of_bits (Nat.le_refl _) (Nat.le_refl _) (of_decide_eq_true h)
theorem zcL:OpR X (binaryOp .Mult) (rI (fun i j=>mulOk i j=true) fun i j=>.int (i * j)):=opI fun _ _ _ _ _ _ _ hc q=>mul_int q (zb7 hc)
theorem zb8:OpR X (binaryOp .FloorDiv) (rI (fun i j=>divOk i j=true) fun i j=>.int (i.fdiv j)):=opI fun _ _ _ _ _ _ _ hc q=>by
 have hc':(decide _ && decide _)=true:=hc
 rw[Bool.and_eq_true]at hc'
 exact floordiv_int (of_decide_eq_true hc'.1) q (.inl (PyProof.noPylong_of_log2 (of_decide_eq_true hc'.2)))
def gMulI:G2:=gI mulOk fun i j=>.int (i * j)
def gDivI:G2:=gI divOk fun i j=>.int (i.fdiv j)
def gModI:G2:=gI (fun _ j=>decide (j≠0)) fun i j=>.int (i.fmod j)
theorem dmul_int:DOp X (binaryOp .Mult) gMulI:=z1Q zcL (fun _ _ h=>h) fun i j _ _ _ _=>.int _
theorem z3d:DOp X (binaryOp .FloorDiv) gDivI:=z1Q zb8 (fun _ _ h=>h) fun i j _ _ _ _=>.int _
theorem dmod_int:DOp X (binaryOp .Mod) gModI:=z1Q z9m (fun _ _ h=>of_decide_eq_true h) fun i j _ _ _ _=>.int _
abbrev G1:=D→Option D
def f1(g:G1)(Fa:FE):FE:=fun δ s=>(Fa δ s).bind fun p=>(g p.1).map fun d=>(d,p.2)
def gNeg:G1:=fun d=>match d with | .int i=>some (.int (-i)) | _=>none
theorem z3R(ha:DW X a Fa):DE X (.UnaryOp .USub a pos) (f1 gNeg Fa):=⟨fun Z A=>PE.imp (zgy zdQ (ha Z A)) fun σ H Q zhO=>by
 obtain⟨B,ow,δ,s,d,s',R,S,e,q⟩:=zhO
 unfold f1 at e
 first | refine bnd2 e fun dx s1 e1 e=>?_ | refine mpp2 e fun dx s1 e1 e=>?_
 cases dx <;> first | (cases e;done) | skip
 cases e
 exact⟨B,ow,δ,s,_,_,R,S,e1,fun v H' x1 S1 r=>⟨_,r.int,q _ H' x1 S1 (.int _)⟩⟩⟩
def tAndF(Ga Gb:FT):FT:=fun δ s=>(Ga δ s).bind fun p=>if p.1=true then Gb δ p.2 else some (false,p.2)
def tOrF(Ga Gb:FT):FT:=fun δ s=>(Ga δ s).bind fun p=>if p.1=true then some (true,p.2) else Gb δ p.2
def tNotF(Ga:FT):FT:=fun δ s=>(Ga δ s).map fun p=>(!p.1,p.2)
structure DTW(X:Cx)(e:Expr)(F:FT):Prop where
 go:∀ Z A,PW X e (tDT X Z A F)
instance {X:Cx} {e:Expr} {F:FT}:CoeFun (DTW X e F) (fun _=>∀ Z A,PW X e (tDT X Z A F)):=⟨fun h=>h.go⟩
theorem DTW.t(h:DTW X e Ga):DT X e Ga:=⟨fun Z A=>(h Z A).pt⟩
theorem z4b(ha:DT X a Ga):DTW X (.BoolOp .And [a] pos) Ga:=⟨fun Z A=>zck (ha Z A)⟩
theorem z56(ha:DT X a Ga):DTW X (.BoolOp .Or [a] pos) Ga:=⟨fun Z A=>zdI (ha Z A)⟩
theorem PW.imp{t t':TT}(h:PW X e t)(hi:∀ σ H Q,t' σ H Q→t σ H Q):PW X e t':=fun wh pins s σ H Q I q=>h wh pins s σ H Q I (hi σ H Q q)
theorem z5T(ha:DT X a Ga)(hb:DTW X (.BoolOp .And (b::es) pos) Gb):DTW X (.BoolOp .And (a::b::es) pos) (tAndF Ga Gb):=⟨fun Z A=>PW.imp (zdJ (ha Z A) (hb Z A)) fun σ H Q zhP=>by
 obtain⟨B,ow,δ,s,d,s',R,S,e,q⟩:=zhP
 unfold tAndF at e
 first | refine bnd2 e fun k s1 e1 e=>?_ | refine mpp2 e fun k s1 e1 e=>?_
 refine⟨B,ow,δ,s,k,s1,R,S,e1,fun H1 x1 S1=>?_⟩
 cases k with
 | true=>exact iteT ⟨B,ow,δ,s1,d,s',R.mono x1,S1,e,fun H2 x2 S2=>q H2 (x1.trans x2) S2⟩
 | false=>cases e;exact iteF (q H1 x1 S1)⟩
theorem z6V(ha:DT X a Ga)(hb:DTW X (.BoolOp .Or (b::es) pos) Gb):DTW X (.BoolOp .Or (a::b::es) pos) (tOrF Ga Gb):=⟨fun Z A=>PW.imp (zgw (ha Z A) (hb Z A)) fun σ H Q zeH=>by
 obtain⟨B,ow,δ,s,d,s',R,S,e,q⟩:=zeH
 unfold tOrF at e
 first | refine bnd2 e fun k s1 e1 e=>?_ | refine mpp2 e fun k s1 e1 e=>?_
 refine⟨B,ow,δ,s,k,s1,R,S,e1,fun H1 x1 S1=>?_⟩
 cases k with
 | true=>cases e;exact iteT (q H1 x1 S1)
 | false=>exact iteF ⟨B,ow,δ,s1,d,s',R.mono x1,S1,e,fun H2 x2 S2=>q H2 (x1.trans x2) S2⟩⟩
theorem z3S(ha:DT X a Ga):DT X (.UnaryOp .Not a pos) (tNotF Ga):=⟨fun Z A=>PT.imp (zdK (ha Z A)) fun σ H Q zeI=>by
 obtain⟨B,ow,δ,s,d,s',R,S,e,q⟩:=zeI
 unfold tNotF at e
 first | refine bnd1 e fun p e1 e=>?_ | refine mpp1 e fun p e1 e=>?_
 cases e
 exact⟨B,ow,δ,s,_,_,R,S,e1,fun H1 x1 S1=>q H1 x1 S1⟩⟩
def eAnd(Fa Fb:FE):FE:=fun δ s=>(Fa δ s).bind fun p=>match p.1 with | .bool true=>Fb δ p.2 | .bool false=>some (.bool false,p.2) | _=>none
def eOr(Fa Fb:FE):FE:=fun δ s=>(Fa δ s).bind fun p=>match p.1 with | .bool false=>Fb δ p.2 | .bool true=>some (.bool true,p.2) | _=>none
theorem z6W{op}(ha:DE X a Fa):DE X (.BoolOp op [a] pos) Fa:=⟨fun Z A=>zbO (ha Z A)⟩
theorem z57(ha:DE X a Fa)(hb:DE X (.BoolOp .And (b::es) pos) Fb):DE X (.BoolOp .And (a::b::es) pos) (eAnd Fa Fb):=⟨fun Z A=>PE.imp (z9f (ha Z A) (hb Z A)) fun σ H Q zeJ=>by
 obtain⟨B,ow,δ,s,d,s',R,S,e,q⟩:=zeJ
 unfold eAnd at e
 first | refine bnd2 e fun dx s1 e1 e=>?_ | refine mpp2 e fun dx s1 e1 e=>?_
 cases dx with
 | bool k =>
  refine⟨B,ow,δ,s,_,s1,R,S,e1,fun v H1 x1 S1 r=>?_⟩
  cases r
  refine⟨k,rfl,?_⟩
  cases k with
  | true=>exact iteT ⟨B,ow,δ,s1,d,s',R.mono x1,S1,e,fun v H2 x2 S2 r=>q v H2 (x1.trans x2) S2 r⟩
  | false=>cases e;exact iteF (q _ H1 x1 S1 (.bl _))
 | _=>cases e⟩
theorem zgG(ha:DE X a Fa)(hb:DE X (.BoolOp .Or (b::es) pos) Fb):DE X (.BoolOp .Or (a::b::es) pos) (eOr Fa Fb):=⟨fun Z A=>PE.imp (zgx (ha Z A) (hb Z A)) fun σ H Q zeK=>by
 obtain⟨B,ow,δ,s,d,s',R,S,e,q⟩:=zeK
 unfold eOr at e
 first | refine bnd2 e fun dx s1 e1 e=>?_ | refine mpp2 e fun dx s1 e1 e=>?_
 cases dx with
 | bool k =>
  refine⟨B,ow,δ,s,_,s1,R,S,e1,fun v H1 x1 S1 r=>?_⟩
  cases r
  refine⟨k,rfl,?_⟩
  cases k with
  | true=>cases e;exact iteT (q _ H1 x1 S1 (.bl _))
  | false=>exact iteF ⟨B,ow,δ,s1,d,s',R.mono x1,S1,e,fun v H2 x2 S2 r=>q v H2 (x1.trans x2) S2 r⟩
 | _=>cases e⟩
def gNot:G1:=fun d=>match d with | .bool k=>some (.bool (!k)) | _=>none
theorem zc0(ha:DE X a Fa):DE X (.UnaryOp .Not a pos) (f1 gNot Fa):=⟨fun Z A=>PE.imp (zbP (ha Z A)) fun σ H Q zeL=>by
 obtain⟨B,ow,δ,s,d,s',R,S,e,q⟩:=zeL
 unfold f1 at e
 first | refine bnd2 e fun dx s1 e1 e=>?_ | refine mpp2 e fun dx s1 e1 e=>?_
 cases dx with
 | bool k=>cases e;exact⟨B,ow,δ,s,_,_,R,S,e1,fun v H' x1 S1 r=>by cases r;exact⟨_,rfl,q _ H' x1 S1 (.bl _)⟩⟩
 | _=>cases e⟩
def eIf(Ga:FT)(Fa Fb:FE):FE:=fun δ s=>(Ga δ s).bind fun p=>if p.1=true then Fa δ p.2 else Fb δ p.2
theorem ze8(hc:DT X c Ga)(ha:DE X a Fa)(hb:DE X b Fb):DE X (.IfExp c a b pos) (eIf Ga Fa Fb):=⟨fun Z A=>PE.imp (zaO (hc Z A) (ha Z A) (hb Z A)) fun σ H Q zeM=>by
 obtain⟨B,ow,δ,s,d,s',R,S,e,q⟩:=zeM
 unfold eIf at e
 first | refine bnd2 e fun k s1 e1 e=>?_ | refine mpp2 e fun k s1 e1 e=>?_
 refine⟨B,ow,δ,s,k,s1,R,S,e1,fun H1 x1 S1=>?_⟩
 cases k with
 | true=>exact iteT ⟨B,ow,δ,s1,d,s',R.mono x1,S1,e,fun v H2 x2 S2 r=>q v H2 (x1.trans x2) S2 r⟩
 | false=>exact iteF ⟨B,ow,δ,s1,d,s',R.mono x1,S1,e,fun v H2 x2 S2 r=>q v H2 (x1.trans x2) S2 r⟩⟩
def aNil:FA:=fun _ s=>some ([],s)
def aCons(Fa:FE)(FL:FA):FA:=fun δ s=>(Fa δ s).bind fun p=>(FL δ p.2).map fun q=>(p.1::q.1,q.2)
theorem zd:DA X [] aNil:=⟨fun Z A=>PA.imp z0r fun σ H Q zeN=>by
 obtain⟨B,ow,δ,s,d,s',R,S,e,q⟩:=zeN
 cases e
 exact q [] H (Ext.refl H) S .nil⟩
theorem z0(ha:DE X e Fa)(hr:DA X es FL)(hs:starEach (e::es) X.env=(false,eval e X.env)::starEach es X.env:=by rfl):DA X (e::es) (aCons Fa FL):=⟨fun Z A=>PA.imp (zy (ha Z A) (hr Z A) hs) fun σ H Q zeO=>by
 obtain⟨B,ow,δ,s,d,s',R,S,e,q⟩:=zeO
 unfold aCons at e
 first | refine bnd2 e fun dx s1 e1 e=>?_ | refine mpp2 e fun dx s1 e1 e=>?_
 replace e:((FL δ s1).map fun q=>(dx::q.1,q.2))=some (d,s'):=e
 first | refine bnd1 e fun p2 e2 e=>?_ | refine mpp1 e fun p2 e2 e=>?_
 cases e
 exact⟨B,ow,δ,s,dx,s1,R,S,e1,fun v H1 x1 S1 r=>⟨B,ow,δ,s1,p2.1,p2.2,R.mono x1,S1,e2,fun vs H2 x2 S2 rs=>q _ H2 (x1.trans x2) S2 (.cons (r.ext x2) rs)⟩⟩⟩
def small(ds:List D):Bool:=decide (ds.length≤sizeLine)
def eTup(FL:FA):FE:=fun δ s=>(FL δ s).bind fun p=>if small p.1=true then some (.tuple p.1,p.2) else none
def eLst(FL:FA):FE:=fun δ s=>(FL δ s).bind fun p=>if small p.1=true then some (.list p.1,p.2) else none
theorem z1p{x1}(h:DA X es FL):DE X (.Tuple es x1 pos) (eTup FL):=⟨fun Z A=>PE.imp (zdW (h Z A)) fun σ H Q zeP=>by
 obtain⟨B,ow,δ,s,d,s',R,S,e,q⟩:=zeP
 unfold eTup at e
 first | refine bnd1 e fun p e1 e=>?_ | refine mpp1 e fun p e1 e=>?_
 replace e:(if small p.1=true then some (PyData.tuple p.1,p.2) else none)=some (d,s'):=e
 split at e
 ·rename_i hs
  cases e
  refine⟨B,ow,δ,s,_,_,R,S,e1,fun vs H1 x1 S1 rs=>⟨?_,fun p hp=>q _ _ (x1.trans (Ext.upd hp)) (S1.upd hp) (.tup zq (zO (R.mono x1).all hp) (S1.notZ hp) (rs.ext (Ext.upd hp)))⟩⟩
  rw[rs.length];exact of_decide_eq_true hs
 ·cases e⟩
theorem z1R(h:DA X es FL):DE X (.List es pos) (eLst FL):=⟨fun Z A=>PE.imp (z9r (h Z A)) fun σ H Q zeQ=>by
 obtain⟨B,ow,δ,s,d,s',R,S,e,q⟩:=zeQ
 unfold eLst at e
 first | refine bnd1 e fun p e1 e=>?_ | refine mpp1 e fun p e1 e=>?_
 replace e:(if small p.1=true then some (PyData.list p.1,p.2) else none)=some (d,s'):=e
 split at e
 ·rename_i hs
  cases e
  refine⟨B,ow,δ,s,_,_,R,S,e1,fun vs H1 x1 S1 rs=>⟨?_,fun p hp=>q _ _ (x1.trans (Ext.upd hp)) (S1.upd hp) (.lst zq (zO (R.mono x1).all hp) (S1.notZ hp) (rs.ext (Ext.upd hp)))⟩⟩
  rw[rs.length];exact of_decide_eq_true hs
 ·cases e⟩
def gIx:G2:=fun a b=>match a,b with | .list xs,.int i=>atI xs i | .tuple xs,.int i=>atI xs i | _,_=>none
theorem Reps.atI{K:PySem.W.Frag}{Z:Zt}{H:Hp}{A:List Addr}{vs:List V}{ds:List D}{i:Int}{d:D}(r:Reps K Z H A vs ds)(e:L2.atI ds i=some d):∃ v,L2.atI vs i=some v∧Rep K Z H A v d:=by
 unfold L2.atI at e ⊢
 rw[r.length]
 cases e1:ixN ds.length i with
 | none=>rw[e1]at e;cases e
 | some j =>
  rw[e1]at e
  obtain⟨v,h1,h2⟩:=r.get (i:=j) (d:=d) e
  exact⟨v,h1,h2⟩
theorem zV(ha:DW X a Fa)(hb:DW X b Fb)(hs:PlainIx b):DE X (.Subscript a b pos) (f2 gIx Fa Fb):=⟨fun Z A=>PE.imp (zdZ (ix_list.or ix_tup) (ha Z A) (hb Z A) hs) fun σ H Q zeR=>by
 obtain⟨B,ow,δ,s,d,s',R,S,e,q⟩:=zeR
 unfold f2 at e
 first | refine bnd2 e fun dx s1 e1 e=>?_ | refine mpp2 e fun dx s1 e1 e=>?_
 replace e:((Fb δ s1).bind fun q=>(gIx dx q.1).map fun d=>(d,q.2))=some (d,s'):=e
 first | refine bnd2 e fun dy s2 e2 e=>?_ | refine mpp2 e fun dy s2 e2 e=>?_
 replace e:((gIx dx dy).map fun d=>(d,s2))=some (d,s'):=e
 cases e3:gIx dx dy with
 | none=>rw[e3]at e;cases e
 | some d' =>
  rw[e3]at e
  cases e
  refine⟨B,ow,δ,s,dx,s1,R,S,e1,fun v H1 x1 S1 r1=>⟨B,ow,δ,s1,dy,s',R.mono x1,S1,e2,fun u H2 x2 S2 r2=>?_⟩⟩
  unfold gIx at e3
  split at e3
  ·rename_i xs i
   have eu:=r2.int
   obtain⟨p,vs,ev,sq,_,rs⟩:=(r1.ext x2).list
   obtain⟨w',h1,h2⟩:=Reps.atI rs e3
   exact .inl ⟨p,vs,i,w',ev,eu,sq,h1,q w' H2 (x1.trans x2) S2 h2⟩
  ·rename_i xs i
   have eu:=r2.int
   obtain⟨p,vs,ev,sq,rs⟩:=(r1.ext x2).tuple
   obtain⟨w',h1,h2⟩:=Reps.atI rs e3
   exact .inr ⟨p,vs,i,w',ev,eu,sq,h1,q w' H2 (x1.trans x2) S2 h2⟩
  ·cases e3⟩
theorem Reps.reads{K:PySem.W.Frag}{pins:List (Addr × Obj)}{σ:L2.St}{H:Hp}{s:Shared}(hK:X.K=K)(I:Inv X pins σ H s){Z:Zt}{A:List Addr}{vs:List V}{ds:List D}(x:Reps K Z H A vs ds):PyData.canLayAll0 ds=true→∀ us,Vals vs us→∃ as,ReadsAll s.heap us ds as :=
 Reps.rec (motive_1:=fun v d _=>d.canLay0=true→∀ u,RelV v u→∃ as,Reads s.heap u d as) (motive_2:=fun vs ds _=>PyData.canLayAll0 ds=true→∀ us,Vals vs us→∃ as,ReadsAll s.heap us ds as)
  (fun _ _ r=>by cases r;exact⟨_,.none⟩) (fun b _ _ r=>by cases r;exact⟨_,.bool b⟩) (fun i _ _ r=>by obtain⟨t,rfl⟩:=r;exact⟨_,.int i t⟩) (fun x _ _ r=>by obtain⟨t,rfl⟩:=r;exact⟨_,.str x t⟩)
  (fun h n z _ ih c u r=>by
   cases r
   obtain⟨its,rv,⟨o,e1,e2,m,e3⟩,_⟩:=I.tuple (.of h)
   obtain⟨as,q⟩:=ih c _ rv
   exact⟨as,.tuple e1 e2 e3 q⟩)
  (fun h n z _ ih c u r=>by
   cases r
   obtain⟨its,rv,p,_⟩:=I.list (.of h)
   obtain⟨o,e1,e2,m,e3⟩:=p.isList
   obtain⟨as,q⟩:=ih c _ rv
   exact⟨_,.list e1 e2 e3 q⟩)
  (fun h _ ih c u r=>by
   cases r
   obtain⟨its,rv,⟨o,e1,e2,m,e3⟩,_⟩:=I.tuple (.inr (hK.symm ▸ h))
   obtain⟨as,q⟩:=ih c _ rv
   exact⟨as,.tuple e1 e2 e3 q⟩)
  (fun _ c _ _=>absurd c Bool.false_ne_true) (fun _ _ _ _ _ _ c _ _=>absurd c Bool.false_ne_true)
  (fun _ _ r=>by cases r;exact⟨_,.nil⟩)
  (fun _ _ h1 h2 c us r=>by
   cases r with
   | cons q w =>
    obtain⟨as,g1⟩:=h1 ((Bool.and_eq_true _ _).mp c).1 _ q
    obtain⟨bs,g2⟩:=h2 ((Bool.and_eq_true _ _).mp c).2 _ w
    exact⟨_,.cons g1 g2⟩) x
theorem Rep.reads{K:PySem.W.Frag}{pins:List (Addr × Obj)}{σ:L2.St}{H:Hp}{s:Shared}(hK:X.K=K)(I:Inv X pins σ H s){Z:Zt}{A:List Addr}{v:V}{d:D}{u:Value}(x:Rep K Z H A v d)(c:d.canLay0=true)(r:RelV v u):∃ as,Reads s.heap u d as:=by
 obtain⟨as,h⟩:=Reps.reads hK I (.cons x .nil) (by rw[PyData.canLayAll0,c];rfl) [u] (.cons r .nil)
 cases h with
 | cons h _=>exact⟨_,h⟩
theorem RepW.reads{pins:List (Addr × Obj)}{σ:L2.St}{H:Hp}{s:Shared}(I:Inv X pins σ H s){Z:Zt}{A:List Addr}{v:V}{d:D}{u:Value}(r:RepW X.K Z H A v d)(c:d.canLay0=true)(ru:RelV v u):∃ as,Reads s.heap u d as:=by
 rcases r with r | ⟨p,vs,ds,rfl,rfl,e3,e4,e5⟩
 ·exact r.reads rfl I c ru
 ·cases ru
  obtain⟨its,rv,pl,_⟩:=I.list (SqL.of e3)
  obtain⟨o,e1,e2,m,e3⟩:=pl.isList
  obtain⟨as,q⟩:=Reps.reads rfl I e5 (by simpa [PyData.canLay0] using c) _ rv
  exact⟨_,.list e1 e2 e3 (by simpa using q)⟩
def gEq:G2:=fun a b=>if (SeqAt.shaped a && SeqAt.shaped b)=true then some (.bool (PyData.eqv a b)) else none
def gNe:G2:=fun a b=>if (SeqAt.shaped a && SeqAt.shaped b)=true then some (.bool (!PyData.eqv a b)) else none
theorem deq(hu:X.A.units + 64 < cLine):DOp X (compareOp .Eq) gEq:=fun Z A pins s σ H st x y v u dx dy d Q I S hA rx ry vx vy e q=>by
 unfold gEq at e
 split at e
 ·rename_i hc
  cases e
  rw[Bool.and_eq_true]at hc
  obtain⟨as,h1⟩:=rx.reads I (SeqAt.canLay_of_shaped hc.1) vx
  obtain⟨bs,h2⟩:=ry.reads I (SeqAt.canLay_of_shaped hc.2) vy
  exact eq_dataH h1 h2 hc.1 hc.2 hu ⟨.bl _,H,I,rfl,q _ H (Ext.refl H) S (.bl _)⟩
 ·cases e
theorem dne(hu:X.A.units + 64 < cLine):DOp X (compareOp .NotEq) gNe:=fun Z A pins s σ H st x y v u dx dy d Q I S hA rx ry vx vy e q=>by
 unfold gNe at e
 split at e
 ·rename_i hc
  cases e
  rw[Bool.and_eq_true]at hc
  obtain⟨as,h1⟩:=rx.reads I (SeqAt.canLay_of_shaped hc.1) vx
  obtain⟨bs,h2⟩:=ry.reads I (SeqAt.canLay_of_shaped hc.2) vy
  exact ne_dataH h1 h2 hc.1 hc.2 hu ⟨.bl _,H,I,rfl,q _ H (Ext.refl H) S (.bl _)⟩
 ·cases e
@[simp] def isNon:D→Option Bool
 | .none=>some true
 | .bool _ | .int _ | .str _ | .list _ | .tuple _=>some false
 | _=>none
def gIs:G2:=fun a b=>match b with | .none=>(isNon a).map .bool | .bool j=>(match a with | .bool i=>some (.bool (i == j)) | _=>none) | _=>none
def gIsNot:G2:=fun a b=>match b with | .none=>(isNon a).map fun x=>.bool (!x) | .bool j=>(match a with | .bool i=>some (.bool (!(i == j))) | _=>none) | _=>none
theorem RepW.isNon{K:PySem.W.Frag}{Z:Zt}{H:Hp}{A:List Addr}{v:V}{d:D}{b:Bool}(r:RepW K Z H A v d)(e:isNon d=some b):decide (v=.non)=b:=by
 rcases r with r | ⟨p,vs,ds,e1,e2,e3,e4,e5⟩
 ·cases r <;> cases e <;> rfl
 ·subst e1 e2;cases e;rfl
theorem op_is_bl:OpR X (compareOp .Is) (fun x y H Q=>∃ i j,x=.bl i∧y=.bl j∧Q (.bl (i == j)) H):=fun pins s σ H x y v u Q I rx ry zeS=>by
 obtain⟨i,j,e1,e2,q⟩:=zeS
 subst e1 e2;cases rx;cases ry
 exact is_bool ⟨.bl _,H,I,rfl,q⟩
theorem op_isnot_bl:OpR X (compareOp .IsNot) (fun x y H Q=>∃ i j,x=.bl i∧y=.bl j∧Q (.bl (!(i == j))) H):=fun pins s σ H x y v u Q I rx ry zeT=>by
 obtain⟨i,j,e1,e2,q⟩:=zeT
 subst e1 e2;cases rx;cases ry
 exact isnot_bool ⟨.bl _,H,I,rfl,q⟩
theorem dis:DOp X (compareOp .Is) gIs:=DOp.of (op_is_bl.or zdS) fun Z A H st x y dx dy d Q S hA rx ry e q=>by
 unfold gIs at e
 split at e
 ·refine mpp1 e fun b e1 e=>?_
  subst e
  exact .inr ⟨ry.none,by rw[RepW.isNon rx e1];exact q _ H (Ext.refl H) S (.bl _)⟩
 ·split at e
  ·cases e
   exact .inl ⟨_,_,rx.bool,ry.bool,q _ H (Ext.refl H) S (.bl _)⟩
  ·cases e
 ·cases e
theorem disnot:DOp X (compareOp .IsNot) gIsNot:=DOp.of (op_isnot_bl.or zco) fun Z A H st x y dx dy d Q S hA rx ry e q=>by
 unfold gIsNot at e
 split at e
 ·refine mpp1 e fun b e1 e=>?_
  subst e
  exact .inr ⟨ry.none,by rw[RepW.isNon rx e1];exact q _ H (Ext.refl H) S (.bl _)⟩
 ·split at e
  ·cases e
   exact .inl ⟨_,_,rx.bool,ry.bool,q _ H (Ext.refl H) S (.bl _)⟩
  ·cases e
 ·cases e
end
end L3
namespace L3
open PySem L2 PySem.Spec PyProof.Rows
theorem lenS{α:Type}{us:List α}{n:Nat}(h:us.length=n + 1):∃ a t,us=a::t∧t.length=n:=by
 cases us with
 | nil=>cases h
 | cons a t=>exact⟨a,t,rfl,Nat.succ.inj h⟩
theorem len1{α:Type}{us:List α}(h:us.length=1):∃ a0,us=[a0]:=by
 obtain⟨a,t,rfl,h2⟩:=lenS h
 cases List.eq_nil_of_length_eq_zero h2
 exact⟨a,rfl⟩
theorem len2{α:Type}{us:List α}(h:us.length=2):∃ a0 a1,us=[a0,a1]:=by
 obtain⟨a0,t,rfl,h2⟩:=lenS h
 obtain⟨a1,rfl⟩:=len1 h2
 exact⟨a0,a1,rfl⟩
theorem len3{α:Type}{us:List α}(h:us.length=3):∃ a0 a1 a2,us=[a0,a1,a2]:=by
 obtain⟨a0,t,rfl,h2⟩:=lenS h
 obtain⟨a1,a2,rfl⟩:=len2 h2
 exact⟨a0,a1,a2,rfl⟩
theorem len4{α:Type}{us:List α}(h:us.length=4):∃ a0 a1 a2 a3,us=[a0,a1,a2,a3]:=by
 obtain⟨a0,t,rfl,h2⟩:=lenS h
 obtain⟨a1,a2,a3,rfl⟩:=len3 h2
 exact⟨a0,a1,a2,a3,rfl⟩
theorem len5{α:Type}{us:List α}(h:us.length=5):∃ a0 a1 a2 a3 a4,us=[a0,a1,a2,a3,a4]:=by
 obtain⟨a0,t,rfl,h2⟩:=lenS h
 obtain⟨a1,a2,a3,a4,rfl⟩:=len4 h2
 exact⟨a0,a1,a2,a3,a4,rfl⟩
inductive rD1(K:PySem.W.Frag)(g:G1)(xs:List V)(H:Hp)(Q:VK):Prop
 | mk (Z:Zt) (A:List Addr) (st:Sx) (x:V) (dx:D) (d:D) (h0:xs=[x]) (h1:StateAt Z H st) (h2:(∀ q∈A,∃ o,H q=some o)) (h3:RepW K Z H A x dx) (h4:g dx=some d) (h5:∀ v' H',Ext Z H H'→StateAt Z H' st→Rep K Z H' A v' d→Q v' H')
inductive rD2(K:PySem.W.Frag)(g:G2)(xs:List V)(H:Hp)(Q:VK):Prop
 | mk (Z:Zt) (A:List Addr) (st:Sx) (x:V) (y:V) (dx:D) (dy:D) (d:D) (h0:xs=[x,y]) (h1:StateAt Z H st) (h2:(∀ q∈A,∃ o,H q=some o)) (h3:RepW K Z H A x dx) (h4:RepW K Z H A y dy) (h5:g dx dy=some d) (h6:∀ v' H',Ext Z H H'→StateAt Z H' st→Rep K Z H' A v' d→Q v' H')
section
variable {X:Cx} {e e2:Expr} {es:List Expr} {Fa Fb:FE} {FL:FA} {x:Str} {id T:String} {p pos:Pos} {g:G1} {g2:G2}
theorem CallR.imp{f:Value}{r r':List V→Hp→VK→Prop}(h:CallR X f r)(hi:∀ xs H Q,r' xs H Q→r xs H Q):CallR X f r':=fun pins s σ H xs us Q I rv q=>h pins s σ H xs us Q I rv (hi xs H Q q)
theorem read1{Z:Zt}{A:List Addr}{σ:L2.St}{H:Hp}{Q:VK}(h:tD X Z A (f1 g Fa) σ H Q):tDW X Z A Fa σ H fun x H1=>tNil σ H1 fun xs H2=>rD1 X.K g (x::xs) H2 Q:=by
 obtain⟨B,ow,δ,s,d,s',R,S,e,q⟩:=h
 unfold f1 at e
 first | refine bnd2 e fun dx s1 e1 e=>?_ | refine mpp2 e fun dx s1 e1 e=>?_
 replace e:((g dx).map fun d=>(d,s1))=some (d,s'):=e
 cases e3:g dx with
 | none=>rw[e3]at e;cases e
 | some d' =>
  rw[e3]at e
  cases e
  exact⟨B,ow,δ,s,dx,s',R,S,e1,fun v H1 x1 S1 r1=>⟨Z,_,s',v,dx,d,rfl,S1,(R.mono x1).all,r1,e3,fun v' H' a b c=>q v' H' (x1.trans a) b c⟩⟩
theorem read2{Z:Zt}{A:List Addr}{σ:L2.St}{H:Hp}{Q:VK}(h:tD X Z A (f2 g2 Fa Fb) σ H Q):tDW X Z A Fa σ H fun x H1=>tDW X Z A Fb σ H1 fun y H2=>tNil σ H2 fun xs H3=>rD2 X.K g2 (x::y::xs) H3 Q:=by
 obtain⟨B,ow,δ,s,d,s',R,S,e,q⟩:=h
 unfold f2 at e
 first | refine bnd2 e fun dx s1 e1 e=>?_ | refine mpp2 e fun dx s1 e1 e=>?_
 replace e:((Fb δ s1).bind fun q=>(g2 dx q.1).map fun d=>(d,q.2))=some (d,s'):=e
 first | refine bnd2 e fun dy s2 e2 e=>?_ | refine mpp2 e fun dy s2 e2 e=>?_
 replace e:((g2 dx dy).map fun d=>(d,s2))=some (d,s'):=e
 cases e3:g2 dx dy with
 | none=>rw[e3]at e;cases e
 | some d' =>
  rw[e3]at e
  cases e
  exact⟨B,ow,δ,s,dx,s1,R,S,e1,fun v H1 x1 S1 r1=>⟨B,ow,δ,s1,dy,s',R.mono x1,S1,e2,fun u H2 x2 S2 r2=>⟨Z,_,s',v,u,dx,dy,d,rfl,S2,((R.mono x1).mono x2).all,r1.ext x2,r2,e3,fun v' H' a b c=>q v' H' ((x1.trans x2).trans a) b c⟩⟩⟩
theorem z0O(hc:CallR X (.builtin id) (rD1 X.K g))(hv:bootBuiltins x=some (.builtin id))(hm:X.mg x=none)(ha:DW X e Fa)(hg:Gl X x:=by rfl)(hn:x≠"__name__":=by decide)(hdb:(x == ("__debug__":Str))=false:=by decide)
  (hs:starEach [e] X.env=(false,eval e X.env)::starEach [] X.env:=by rfl):DE X (.Call (.Name x p) [e] [] pos) (f1 g Fa):=⟨fun Z A=>PE.imp (z0Z hc hg hm hv (zy (ha Z A) z0r hs) hn hdb hs rfl) fun σ H Q q=>read1 q⟩
theorem zcM(hc:CallR X (.builtin id) (rD2 X.K g2))(hv:bootBuiltins x=some (.builtin id))(hm:X.mg x=none)(ha:DW X e Fa)(hb:DW X e2 Fb)(hg:Gl X x:=by rfl)(hn:x≠"__name__":=by decide)(hdb:(x == ("__debug__":Str))=false:=by decide)
  (hs:starEach [e,e2] X.env=(false,eval e X.env)::starEach [e2] X.env:=by rfl) (hs2:starEach [e2] X.env=(false,eval e2 X.env)::starEach [] X.env:=by rfl) (hpl:(backTo pos (starEach [e2] X.env)).any (·.1)=false:=by rfl):DE X (.Call (.Name x p) [e,e2] [] pos) (f2 g2 Fa Fb):=⟨fun Z A=>PE.imp (z0Z hc hg hm hv (zy (ha Z A) (zy (hb Z A) z0r hs2) hs) hn hdb hs hpl) fun σ H Q q=>read2 q⟩
theorem z6b(hc:CallR X (.type T) (rD1 X.K g))(hv:bootBuiltins x=some (.type T))(hm:X.mg x=none)(ha:DW X e Fa)(hg:Gl X x:=by rfl)(hn:x≠"__name__":=by decide)(hdb:(x == ("__debug__":Str))=false:=by decide)
  (hs:starEach [e] X.env=(false,eval e X.env)::starEach [] X.env:=by rfl):DE X (.Call (.Name x p) [e] [] pos) (f1 g Fa):=⟨fun Z A=>PE.imp (z50 hc hg hm hv (zy (ha Z A) z0r hs) hn hdb hs rfl) fun σ H Q q=>read1 q⟩
def gLen:G1:=fun d=>match d with | .list xs=>some (.int xs.length) | .tuple xs=>some (.int xs.length) | _=>none
theorem z03:CallR X (.builtin "len") (rD1 X.K gLen):=CallR.imp z4n fun xs H Q zeU=>by
 obtain⟨Z,A,st,x,dx,d,e0,S,hA,rx,e,q⟩:=zeU
 subst e0
 cases dx with
 | list ds=>cases e;obtain⟨p,vs,ev,sq,_,rs⟩:=rx.list;exact⟨p,vs,by rw[ev],.inl sq,by rw[rs.length];exact q _ H (Ext.refl H) S (.int _)⟩
 | tuple ds=>cases e;obtain⟨p,vs,ev,sq,rs⟩:=rx.tuple;exact⟨p,vs,by rw[ev],.inr sq,by rw[rs.length];exact q _ H (Ext.refl H) S (.int _)⟩
 | _=>cases e
def gInt:G1:=fun d=>match d with | .int i=>some (.int i) | .bool k=>some (.int (if k then 1 else 0)) | _=>none
theorem zc1:CallR X (.type "int") (rD1 X.K gInt):=CallR.imp z9o fun xs H Q zeV=>by
 obtain⟨Z,A,st,x,dx,d,e0,S,hA,rx,e,q⟩:=zeV
 subst e0
 cases dx with
 | int i=>cases e;exact .inl ⟨i,by rw[rx.int],q _ H (Ext.refl H) S (.int _)⟩
 | bool i=>cases e;exact .inr ⟨i,by rw[rx.bool],q _ H (Ext.refl H) S (.int _)⟩
 | _=>cases e
def gMin:G2:=gI (fun _ _=>true) fun i j=>.int (if j < i then j else i)
theorem z9M(hc:X.calm=true):CallR X (.builtin "min") (rD2 X.K gMin):=CallR.imp (z9n hc) fun xs H Q zeW=>by
 obtain⟨Z,A,st,x,y,dx,dy,d,e0,S,hA,rx,ry,e,q⟩:=zeW
 subst e0
 unfold gMin gI at e
 split at e
 ·cases e;exact⟨_,_,by rw[rx.int,ry.int],q _ H (Ext.refl H) S (.int _)⟩
 ·cases e
def gTuple:G1:=fun d=>match d with | .list xs=>some (.tuple xs) | .tuple xs=>some (.tuple xs) | _=>none
theorem z3e:CallR X (.type "tuple") (rD1 X.K gTuple):=CallR.imp z68 fun xs H Q zeX=>by
 obtain⟨Z,A,st,x,dx,d,e0,S,hA,rx,e,q⟩:=zeX
 subst e0
 cases dx with
 | list ds =>
  cases e;obtain⟨p,vs,ev,sq,_,rs⟩:=rx.list
  exact⟨p,vs,by rw[ev],.inl ⟨sq,fun l hl=>q _ _ (Ext.upd hl) (S.upd hl) (.tup zq (zO hA hl) (S.notZ hl) (rs.ext (Ext.upd hl)))⟩⟩
 | tuple ds =>
  cases e
  have rx':=rx
  obtain⟨p,vs,ev,sq,rs⟩:=rx.tuple
  subst ev
  refine⟨p,vs,rfl,.inr ⟨sq,q _ H (Ext.refl H) S ?_⟩⟩
  rcases rx' with r | ⟨_,_,_,_,e2,_⟩
  ·exact r
  ·cases e2
 | _=>cases e
def gList:G1:=fun d=>match d with | .list xs=>some (.list xs) | .tuple xs=>some (.list xs) | _=>none
theorem zcN:CallR X (.type "list") (rD1 X.K gList):=CallR.imp z2Q fun xs H Q zeY=>by
 obtain⟨Z,A,st,x,dx,d,e0,S,hA,rx,e,q⟩:=zeY
 subst e0
 cases dx with
 | list ds =>
  cases e;obtain⟨p,vs,ev,sq,_,rs⟩:=rx.list
  exact⟨p,vs,by rw[ev],.inl sq,fun l hl=>q _ _ (Ext.upd hl) (S.upd hl) (.lst zq (zO hA hl) (S.notZ hl) (rs.ext (Ext.upd hl)))⟩
 | tuple ds =>
  cases e;obtain⟨p,vs,ev,sq,rs⟩:=rx.tuple
  exact⟨p,vs,by rw[ev],.inr sq,fun l hl=>q _ _ (Ext.upd hl) (S.upd hl) (.lst zq (zO hA hl) (S.notZ hl) (rs.ext (Ext.upd hl)))⟩
 | _=>cases e
def bools:List D→Option (List Bool)
 | []=>some []
 | .bool k::r=>(bools r).map (k::·)
 | _=>none
def gAll:G1:=fun d=>match d with | .list xs=>(bools xs).map fun ks=>.bool (ks.all (fun b=>b)) | _=>none
theorem z58:∀ {ds:List D} {ks:List Bool},bools ds=some ks→ds=ks.map PyData.bool
 | [],ks,e=>by simp[bools]at e;subst e;rfl
 | d::r,ks,e=>by
  cases d with
  | bool k =>
   simp only[bools,Option.map_eq_some_iff]at e
   obtain⟨ks',h1,rfl⟩:=e
   rw[z58 h1];rfl
  | _=>cases e
theorem z9N(ks:List Bool):(List.range ks.length).all (fun i=>ks.getD i false)=ks.all (fun b=>b):=by
 induction ks with
 | nil=>rfl
 | cons k r ih =>
  rw[List.length_cons,List.range_succ_eq_map,List.all_cons,List.all_map,List.all_cons,← ih]
  congr 1
theorem zc2(hc:X.calm=true):CallR X (.builtin "all") (rD1 X.K gAll):=fun pins s σ H xs us Q I rv zeZ=>by
 obtain⟨Z,A,st,x,dx,d,e0,S,hA,rx,e,q⟩:=zeZ
 subst e0
 obtain⟨u,rfl,ru⟩:=vals1 rv
 cases dx with
 | list ds =>
  replace e:((bools ds).map fun ks=>PyData.bool (ks.all (fun b=>b)))=some d:=e
  first | refine bnd1 e fun ks e1 e=>?_ | refine mpp1 e fun ks e1 e=>?_
  cases e
  have eds:=z58 e1
  subst eds
  obtain⟨p,vs,ev,sq,_,rs⟩:=rx.list
  subst ev
  cases (show u=Value.ref p from ru)
  obtain⟨its,r2,pl,_⟩:=I.list sq
  have hl:=pl.isList
  have lens:its.length=ks.length:=by rw[← r2.length,rs.length,List.length_map]
  refine call_all_walk (wpAny_pyIter_list hl ?_)
  have lt:LT.lt (α:=Nat) p s.heap.objs.size:=by obtain⟨_,e,_⟩:=hl;exact Heap.lt_size e
  refine⟨_,_,_,_,_,_,fun i=>ks.getD i false,rfl,Walks.list (A:=X.A.in1) (show X.A.in1.handled=none from I.ok.hd hc) s.heap.objs.size p (Nat.ne_of_lt lt) its.toArray,⟨⟨_,Heap.get?_push_size _ rfl,rfl,rfl⟩,hl.push _⟩,?_,fun h' tk kp=>?_⟩
  ·intro i v s' Q' E' hP hQ
   have hi:its[i]?=some v:=by simpa using hP
   obtain⟨vv,h1,h2⟩:∃ vv,vs[i]?=some vv∧RelV vv v:=by
    cases e3:vs[i]? with
    | none=>rw[r2.none_of e3]at hi;cases hi
    | some vv=>obtain⟨u',h3,h4⟩:=r2.get e3;rw[h3]at hi;cases hi;exact⟨vv,rfl,h4⟩
   obtain⟨dd,h3,h4⟩:=rs.at h1
   rw[List.getElem?_map]at h3
   cases e4:ks[i]? with
   | none=>rw[e4]at h3;cases h3
   | some k =>
    rw[e4]at h3
    cases h3
    cases h4
    cases h2
    refine wpAny_truthy_bool ?_
    have eg:ks.getD i false=k:=by simp[e4]
    have hQ2:Q' (ks.getD i false) s':=hQ
    rw[eg]at hQ2
    exact hQ2
  ·have e5:(List.range its.toArray.size).all (fun i=>ks.getD i false)=ks.all (fun b=>b):=by rw[List.size_toArray,lens];exact z9N ks
   rw[e5]
   refine⟨.bl _,H,?_,rfl,q _ H (Ext.refl H) S (.bl _)⟩
   refine I.kept (h':=h') (t':=tk) fun b o eb=>kp b o ?_ (Heap.get?_push_of_some _ eb)
   intro z
   have z':b=s.heap.objs.size:=by simpa using z
   rw[z']at eb
   exact Nat.lt_irrefl _ (Heap.lt_size eb)
 | _=>cases e
def tyN:D→Option String
 | .none=>some "NoneType" | .bool _=>some "bool" | .int _=>some "int" | .str _=>some "str" | .list _=>some "list" | .tuple _=>some "tuple" | .dict _=>none
def gInst(T:String):G1:=fun d=>(tyN d).map fun t=>.bool (t == T || (t == "bool" && T == "int"))
def isTy(T:String):Bool:=T == "int" || T == "bool" || T == "str" || T == "list" || T == "tuple"
theorem z5U(K:PySem.W.Frag){t T:String}(ht:t="NoneType"∨t="bool"∨t="int"∨t="str"∨t="list"∨t="tuple")(hT:isTy T=true):PySem.W.kitOne K (.type t) (.type T)=some (t == T || (t == "bool" && T == "int")):=by
 have hT':T="int"∨T="bool"∨T="str"∨T="list"∨T="tuple":=by simpa [isTy,or_assoc] using hT
 rcases hT' with rfl | rfl | rfl | rfl | rfl <;> rcases ht with rfl | rfl | rfl | rfl | rfl | rfl <;> first | rfl | decide +kernel
theorem TypeIs.isinst{pins:List (Addr × Obj)}{σ:L2.St}{H:Hp}{s:Shared}{Z:Zt}{A:List Addr}{v:V}{d:D}{u:Value}{t:String}{Q:Value→Shared→Prop}(I:Inv X pins σ H s)(r:RepW X.K Z H A v d)(ru:RelV v u)(et:tyN d=some t)(hT:isTy T=true)
  (h:∀ tk,Q (.bool (t == T || (t == "bool" && T == "int"))) {s with toks:=tk}):wpAny (model X.prog X.w) X.A (call (.builtin "isinstance") [u,.type T]) Q X.xe s:=by
 cases d with
 | none=>cases et;cases r.none;cases ru;exact PySem.W.kia_one PySem.W.kitx_none I.kIn True.intro (z5U X.K (by simp) hT) (fun z=>nomatch z) h
 | bool b=>cases et;cases r.bool;cases ru;exact PySem.W.kia_one PySem.W.kitx_bool I.kIn True.intro (z5U X.K (by simp) hT) (fun z=>nomatch z) h
 | int b=>cases et;cases r.int;obtain⟨t,rfl⟩:=ru;exact PySem.W.kia_one PySem.W.kitx_int I.kIn True.intro (z5U X.K (by simp) hT) (fun z=>nomatch z) h
 | str b=>cases et;cases r.str;obtain⟨t,rfl⟩:=ru;exact PySem.W.kia_one PySem.W.kitx_str I.kIn True.intro (z5U X.K (by simp) hT) (fun z=>nomatch z) h
 | list ds =>
  cases et
  obtain⟨p,vs,rfl,sq,_,rs⟩:=r.list
  cases ru
  obtain⟨its,r2,pl,_⟩:=I.list sq
  obtain⟨o,e1,e2,_⟩:=pl.isList
  exact PySem.W.kia_one PySem.W.kitx_list I.kIn ⟨o,e1,e2⟩ (z5U X.K (by simp) hT) (fun z=>nomatch z) h
 | tuple ds =>
  cases et
  obtain⟨p,vs,rfl,sq,rs⟩:=r.tuple
  cases ru
  obtain⟨its,r2,⟨o,e1,e2,_⟩,_⟩:=I.tuple sq
  exact PySem.W.kia_one PySem.W.kitx_tuple I.kIn ⟨o,e1,e2⟩ (z5U X.K (by simp) hT) (fun z=>nomatch z) h
 | dict _=>cases et
theorem zcO(hT:isTy T=true):CallR X (.builtin "isinstance") (fun xs H Q=>∃ y,xs=[y,.ty T]∧rD1 X.K (gInst T) [y] H Q):=fun pins s σ H xs us Q I rv zf0=>by
 obtain⟨y,e0,Z,A,st,x,dx,d,e1,S,hA,rx,e,q⟩:=zf0
 subst e0
 cases e1
 obtain⟨u,u2,rfl,ru,ru2⟩:=vals2 rv
 cases ru2
 unfold gInst at e
 first | refine bnd1 e fun t et e=>?_ | refine mpp1 e fun t et e=>?_
 cases e
 exact TypeIs.isinst I rx ru et hT fun tk=>⟨.bl _,H,I.tok tk,rfl,q _ H (Ext.refl H) S (.bl _)⟩
theorem z10{q:Pos}(hT:isTy T=true)(hv:bootBuiltins x=some (.type T))(hm:X.mg "isinstance"=none)(hm2:X.mg x=none)(ha:DW X e Fa)(hg:Gl X "isinstance":=by rfl)(hg2:Gl X x:=by rfl)
  (hn:x≠"__name__":=by decide) (hdb:(x == ("__debug__":Str))=false:=by decide) (hs:starEach [e,.Name x q] X.env=(false,eval e X.env)::starEach [.Name x q] X.env:=by rfl):DE X (.Call (.Name "isinstance" p) [e,.Name x q] [] pos) (f1 (gInst T) Fa):=⟨fun Z A=>PE.imp (z0Z (zcO hT) hg hm (by first | rfl | decide +kernel) (zy (ha Z A) (zy (z9e (v:=.ty T) hg2 hm2 hv rfl hn hdb) z0r rfl) hs) (by decide) (by decide) hs rfl) fun σ H Q h=>by
  obtain⟨B,ow,δ,s,dx,s1,R,S,e1,q⟩:=read1 h
  exact⟨B,ow,δ,s,dx,s1,R,S,e1,fun v H1 x1 S1 r1=>⟨v,rfl,q v H1 x1 S1 r1⟩⟩⟩
abbrev GF:=List D→Sx→Option (D × Sx)
inductive spD(K:PySem.W.Frag)(g:GF)(vs:List V)(H:Hp)(Q:VK)(_E:XK):Prop
 | mk (Z:Zt) (A:List Addr) (ds:List D) (s:Sx) (d:D) (s':Sx) (h0:Reps K Z H A vs ds) (h1:(∀ q∈A,(∃ o,H q=some o)∧NotZ Z q)) (h2:StateAt Z H s) (h3:g ds s=some (d,s')) (h4:∀ v H',Ext Z H H'→StateAt Z H' s'→Rep K Z H' A v d→Q v H')
def fCall(g:GF)(FL:FA):FE:=fun δ s=>(FL δ s).bind fun p=>g p.1 p.2
theorem z9O{gf:GF}{Z:Zt}{A:List Addr}{σ:L2.St}{H:Hp}{Q:VK}{E:XK}(h:tD X Z A (fCall gf FL) σ H Q):tCall (spD X.K gf) [] E (tDA X Z A FL) σ H Q:=by
 obtain⟨B,ow,δ,s,d,s',R,S,e,q⟩:=h
 unfold fCall at e
 first | refine bnd2 e fun ds s1 e1 e=>?_ | refine mpp2 e fun ds s1 e1 e=>?_
 refine⟨B,ow,δ,s,ds,s1,R,S,e1,fun vs H1 x1 S1 rs=>?_⟩
 show spD X.K gf (vs++[]) H1 Q E
 rw[List.append_nil]
 refine⟨Z,A++ow.map (·.2),ds,s1,d,s',rs,fun q hq=>?_,S1,e,fun v H' a b c=>q v H' (x1.trans a) b c⟩
 refine⟨(R.mono x1).all q hq,?_⟩
 rcases List.mem_append.mp hq with h | h
 ·exact(R.ok q h).2
 ·obtain⟨⟨i,p⟩,hp,rfl⟩:=List.mem_map.mp h
  exact(R.ows i p hp).2.2.1
theorem zcP{gf:GF}{k:Nat}{f:Addr}{fd:FuncData}{ps:List Str}(G:FnOk X.prog X.w X.K X.mg X.base CX0 k f fd ps (spD X.K gf))(hr:Room k X.A)(hm:X.mg x=some (.ref f))(hk:PySem.W.keepIn X.K (.ref f)=true)(hb:Binds X.K fd ps [])
  (ha:DA X (e::es) FL) (hg:Gl X x:=by rfl) (hdb:(x == ("__debug__":Str))=false:=by decide) (he:starEach (e::es) X.env=(false,eval e X.env)::starEach es X.env:=by rfl) (hpl:(backTo pos (starEach es X.env)).any (·.1)=false:=by rfl) :
  DE X (.Call (.Name x p) (e::es) [] pos) (fCall gf FL):=⟨fun Z A=>PE.imp (z66 G hr hg hm hk hb .nil pass0 (ha Z A) hdb he hpl) fun σ H Q q=>z9O q⟩
end
end L3
namespace L3
open PySem L2 PySem.Spec PyProof.Rows
inductive Out where
 | next (δ:Sl) | ret (d:D) | brk (δ:Sl) | cnt (δ:Sl) | own (xs:List D)
abbrev GS:=Sl→Sx→Option (Out × Sx)
def postS(X:Cx)(Z:Zt)(A:List Addr)(ow:Ow)(H:Hp)(s':Sx)(E:Ends):Out→Prop
 | .next δ'=>∀ ow' σ' H',RepS X.K X.H₀ Z A ow' σ' δ' H'→StateAt Z H' s'→Frm Z ow H ow' H'→E.nx σ' H'
 | .ret d=>∀ v H',Ext Z X.H₀ H'→StateAt Z H' s'→Rep X.K Z H' A v d→E.rt v H'
 | .own xs=>∀ p vs H',Ext Z X.H₀ H'→StateAt Z H' s'→X.H₀ p=none→H' p=some (.lst vs)→Reps X.K Z H' (p::A) vs xs→E.rt (.ref p) H'
 | .brk δ'=>∀ ow' σ' H',RepS X.K X.H₀ Z A ow' σ' δ' H'→StateAt Z H' s'→Frm Z ow H ow' H'→E.bk σ' H'
 | .cnt δ'=>∀ ow' σ' H',RepS X.K X.H₀ Z A ow' σ' δ' H'→StateAt Z H' s'→Frm Z ow H ow' H'→E.ct σ' H'
theorem postS.frm{X:Cx}{Z:Zt}{A:List Addr}{ow ow':Ow}{H H':Hp}{s':Sx}{E:Ends}{o:Out}(h:postS X Z A ow H s' E o)(f:Frm Z ow H ow' H'):postS X Z A ow' H' s' E o:=by
 cases o with
 | next δ=>exact fun ow2 σ2 H2 a b c=>h ow2 σ2 H2 a b (f.trans c)
 | ret d=>exact h
 | own d=>exact h
 | brk δ=>exact fun ow2 σ2 H2 a b c=>h ow2 σ2 H2 a b (f.trans c)
 | cnt δ=>exact fun ow2 σ2 H2 a b c=>h ow2 σ2 H2 a b (f.trans c)
inductive tDS(X:Cx)(Z:Zt)(A:List Addr)(G:GS)(E:Ends)(σ:L2.St)(H:Hp):Prop
 | mk (ow:Ow) (δ:Sl) (s:Sx) (o:Out) (s':Sx) (h0:RepS X.K X.H₀ Z A ow σ δ H) (h1:StateAt Z H s) (h2:G δ s=some (o,s')) (h3:postS X Z A ow H s' E o)
structure DS(X:Cx)(st:Stmt)(G:GS):Prop where
 go:∀ Z A,PS X st (tDS X Z A G)
instance {X:Cx} {st:Stmt} {G:GS}:CoeFun (DS X st G) (fun _=>∀ Z A,PS X st (tDS X Z A G)):=⟨fun h=>h.go⟩
structure DSs(X:Cx)(st:List Stmt)(G:GS):Prop where
 go:∀ Z A,PSs X st (tDS X Z A G)
instance {X:Cx} {st:List Stmt} {G:GS}:CoeFun (DSs X st G) (fun _=>∀ Z A,PSs X st (tDS X Z A G)):=⟨fun h=>h.go⟩
def sNext:GS:=fun δ s=>some (.next δ,s)
def sSeq(G1 G2:GS):GS:=fun δ s=>match G1 δ s with | some (.next δ',s')=>G2 δ' s' | r=>r
section
variable {X:Cx} {st:Stmt} {sts body a b:List Stmt} {G G1 G2:GS} {e c:Expr} {F:FE} {Ft:FT} {FL:FA} {pos:Pos}
theorem zW:DSs X [] sNext:=⟨fun Z A=>PSs.imp z4X fun E σ H zf1=>by
 obtain⟨ow,δ,s,o,s',R,S,e,q⟩:=zf1
 cases e
 exact q ow σ H R S .refl⟩
theorem zh(h:DS X st G):DSs X [st] G:=⟨fun Z A=>z47 (h Z A)⟩
theorem dss_cons(h1:DS X st G1)(h2:DSs X sts G2):DSs X (st::sts) (sSeq G1 G2):=⟨fun Z A=>PSs.imp (z0b (h1 Z A) (h2 Z A)) fun E σ H zf2=>by
 obtain⟨ow,δ,s,o,s',R,S,e,q⟩:=zf2
 unfold sSeq at e
 cases e1:G1 δ s with
 | none=>rw[e1]at e;cases e
 | some p =>
  obtain⟨o1,s1⟩:=p
  rw[e1]at e
  cases o1 with
  | next δ1=>exact⟨ow,δ,s,.next δ1,s1,R,S,e1,fun ow' σ' H' R' S' f=>⟨ow',δ1,s1,o,s',R',S',e,q.frm f⟩⟩
  | ret d=>cases e;exact⟨ow,δ,s,_,_,R,S,e1,q⟩
  | own d=>cases e;exact⟨ow,δ,s,_,_,R,S,e1,q⟩
  | brk d=>cases e;exact⟨ow,δ,s,_,_,R,S,e1,q⟩
  | cnt d=>cases e;exact⟨ow,δ,s,_,_,R,S,e1,q⟩⟩
theorem RepS.set{K:PySem.W.Frag}{B:Hp}{Z:Zt}{A:List Addr}{ow:Ow}{σ:L2.St}{δ:Sl}{H:Hp}{i:Nat}{v:V}{d:D}(R:RepS K B Z A ow σ δ H)(r:Rep K Z H (A++ow.map (·.2)) v d) :
  RepS K B Z A (ow.filter fun p=>decide (p.1≠i)) (σ.set i (some v)) (δ.set i (.val d)) H∧Frm Z ow H (ow.filter fun p=>decide (p.1≠i)) H:=by
 have sub:∀ q∈A++(ow.filter fun p=>decide (p.1≠i)).map (·.2),q∈A++ow.map (·.2):=fun q hq=>by
  rcases List.mem_append.mp hq with h | h
  ·exact List.mem_append_left _ h
  ·obtain⟨p,hp,rfl⟩:=List.mem_map.mp h
   exact List.mem_append_right _ (List.mem_map_of_mem (List.mem_filter.mp hp).1)
 refine⟨⟨R.ok,R.ext,by rw[List.length_set,List.length_set];exact R.len,fun j d' h=>?_,fun j xs h=>?_,fun j p h=>R.ows j p (List.mem_filter.mp h).1,fun j k p h1 h2=>R.inj j k p (List.mem_filter.mp h1).1 (List.mem_filter.mp h2).1⟩,fun b o h n m=>⟨h,fun z=>m ?_⟩⟩
 ·by_cases hj:i=j
  ·subst hj
   have hi:i < δ.length:=by
    have:=(List.getElem?_eq_some_iff.mp h).1
    rwa [List.length_set]at this
   rw[List.getElem?_set_self hi]at h
   cases h
   exact⟨v,List.getElem?_set_self (by rw[← R.len];exact hi),r.sub sub⟩
  ·rw[List.getElem?_set_ne hj]at h
   obtain⟨v',h1,h2⟩:=R.val j d' h
   exact⟨v',by rw[List.getElem?_set_ne hj];exact h1,h2.sub sub⟩
 ·by_cases hj:i=j
  ·subst hj
   have hi:i < δ.length:=by
    have:=(List.getElem?_eq_some_iff.mp h).1
    rwa [List.length_set]at this
   rw[List.getElem?_set_self hi]at h
   cases h
  ·rw[List.getElem?_set_ne hj]at h
   obtain⟨p,vs,h1,h2,h3,h4⟩:=R.own j xs h
   exact⟨p,vs,List.mem_filter.mpr ⟨h1,decide_eq_true (Ne.symm hj)⟩,by rw[List.getElem?_set_ne hj];exact h2,h3,h4.sub sub⟩
 ·obtain⟨p,hp,e⟩:=List.mem_map.mp z
  exact List.mem_map.mpr ⟨p,(List.mem_filter.mp hp).1,e⟩
def sSet(i:Nat)(F:FE):GS:=fun δ s=>(F δ s).map fun p=>(.next (δ.set i (.val p.1)),p.2)
theorem ds_set{i:Nat}{x:Str}{pos':Pos}(hN:X.N.Nodup)(he:DE X e F)(hi:X.N[i]?=some x:=by rfl)(hx:Loc X.env.scope x:=by first | exact Or.inl rfl | exact Or.inr rfl)(hs:swapsWith e (some (.Name x pos')) pos.line X.env=pure false:=by rfl)
  (hf:X.fn x=true∨X.env.scope.names.lookup x=some .local:=by first | exact .inl rfl | exact .inr rfl | assumption):DS X (.Assign [.Name x pos'] e pos) (sSet i F):=⟨fun Z A=>PS.imp (z2P hN hi hx (he Z A) hs hf) fun E σ H zf3=>by
 obtain⟨ow,δ,s,o,s',R,S,e,q⟩:=zf3
 unfold sSet at e
 cases e1:F δ s with
 | none=>rw[e1]at e;cases e
 | some p =>
  rw[e1]at e
  cases e
  refine⟨_,ow,δ,s,_,_,R,S,e1,fun v H' x1 S1 r=>?_⟩
  obtain⟨R',f⟩:=(R.mono x1).set (i:=i) r
  exact q _ _ H' R' S1 ((Frm.ext x1).trans f)⟩
def sPar(i j:Nat)(FL:FA):GS:=fun δ s=>(FL δ s).bind fun p=>match p.1 with | [x,y]=>some (.next ((δ.set i (.val x)).set j (.val y)),p.2) | _=>none
theorem z6X{i j:Nat}{x y:Str}{a b:Expr}{px py pt:Pos}{kt k2 pt2}(hN:X.N.Nodup)(hij:i≠j)(ha:DA X [a,b] FL)(hw:swappedStores [.Tuple [.Name x px,.Name y py] kt pt] (.Tuple [a,b] k2 pt2) X.env=pure (some [x,y]))
  (hi:X.N[i]?=some x:=by rfl) (hj:X.N[j]?=some y:=by rfl) (hx:X.env.scope.names.lookup x=some .local:=by rfl) (hy:X.env.scope.names.lookup y=some .local:=by rfl) (hc:X.calm=true:=by rfl)
  (hs:swapsWithSole [.Tuple [.Name x px,.Name y py] kt pt] (.Tuple [a,b] k2 pt2) pos.line X.env=pure false:=by rfl):DS X (.Assign [.Tuple [.Name x px,.Name y py] kt pt] (.Tuple [a,b] k2 pt2) pos) (sPar i j FL):=⟨fun Z A=>PS.imp (zdL hc hN hi hj hij hx hy (ha Z A) hw hs) fun E σ H zf4=>by
  obtain⟨ow,δ,s,o,s',R,S,e,q⟩:=zf4
  unfold sPar at e
  cases e1:FL δ s with
  | none=>rw[e1]at e;cases e
  | some p =>
   obtain⟨ds,s1⟩:=p
   rw[e1]at e
   refine⟨_,ow,δ,s,ds,s1,R,S,e1,fun vs H' x1 S1 rs=>?_⟩
   rcases ds with _ | ⟨dx,_ | ⟨dy,_ | _⟩⟩
   ·cases e
   ·cases e
   ·cases e
    cases rs with
    | cons r1 rs =>
     cases rs with
     | cons r2 rs =>
      cases rs
      obtain⟨R1,f1⟩:=(R.mono x1).set (i:=i) r1
      obtain⟨R2,f2⟩:=R1.set (i:=j) (r2.frm f1)
      exact⟨_,_,rfl,q _ _ H' R2 S1 (((Frm.ext x1).trans f1).trans f2)⟩
   ·cases e⟩
def sRet(F:FE):GS:=fun δ s=>(F δ s).map fun p=>(.ret p.1,p.2)
theorem zC(he:DE X e F):DS X (.Return (some e) pos) (sRet F):=⟨fun Z A=>PS.imp (z6J (he Z A)) fun E σ H zf5=>by
 obtain⟨ow,δ,s,o,s',R,S,e,q⟩:=zf5
 unfold sRet at e
 cases e1:F δ s with
 | none=>rw[e1]at e;cases e
 | some p =>
  rw[e1]at e
  cases e
  exact⟨_,ow,δ,s,_,_,R,S,e1,fun v H' x1 S1 r=>q v H' (R.ext.trans x1) S1 (r.sub fun q hq=>List.mem_append_left _ hq)⟩⟩
def sDrop(F:FE):GS:=fun δ s=>(F δ s).map fun p=>(.next δ,p.2)
theorem z9P(he:DE X e F)(hs:swapsWith e none pos.line X.env=pure false:=by rfl):DS X (.Expr e pos) (sDrop F):=⟨fun Z A=>PS.imp (z64 (he Z A) hs) fun E σ H zf6=>by
 obtain⟨ow,δ,s,o,s',R,S,e,q⟩:=zf6
 unfold sDrop at e
 cases e1:F δ s with
 | none=>rw[e1]at e;cases e
 | some p =>
  rw[e1]at e
  cases e
  exact⟨_,ow,δ,s,_,_,R,S,e1,fun v H' x1 S1 r=>q ow σ H' (R.mono x1) S1 (Frm.ext x1)⟩⟩
def sIf(Ft:FT)(G1 G2:GS):GS:=fun δ s=>(Ft δ s).bind fun p=>if p.1=true then G1 δ p.2 else G2 δ p.2
theorem z1K(hc:DT X c Ft)(ha:DSs X a G1)(hb:DSs X b G2):DS X (.If c a b pos) (sIf Ft G1 G2):=⟨fun Z A=>PS.imp (zcl (hc Z A) (ha Z A) (hb Z A)) fun E σ H zf7=>by
 obtain⟨ow,δ,s,o,s',R,S,e,q⟩:=zf7
 unfold sIf at e
 cases e1:Ft δ s with
 | none=>rw[e1]at e;cases e
 | some p =>
  obtain⟨k,s1⟩:=p
  rw[e1]at e
  refine⟨_,ow,δ,s,k,s1,R,S,e1,fun H1 x1 S1=>?_⟩
  cases k with
  | true=>exact iteT ⟨ow,δ,s1,o,s',R.mono x1,S1,e,q.frm (Frm.ext x1)⟩
  | false=>exact iteF ⟨ow,δ,s1,o,s',R.mono x1,S1,e,q.frm (Frm.ext x1)⟩⟩
def whileN(Ft:FT)(G:GS):Nat→GS
 | 0,_,_=>none
 | n + 1,δ,s=>(Ft δ s).bind fun p=>if p.1=true then (match G δ p.2 with
   | some (.next δ',s')=>whileN Ft G n δ' s'
   | some (.cnt δ',s')=>whileN Ft G n δ' s'
   | some (.brk δ',s')=>some (.next δ',s')
   | some (.ret d,s')=>some (.ret d,s')
   | some (.own d,s')=>some (.own d,s')
   | none=>none) else some (.next δ,p.2)
def fuel:Nat:=1000000000
def sWhile(Ft:FT)(G:GS):GS:=whileN Ft G fuel
theorem z1V(hc:DT X c Ft)(hb:DSs X body G)(hp:PassesOwn (model X.prog X.w) X.A X.env X.xe:=by exact PassesOwn.never):DS X (.While c body [] pos) (sWhile Ft G):=⟨fun Z A=>PS.imp (zaP hp (hc Z A) (hb Z A)) fun E σ H zf8=>by
 obtain⟨ow,δ,s,o,s',R,S,e,q⟩:=zf8
 refine⟨fun n σ H=>∃ ow δ s,RepS X.K X.H₀ Z A ow σ δ H∧StateAt Z H s∧whileN Ft G n δ s=some (o,s')∧postS X Z A ow H s' E o,⟨fuel,ow,δ,s,R,S,e,q⟩,?_⟩
 clear e q S R
 rintro n σ H ⟨ow,δ,s,R,S,e,q⟩
 cases n with
 | zero=>cases e
 | succ n =>
  unfold whileN at e
  cases e1:Ft δ s with
  | none=>rw[e1]at e;cases e
  | some p =>
   obtain⟨k,s1⟩:=p
   rw[e1]at e
   refine⟨_,ow,δ,s,k,s1,R,S,e1,fun H1 x1 S1=>?_⟩
   cases k with
   | false=>cases e;exact iteF (q ow σ H1 (R.mono x1) S1 (Frm.ext x1))
   | true =>
    refine iteT ?_
    refine⟨fun σ' H'=>∃ ow δ s,RepS X.K X.H₀ Z A ow σ' δ H'∧StateAt Z H' s∧whileN Ft G n δ s=some (o,s')∧postS X Z A ow H' s' E o,fun σ' H' h=>⟨n,Nat.lt_succ_self _,h⟩,?_⟩
    replace e:(match G δ s1 with
     | some (.next δ',s')=>whileN Ft G n δ' s'
     | some (.cnt δ',s')=>whileN Ft G n δ' s'
     | some (.brk δ',s')=>some (.next δ',s')
     | some (.ret d,s')=>some (.ret d,s')
     | some (.own d,s')=>some (.own d,s')
     | none=>none)=some (o,s'):=e
    have q1:=q.frm (Frm.ext x1)
    cases e2:G δ s1 with
    | none=>rw[e2]at e;cases e
    | some r =>
     obtain⟨o2,s2⟩:=r
     rw[e2]at e
     refine⟨ow,δ,s1,o2,s2,R.mono x1,S1,e2,?_⟩
     cases o2 with
     | next δ2=>exact fun ow' σ' H' R' S' f=>⟨ow',δ2,s2,R',S',e,q1.frm f⟩
     | cnt δ2=>exact fun ow' σ' H' R' S' f=>⟨ow',δ2,s2,R',S',e,q1.frm f⟩
     | brk δ2=>cases e;exact q1
     | ret d=>cases e;exact q1
     | own d=>cases e;exact q1⟩
theorem zZ{Ft:FT}{G:GS}:∀ {n m:Nat} {δ:Sl} {s:Sx} {r:Out × Sx},whileN Ft G n δ s=some r→n≤m→whileN Ft G m δ s=some r
 | 0,_,_,_,_,h,_=>by cases h
 | n + 1,0,_,_,_,_,h=>absurd h (Nat.not_succ_le_zero _)
 | n + 1,m + 1,δ,s,r,h,hm=>by
  unfold whileN at h ⊢
  cases e1:Ft δ s with
  | none=>rw[e1]at h;cases h
  | some p =>
   rw[e1]at h
   obtain⟨k,s1⟩:=p
   cases k with
   | false=>exact h
   | true =>
    simp only[Option.bind_some,if_true]at h ⊢
    cases e2:G δ s1 with
    | none=>rw[e2]at h;cases h
    | some q =>
     obtain⟨o2,s2⟩:=q
     rw[e2]at h
     cases o2 with
     | next δ2=>exact zZ h (Nat.le_of_succ_le_succ hm)
     | cnt δ2=>exact zZ h (Nat.le_of_succ_le_succ hm)
     | brk δ2=>exact h
     | ret d=>exact h
     | own d=>exact h
def mkFn(n m:Nat)(G:GS):GF:=fun ds s=>if ds.length=n then (match G (ds.map .val++List.replicate m .non) s with
 | some (.ret d,s')=>some (d,s')
 | some (.next _,s')=>some (.none,s')
 | _=>none) else none
theorem z4K{K:PySem.W.Frag}{Z:Zt}{H:Hp}{A:List Addr}{vs:List V}{ds:List D}(r:Reps K Z H A vs ds){m i:Nat}{d:D}(h:(ds.map Ce.val++List.replicate m Ce.non)[i]?=some (.val d)):∃ v,(vs.map some++List.replicate m none)[i]?=some (some v)∧Rep K Z H A v d:=by
 by_cases hi:i < ds.length
 ·rw[List.getElem?_append_left (by simpa using hi),List.getElem?_map]at h
  cases e:ds[i]? with
  | none=>rw[e]at h;cases h
  | some d' =>
   rw[e]at h
   cases h
   obtain⟨v,h1,h2⟩:=r.get e
   exact⟨v,by rw[List.getElem?_append_left (by rw[List.length_map,r.length];exact hi),List.getElem?_map,h1];rfl,h2⟩
 ·rw[List.getElem?_append_right (by simpa using Nat.not_lt.mp hi),List.getElem?_replicate]at h
  split at h <;> cases h
theorem z4L{ds:List D}{m i:Nat}{xs:List D}(h:(ds.map Ce.val++List.replicate m Ce.non)[i]?=some (.own xs)):False:=by
 by_cases hi:i < ds.length
 ·rw[List.getElem?_append_left (by simpa using hi),List.getElem?_map]at h
  cases e:ds[i]? with
  | none=>rw[e]at h;cases h
  | some d'=>rw[e]at h;cases h
 ·rw[List.getElem?_append_right (by simpa using Nat.not_lt.mp hi),List.getElem?_replicate]at h
  split at h <;> cases h
theorem z87{n m:Nat}{G:GS}{ds:List D}{s:Sx}{r:D × Sx}(h:mkFn n m G ds s=some r):ds.length=n:=by
 unfold mkFn at h
 split at h
 ·assumption
 ·cases h
theorem fnD{P:Program}{w:World}{K:PySem.W.Frag}{mg:Str→Option Value}{base:Heap}{x qual:Str}{st:Stmt}{f:Addr}{fd:FuncData}{N ps:List Str}{k m:Nat}{G:GS}(Fn:Fun K x qual st f fd)(S:FnScope N ps (defScope st))(hN:N.length=ps.length + m)
  (hbody:∀ (cdv:Value) (A:Around) (outer:List Env) (s:Shared) (H:Hp) (E:XK),Room k (A.deeper (envOfC qual (defScope st) s.heap.objs.size f cdv))→DSs (cxOf CX0 P w K mg base N qual (defScope st) f cdv A outer s H E).nox (defBody st) G) :
  FnOk P w K mg base CX0 (k + 1) f fd ps (spD K (mkFn ps.length m G)):=by
 refine Fn.ok S (fun vs H Q E zf9=>?_) (fun cdv A outer s H vs Q E hr zfa=>?_)
 ·obtain⟨Z,A,ds,s,d,s',r,_,_,e,_⟩:=zf9
  rw[r.length];exact z87 e
 ·obtain⟨Z,A0,ds,st0,d,st1,r,hA,hS,e,q⟩:=zfa
  have hl:=z87 e
  refine⟨_,hbody cdv A outer s H E hr Z A0,?_⟩
  unfold mkFn at e
  rw[if_pos hl]at e
  have hst:L2.start N vs=vs.map some++List.replicate m none:=by
   unfold L2.start
   rw[hN,r.length,hl,Nat.add_sub_cancel_left]
  rw[hst]
  have R:RepS K H Z A0 [] (vs.map some++List.replicate m none) (ds.map .val++List.replicate m .non) H:={
   ok:=hA
   ext:=Ext.refl H
   len:=by simp[r.length]
   val:=fun i d h=>by
    obtain⟨v,h1,h2⟩:=z4K r h
    exact⟨v,h1,by rw[List.map_nil,List.append_nil];exact h2⟩
   own:=fun i xs h=>(z4L h).elim
   ows:=fun i p h=>nomatch h
   inj:=fun i j p h=>nomatch h}
  cases e1:G (ds.map .val++List.replicate m .non) st0 with
  | none=>rw[e1]at e;cases e
  | some r1 =>
   obtain⟨o,s1⟩:=r1
   rw[e1]at e
   refine⟨[],_,st0,o,s1,R,hS,e1,?_⟩
   cases o with
   | ret d'=>cases e;exact fun v H' a b c=>q v H' a b c
   | next δ'=>cases e;exact fun ow' σ' H' R' S' f=>q .non H' R'.ext S' .non
   | brk δ'=>cases e
   | own d'=>cases e
   | cnt δ'=>cases e
end
end L3
namespace L3
open PySem L2 PySem.Spec PyProof.Rows
def Src(K:PySem.W.Frag)(Z:Zt)(A:List Addr)(ow:Ow)(J:It)(ds:List D)(H:Hp):Prop:=∀ ow' H' st,Frm Z ow H ow' H'→StateAt Z H' st→(∀ q∈A++ow'.map (·.2),∃ o,H' q=some o)→∀ i,
 (∀ d,ds[i]?=some d→J.go i H'∧∀ x H3,J.yld i H' x H3→Ext Z H' H3∧StateAt Z H3 st∧Rep K Z H3 (A++ow'.map (·.2)) x d)∧(ds.length≤i→J.stop i H')
abbrev FI:=Sl→Sx→Option (List D × Sx)
inductive tDIK(K:PySem.W.Frag)(Z:Zt)(A:List Addr)(F:FI)(σ:L2.St)(H:Hp)(R:It→Hp→Prop):Prop
 | mk (B:Hp) (ow:Ow) (δ:Sl) (s:Sx) (ds:List D) (s':Sx) (h0:RepS K B Z A ow σ δ H) (h1:StateAt Z H s) (h2:F δ s=some (ds,s')) (h3:∀ J H',Ext Z H H'→StateAt Z H' s'→Src K Z A ow J ds H'→R J H')
abbrev tDI(X:Cx)(Z:Zt)(A:List Addr)(F:FI):TI:=tDIK X.K Z A F
structure DI(X:Cx)(tg iter:Expr)(F:FI):Prop where
 go:∀ Z A,PI X tg iter (tDI X Z A F)
instance {X:Cx} {tg iter:Expr} {F:FI}:CoeFun (DI X tg iter F) (fun _=>∀ Z A,PI X tg iter (tDI X Z A F)):=⟨fun h=>h.go⟩
theorem PI.imp{X:Cx}{tg iter:Expr}{t t':TI}(h:PI X tg iter t)(hi:∀ σ H R,t' σ H R→t σ H R):PI X tg iter t':=fun pins s σ H R I q=>h pins s σ H R I (hi σ H R q)
def seqOf:D→Option (List D)
 | .list xs=>some xs
 | .tuple xs=>some xs
 | _=>none
def iSeq(F:FE):FI:=fun δ s=>(F δ s).bind fun p=>(seqOf p.1).map fun xs=>(xs,p.2)
section
variable {X:Cx} {tg iter e e2:Expr} {F Fa Fb:FE} {FL:FA} {p pos:Pos}
theorem zb9{K:PySem.W.Frag}{Z:Zt}{A:List Addr}{ow:Ow}{H:Hp}{a:Addr}{vs:List V}{ds:List D}(h:H a=some (.lst vs))(m:¬ a∈A++ow.map (·.2))(n:NotZ Z a)(r:Reps K Z H (A++ow.map (·.2)) vs ds):Src K Z A ow (Itl K a) ds H:=fun ow' H' st f S hA i=>by
 have h':=(z5S h f n m).1
 have r':=r.frm f
 refine⟨fun d hd=>?_,fun hi=>⟨vs,.of h',by rw[r.length];exact hi⟩⟩
 obtain⟨v,h1,h2⟩:=r'.get hd
 exact⟨⟨vs,v,.of h',h1⟩,fun x H3 zfb=>by
  obtain⟨e,y⟩:=zfb
  subst e
  have q:=y vs (.of h')
  rw[h1]at q
  cases q
  exact⟨Ext.refl _,S,h2⟩⟩
theorem z9Q{K:PySem.W.Frag}{Z:Zt}{A:List Addr}{ow:Ow}{H:Hp}{a:Addr}{vs:List V}{ds:List D}(h:∀ ow' H',Frm Z ow H ow' H'→SqT K H' a vs)(r:Reps K Z H (A++ow.map (·.2)) vs ds):Src K Z A ow (Itt K a) ds H:=fun ow' H' st f S hA i=>by
 have h':=h ow' H' f
 have r':=r.frm f
 refine⟨fun d hd=>?_,fun hi=>⟨vs,h',by rw[r.length];exact hi⟩⟩
 obtain⟨v,h1,h2⟩:=r'.get hd
 exact⟨⟨vs,v,h',h1⟩,fun x H3 zfc=>by
  obtain⟨e,y⟩:=zfc
  subst e
  have q:=y vs h'
  rw[h1]at q
  cases q
  exact⟨Ext.refl _,S,h2⟩⟩
theorem ze9{l:Expr}{tl:TE}(hl:PE X l tl):PI X tg l (fun σ H R=>tl σ H fun x H1=>∃ a,x=.ref a∧(((∃ xs,SqL X.K H1 a xs)∧R (Itl X.K a) H1)∨((∃ xs,SqT X.K H1 a xs)∧R (Itt X.K a) H1))):=fun pins s σ H R I h=>by
 refine thn (hl pins s σ H _ I h) fun v s1 zfd=>?_
 obtain⟨x,H1,I1,r1,a,e,q⟩:=zfd
 subst e
 obtain rfl:v=Value.ref a:=r1
 rcases q with ⟨⟨xs,hx⟩,q⟩ | ⟨⟨xs,hx⟩,q⟩
 ·obtain⟨its,rv,pl,_⟩:=I1.list hx
  refine wpAny_pyIter_list pl.isList ?_
  have nf:=I1.hok.fresh (Nat.le_refl s1.heap.objs.size)
  exact⟨_,[s1.heap.objs.size],_,Itl X.K a,H1,rfl,I1.kept (t':=s1.toks) fun b u eb=>Heap.get?_push_of_some _ eb,z9i a _,⟨_,Heap.get?_push_size _ rfl,rfl,rfl⟩,fun b hb=>by
   have eb:b=s1.heap.objs.size:=by simpa using hb
   rw[eb];exact I1.fpOk (Nat.le_refl _) nf,q⟩
 ·obtain⟨its,rv,⟨o,e1,e2,n,e3⟩,_⟩:=I1.tuple hx
  refine wpAny_pyIter_tuple (items:=its.toArray) ⟨o,e1,e2,n,e3⟩ ?_
  have nf:=I1.hok.fresh (Nat.le_refl s1.heap.objs.size)
  exact⟨_,[s1.heap.objs.size],_,Itt X.K a,H1,rfl,I1.kept (t':=s1.toks) fun b u eb=>Heap.get?_push_of_some _ eb,z8E a _,⟨_,Heap.get?_push_size _ rfl,rfl,rfl⟩,fun b hb=>by
   have eb:b=s1.heap.objs.size:=by simpa using hb
   rw[eb];exact I1.fpOk (Nat.le_refl _) nf,q⟩
theorem z5V(h:DE X e F):DI X tg e (iSeq F):=⟨fun Z A=>PI.imp (ze9 (h Z A)) fun σ H R zfe=>by
 obtain⟨B,ow,δ,s,ds,s',RS,S,ee,q⟩:=zfe
 unfold iSeq at ee
 first | refine bnd2 ee fun d s1 e1 ee=>?_ | refine mpp2 ee fun d s1 e1 ee=>?_
 replace ee:((seqOf d).map fun xs=>(xs,s1))=some (ds,s'):=ee
 refine⟨B,ow,δ,s,d,s1,RS,S,e1,fun v H1 x1 S1 r=>?_⟩
 cases r with
 | lst h n z rs=>cases ee;exact⟨_,rfl,.inl ⟨⟨_,.of h⟩,q _ H1 x1 S1 (zb9 h n z rs)⟩⟩
 | tup h n z rs=>cases ee;exact⟨_,rfl,.inr ⟨⟨_,.of h⟩,q _ H1 x1 S1 (z9Q (fun ow' H' f=>.of (z5S h f z n).1) rs)⟩⟩
 | mod h rs=>cases ee;exact⟨_,rfl,.inr ⟨⟨_,.inr h⟩,q _ H1 x1 S1 (z9Q (fun ow' H' f=>.inr h) rs)⟩⟩
 | non=>cases ee
 | bl _=>cases ee
 | int _=>cases ee
 | str _=>cases ee
 | st _=>cases ee
 | obj _ _ _ _ _=>cases ee⟩
def rng(lo:Int)(n:Nat):List D:=(List.range n).map fun(k:Nat)=>.int (lo + (k:Int))
def rOk(i:Int):Bool:=decide (-(2 ^ 62)≤i) && decide (i < 2 ^ 62)
def iRange1(F:FE):FI:=fun δ s=>(F δ s).bind fun p=>match p.1 with | .int j=>if rOk j=true then some (rng 0 j.toNat,p.2) else none | _=>none
def iRange2(Fa Fb:FE):FI:=fun δ s=>(Fa δ s).bind fun p=>(Fb δ p.2).bind fun q=>match p.1,q.1 with | .int i,.int j=>if (rOk i && rOk j)=true then some (rng i (j - i).toNat,q.2) else none | _,_=>none
theorem z9R{K:PySem.W.Frag}{Z:Zt}{A:List Addr}{ow:Ow}{H:Hp}(lo:Int)(n:Nat):Src K Z A ow (Itr lo n) (rng lo n) H:=fun ow' H' st f S hA i=>by
 refine⟨fun d hd=>?_,fun hi=>(show n≤i by simpa [rng] using hi)⟩
 unfold rng at hd
 rw[List.getElem?_map]at hd
 first | refine bnd1 hd fun k e hd=>?_ | refine mpp1 hd fun k e hd=>?_
 cases hd
 have hk:i < n∧k=i:=by
  have h1:=(List.getElem?_eq_some_iff.mp e).1
  rw[List.length_range]at h1
  rw[List.getElem?_range h1]at e
  exact⟨h1,(Option.some.inj e).symm⟩
 obtain⟨h1,rfl⟩:=hk
 exact⟨h1,fun x H3 zff=>by obtain⟨e1,e2⟩:=zff;subst e1 e2;exact⟨Ext.refl _,S,.int _⟩⟩
theorem z0f(hm:X.mg "range"=none)(ha:DE X e F)(hg:Gl X "range":=by rfl)(hs:starEach [e] X.env=[(false,eval e X.env)]:=by rfl):DI X tg (.Call (.Name "range" p) [e] [] pos) (iRange1 F):=⟨fun Z A=>PI.imp (z9j hg hm (zy (ha Z A) z0r hs) hs) fun σ H R zfg=>by
  obtain⟨B,ow,δ,s,ds,s',RS,S,ee,q⟩:=zfg
  unfold iRange1 at ee
  first | refine bnd2 ee fun d s1 e1 ee=>?_ | refine mpp2 ee fun d s1 e1 ee=>?_
  refine⟨B,ow,δ,s,d,s1,RS,S,e1,fun v H1 x1 S1 r=>?_⟩
  cases r with
  | int j =>
   replace ee:(if rOk j=true then some (rng 0 j.toNat,s1) else none)=some (ds,s'):=ee
   split at ee
   ·rename_i hj
    cases ee
    unfold rOk at hj
    rw[Bool.and_eq_true]at hj
    exact⟨j,rfl,of_decide_eq_true hj.1,of_decide_eq_true hj.2,q _ H1 x1 S1 (z9R 0 j.toNat)⟩
   ·cases ee
  | _=>cases ee⟩
theorem z2R(hm:X.mg "range"=none)(ha:DE X e Fa)(hb:DE X e2 Fb)(hg:Gl X "range":=by rfl)(hs:starEach [e,e2] X.env=[(false,eval e X.env),(false,eval e2 X.env)]:=by rfl)(hs2:starEach [e2] X.env=[(false,eval e2 X.env)]:=by rfl) :
  DI X tg (.Call (.Name "range" p) [e,e2] [] pos) (iRange2 Fa Fb):=⟨fun Z A=>PI.imp (z9k hg hm (zy (ha Z A) (zy (hb Z A) z0r hs2) (by rw[hs,hs2])) hs hs2) fun σ H R zfh=>by
  obtain⟨B,ow,δ,s,ds,s',RS,S,ee,q⟩:=zfh
  unfold iRange2 at ee
  first | refine bnd2 ee fun d s1 e1 ee=>?_ | refine mpp2 ee fun d s1 e1 ee=>?_
  replace ee:((Fb δ s1).bind fun q=>match d,q.1 with | .int i,.int j=>if (rOk i && rOk j)=true then some (rng i (j - i).toNat,q.2) else none | _,_=>none)=some (ds,s'):=ee
  first | refine bnd2 ee fun d2 s2 e2 ee=>?_ | refine mpp2 ee fun d2 s2 e2 ee=>?_
  refine⟨B,ow,δ,s,d,s1,RS,S,e1,fun v H1 x1 S1 r=>⟨B,ow,δ,s1,d2,s2,RS.mono x1,S1,e2,fun v2 H2 x2 S2 r2=>?_⟩⟩
  cases r with
  | int i =>
   cases r2 with
   | int j =>
    replace ee:(if (rOk i && rOk j)=true then some (rng i (j - i).toNat,s2) else none)=some (ds,s'):=ee
    split at ee
    ·rename_i hj
     cases ee
     simp only[rOk,Bool.and_eq_true]at hj
     exact⟨i,j,rfl,⟨of_decide_eq_true hj.1.1,of_decide_eq_true hj.1.2,of_decide_eq_true hj.2.1,of_decide_eq_true hj.2.2⟩,q _ H2 (x1.trans x2) S2 (z9R i (j - i).toNat)⟩
    ·cases ee
   | _=>cases ee
  | _=>cases ee⟩
def iZipF(Fa Fb:FE):FI:=fun δ s=>(Fa δ s).bind fun p=>(Fb δ p.2).bind fun q=>(seqOf p.1).bind fun xs=>(seqOf q.1).map fun ys=>((xs.zip ys).map fun z=>.tuple [z.1,z.2],q.2)
theorem z9S{K:PySem.W.Frag}{Z:Zt}{H:Hp}{A:List Addr}{ow:Ow}{v:V}{d:D}{xs:List D}(r:Rep K Z H (A++ow.map (·.2)) v d)(e:seqOf d=some xs) :
  ∃ k a vs,v=.ref a∧SqK k K H a vs∧Reps K Z H (A++ow.map (·.2)) vs xs∧∀ ow' H',Frm Z ow H ow' H'→SqK k K H' a vs:=by
 cases r with
 | lst h n z rs=>cases e;exact⟨true,_,_,rfl,SqL.of h,rs,fun ow' H' f=>SqL.of (z5S h f z n).1⟩
 | tup h n z rs=>cases e;exact⟨false,_,_,rfl,SqT.of h,rs,fun ow' H' f=>SqT.of (z5S h f z n).1⟩
 | mod h rs=>cases e;exact⟨false,_,_,rfl,.inr h,rs,fun ow' H' f=>.inr h⟩
 | non=>cases e
 | bl _=>cases e
 | int _=>cases e
 | str _=>cases e
 | st _=>cases e
 | obj _ _ _ _ _=>cases e
theorem zc3{elts:List Expr}{c:Nat}{tp:Pos}(hm:X.mg "zip"=none)(ha:DE X e Fa)(hb:DE X e2 Fb)(hg:Gl X "zip":=by rfl)(hs:starEach [e,e2] X.env=[(false,eval e X.env),(false,eval e2 X.env)]:=by rfl)(hs2:starEach [e2] X.env=[(false,eval e2 X.env)]:=by rfl) :
  DI X (.Tuple elts c tp) (.Call (.Name "zip" p) [e,e2] [] pos) (iZipF Fa Fb):=⟨fun Z A=>PI.imp (ze5 hg hm (zy (ha Z A) (zy (hb Z A) z0r hs2) (by rw[hs,hs2])) hs hs2) fun σ H R zfi=>by
  obtain⟨B,ow,δ,s,ds,s',RS,S,ee,q⟩:=zfi
  unfold iZipF at ee
  first | refine bnd2 ee fun d s1 e1 ee=>?_ | refine mpp2 ee fun d s1 e1 ee=>?_
  replace ee:((Fb δ s1).bind fun q=>(seqOf d).bind fun xs=>(seqOf q.1).map fun ys=>((xs.zip ys).map fun z=>PyData.tuple [z.1,z.2],q.2))=some (ds,s'):=ee
  first | refine bnd2 ee fun d2 s2 e2 ee=>?_ | refine mpp2 ee fun d2 s2 e2 ee=>?_
  replace ee:((seqOf d).bind fun xs=>(seqOf d2).map fun ys=>((xs.zip ys).map fun z=>PyData.tuple [z.1,z.2],s2))=some (ds,s'):=ee
  first | refine bnd1 ee fun xs e3 ee=>?_ | refine mpp1 ee fun xs e3 ee=>?_
  replace ee:((seqOf d2).map fun ys=>((xs.zip ys).map fun z=>PyData.tuple [z.1,z.2],s2))=some (ds,s'):=ee
  first | refine bnd1 ee fun ys e4 ee=>?_ | refine mpp1 ee fun ys e4 ee=>?_
  cases ee
  refine⟨B,ow,δ,s,d,s1,RS,S,e1,fun v H1 x1 S1 r=>⟨B,ow,δ,s1,d2,s',RS.mono x1,S1,e2,fun v2 H2 x2 S2 r2=>?_⟩⟩
  obtain⟨k1,a1,vs1,rfl,sq1,rs1,st1⟩:=z9S (r.ext x2) e3
  obtain⟨k2,a2,vs2,rfl,sq2,rs2,st2⟩:=z9S r2 e4
  refine⟨k1,k2,a1,a2,vs1,vs2,rfl,sq1,sq2,q _ H2 (x1.trans x2) S2 ?_⟩
  intro ow' H' st f S' hA i
  have g1:=st1 ow' H' f
  have g2:=st2 ow' H' f
  refine⟨fun dd hd=>?_,fun hi=>⟨vs1,vs2,g1,g2,?_⟩⟩
  ·rw[List.getElem?_map]at hd
   first | refine bnd1 hd fun z e5 hd=>?_ | refine mpp1 hd fun z e5 hd=>?_
   cases hd
   rw[List.getElem?_zip_eq_some]at e5
   obtain⟨u1,h1,q1⟩:=(rs1.frm f).get e5.1
   obtain⟨u2,h2,q2⟩:=(rs2.frm f).get e5.2
   refine⟨⟨vs1,vs2,u1,u2,g1,g2,h1,h2⟩,fun x H3 zfj=>?_⟩
   obtain⟨p,y1,y2,ex,hp,eH,f1,f2⟩:=zfj
   have z1:=f1 vs1 g1
   have z2:=f2 vs2 g2
   rw[h1]at z1
   rw[h2]at z2
   cases z1
   cases z2
   subst ex eH
   exact⟨Ext.upd hp,S'.upd hp,.tup zq (zO hA hp) (S'.notZ hp) (.cons (q1.ext (Ext.upd hp)) (.cons (q2.ext (Ext.upd hp)) .nil))⟩
  ·rw[rs1.length,rs2.length]
   rw[List.length_map,List.length_zip]at hi
   omega⟩
end
end L3
namespace L3
open PySem L2 PySem.Spec PyProof.Rows
inductive Tgt where
 | one (i:Nat) | tup (is:List Nat) | nest (i:Nat) (js:List Nat)
def Tgt.slots:Tgt→List Nat
 | .one i=>[i]
 | .tup is=>is
 | .nest i js=>i::js
def setD:List Nat→List D→Sl→Sl
 | i::is,d::ds,δ=>setD is ds (δ.set i (.val d))
 | _,_,δ=>δ
def Tgt.run:Tgt→D→Sl→Option Sl
 | .one i,d,δ=>some (δ.set i (.val d))
 | .tup is,.tuple ds,δ=>if ds.length=is.length then some (setD is ds δ) else none
 | .tup is,.list ds,δ=>if ds.length=is.length then some (setD is ds δ) else none
 | .tup _,_,_=>none
 | .nest i js,.tuple [a,b],δ=>(seqOf b).bind fun ds=>if ds.length=js.length then some (setD js ds (δ.set i (.val a))) else none
 | .nest _ _,_,_=>none
def Chg(l:List Nat)(σ σ':L2.St):Prop:=σ'.length=σ.length∧∀ i,¬ i∈l→σ'[i]?=σ[i]?
inductive tDG(K:PySem.W.Frag)(Z:Zt)(A:List Addr)(T:Tgt)(v:V)(σ:L2.St)(H:Hp)(Q:L2.St→Hp→Prop):Prop
 | mk (B:Hp) (ow:Ow) (δ:Sl) (d:D) (δ':Sl) (h0:RepS K B Z A ow σ δ H) (h1:Rep K Z H (A++ow.map (·.2)) v d) (h2:T.run d δ=some δ') (h3:∀ ow' σ',RepS K B Z A ow' σ' δ' H→Frm Z ow H ow' H→Chg T.slots σ σ'→Q σ' H)
structure DG(X:Cx)(tg:Expr)(T:Tgt):Prop where
 go:∀ Z A,PG X tg (tDG X.K Z A T)
instance {X:Cx} {tg:Expr} {T:Tgt}:CoeFun (DG X tg T) (fun _=>∀ Z A,PG X tg (tDG X.K Z A T)):=⟨fun h=>h.go⟩
theorem PG.imp{X:Cx}{tg:Expr}{t t':TG}(h:PG X tg t)(hi:∀ v σ H Q,t' v σ H Q→t v σ H Q):PG X tg t':=fun pins s σ H v u Q I r q=>h pins s σ H v u Q I r (hi v σ H Q q)
theorem RepS.setAll{K:PySem.W.Frag}{B:Hp}{Z:Zt}{A:List Addr}{H:Hp}:∀ {is:List Nat} {vs:List V} {ds:List D} {ow:Ow} {σ:L2.St} {δ:Sl},RepS K B Z A ow σ δ H→Reps K Z H (A++ow.map (·.2)) vs ds→ds.length=is.length →
  ∀ {es:List Expr} {X:Cx} (Q:L2.St→Hp→Prop),True→True→(∀ ow' σ',RepS K B Z A ow' σ' (setD is ds δ) H→Frm Z ow H ow' H→Chg is σ σ'→σ'=(is.zip vs).foldl (fun σ p=>σ.set p.1 (some p.2)) σ→Q σ' H)→Q ((is.zip vs).foldl (fun σ p=>σ.set p.1 (some p.2)) σ) H
 | [],vs,ds,ow,σ,δ,R,rs,hl,es,X,Q,_,_,h=>by
  have e:ds=[]:=List.eq_nil_of_length_eq_zero hl
  subst e
  exact h ow σ R .refl ⟨rfl,fun _ _=>rfl⟩ rfl
 | i::is,vs,d::ds,ow,σ,δ,R,rs,hl,es,X,Q,_,_,h=>by
  cases rs with
  | @cons v _ vs' _ r rs =>
   obtain⟨R1,f1⟩:=R.set (i:=i) r
   refine RepS.setAll (X:=X) (es:=es) R1 (rs.frm f1) (by simpa using hl) Q trivial trivial fun ow' σ' R2 f2 c2 e2=>?_
   refine h ow' σ' R2 (f1.trans f2) ⟨by rw[c2.1,List.length_set],fun j hj=>?_⟩ e2
   have hj':¬ j=i∧¬ j∈is:=by simpa using hj
   rw[c2.2 j hj'.2,List.getElem?_set_ne (Ne.symm hj'.1)]
 | _::_,_,[],_,_,_,_,_,hl,_,_,_,_,_,_=>by simp at hl
section
variable {X:Cx} {tg iter elt e:Expr} {es:List Expr} {T:Tgt} {F:FE} {Fi:FI} {Ft:FT} {G:GS} {body:List Stmt} {pos:Pos}
theorem zS{i:Nat}{x:Str}(hN:X.N.Nodup)(hi:X.N[i]?=some x:=by rfl)(hx:Loc X.env.scope x:=by first | exact Or.inl rfl | exact Or.inr rfl)(hf:X.fn x=true∨X.env.scope.names.lookup x=some .local:=by first | exact .inl rfl | exact .inr rfl | assumption) :
  DG X (.Name x pos) (.one i):=⟨fun Z A=>PG.imp (z7v hN hi hx hf) fun v σ H Q zfk=>by
 obtain⟨B,ow,δ,d,δ',R,r,e,q⟩:=zfk
 cases e
 obtain⟨R1,f1⟩:=R.set (i:=i) r
 exact q _ _ R1 f1 ⟨List.length_set,fun j hj=>List.getElem?_set_ne (by simpa using Ne.symm (show ¬ j=i by simpa [Tgt.slots] using hj))⟩⟩
def gSlots:List Nat→TGs
 | []=>gNil
 | i::is=>gCons (gName i) (gSlots is)
theorem z59:∀ {is:List Nat} {vs:List V} {σ:L2.St} {H:Hp} {Q:L2.St→Hp→Prop},vs.length=is.length→Q ((is.zip vs).foldl (fun σ p=>σ.set p.1 (some p.2)) σ) H→gSlots is vs σ H Q
 | [],vs,σ,H,Q,hl,q=>⟨List.eq_nil_of_length_eq_zero hl,by have e:=List.eq_nil_of_length_eq_zero hl;subst e;exact q⟩
 | i::is,v::vs,σ,H,Q,hl,q=>⟨v,vs,rfl,z59 (by simpa using hl) q⟩
 | _::_,[],_,_,_,hl,_=>by simp at hl
theorem z2S:PGs X [] (gSlots []):=z9g
theorem z0c{i:Nat}{is:List Nat}{x:Str}(hN:X.N.Nodup)(h2:PGs X es (gSlots is))(hi:X.N[i]?=some x:=by rfl)(hx:Loc X.env.scope x:=by first | exact Or.inl rfl | exact Or.inr rfl)(hf:X.fn x=true∨X.env.scope.names.lookup x=some .local:=by first | exact .inl rfl | exact .inr rfl | assumption)
  (hs:(assignEach (.Name x pos::es) X.env).map (·.2)=assign (.Name x pos) X.env::(assignEach es X.env).map (·.2):=by rfl):PGs X (.Name x pos::es) (gSlots (i::is)):=z65 (z7v hN hi hx hf) h2 hs
theorem z4p{is:List Nat}{k:Nat}(h:PGs X es (gSlots is))(hn:(assignEach es X.env).length=is.length:=by rfl)(hst:(assignEach es X.env).findIdx? (·.1)=none:=by rfl)(hc:X.calm=true:=by rfl):DG X (.Tuple es k pos) (.tup is):=⟨fun Z A=>PG.imp (zcI hc h hn hst) fun v σ H Q zfl=>by
  obtain⟨B,ow,δ,d,δ',R,r,e,q⟩:=zfl
  cases d with
  | tuple ds =>
   replace e:(if ds.length=is.length then some (setD is ds δ) else none)=some δ':=e
   split at e
   ·rename_i hl
    cases e
    obtain⟨p,vs,rfl,sq,rs⟩:=r.w.tuple
    refine⟨p,vs,rfl,.inl sq,by rw[rs.length];exact hl,z59 (by rw[rs.length];exact hl) ?_⟩
    exact RepS.setAll (X:=X) (es:=es) R rs hl Q trivial trivial fun ow' σ' R' f' c' _=>q ow' σ' R' f' c'
   ·cases e
  | list ds =>
   replace e:(if ds.length=is.length then some (setD is ds δ) else none)=some δ':=e
   split at e
   ·rename_i hl
    cases e
    obtain⟨p,vs,rfl,sq,_,rs⟩:=r.w.list
    refine⟨p,vs,rfl,.inr sq,by rw[rs.length];exact hl,z59 (by rw[rs.length];exact hl) ?_⟩
    exact RepS.setAll (X:=X) (es:=es) R rs hl Q trivial trivial fun ow' σ' R' f' c' _=>q ow' σ' R' f' c'
   ·cases e
  | _=>cases e⟩
def sUnp(T:Tgt)(F:FE):GS:=fun δ s=>(F δ s).bind fun p=>(T.run p.1 δ).map fun δ'=>(.next δ',p.2)
theorem z6Y(he:DE X e F)(hg:DG X tg T)(h1:List.map (·.2) (assignEach [tg] X.env)=[assign tg X.env]:=by rfl)(hs:swapsWithSole [tg] e pos.line X.env=pure false:=by rfl)(hw:swappedStores [tg] e X.env=pure none:=by rfl):DS X (.Assign [tg] e pos) (sUnp T F):=⟨fun Z A=>PS.imp (z9h (he Z A) (hg Z A) hs hw h1) fun E σ H zfm=>by
 obtain⟨ow,δ,s,o,s',R,S,e,q⟩:=zfm
 unfold sUnp at e
 first | refine bnd2 e fun d s1 e1 e=>?_ | refine mpp2 e fun d s1 e1 e=>?_
 replace e:((T.run d δ).map fun δ'=>(Out.next δ',s1))=some (o,s'):=e
 cases e2:T.run d δ with
 | none=>rw[e2]at e;cases e
 | some δ2 =>
  rw[e2]at e
  cases e
  exact⟨_,ow,δ,s,d,s',R,S,e1,fun v H1 x1 S1 r=>⟨_,ow,δ,d,δ2,R.mono x1,r,e2,fun ow' σ' R' f c=>q ow' σ' H1 R' S1 ((Frm.ext x1).trans f)⟩⟩⟩
def forD(T:Tgt)(G:GS):List D→GS
 | [],δ,s=>some (.next δ,s)
 | d::ds,δ,s=>(T.run d δ).bind fun δ1=>match G δ1 s with
  | some (.next δ',s')=>forD T G ds δ' s'
  | some (.cnt δ',s')=>forD T G ds δ' s'
  | some (.brk δ',s')=>some (.next δ',s')
  | some (.ret r,s')=>some (.ret r,s')
  | some (.own r,s')=>some (.own r,s')
  | none=>none
def sFor(Fi:FI)(T:Tgt)(G:GS):GS:=fun δ s=>(Fi δ s).bind fun p=>forD T G p.1 δ p.2
theorem z1W(hi:DI X tg iter Fi)(hg:DG X tg T)(hb:DSs X body G)(hp:PassesOwn (model X.prog X.w) X.A X.env X.xe:=by exact PassesOwn.never)(hc:X.calm=true:=by rfl)(hs:∀ x,foldedSetIterable iter X.env x=pure x:=by intro _;rfl) :
  DS X (.For tg iter body [] pos) (sFor Fi T G):=⟨fun Z A=>PS.imp (zdN hp hc (hi Z A) (hg Z A) (hb Z A) hs) fun E σ H zfn=>by
 obtain⟨ow,δ,s,o,s',R,S,e,q⟩:=zfn
 unfold sFor at e
 first | refine bnd2 e fun ds s1 e1 e=>?_ | refine mpp2 e fun ds s1 e1 e=>?_
 replace e:forD T G ds δ s1=some (o,s'):=e
 refine⟨_,ow,δ,s,ds,s1,R,S,e1,fun J H1 x1 S1 src=>?_⟩
 have q1:=q.frm (Frm.ext x1)
 refine⟨fun i m σ H=>∃ ow' δ s,m=ds.length - i∧i≤ds.length∧RepS X.K X.H₀ Z A ow' σ δ H∧StateAt Z H s∧Frm Z ow H1 ow' H∧forD T G (ds.drop i) δ s=some (o,s')∧postS X Z A ow' H s' E o,
  ⟨ds.length,ow,δ,s1,by simp,Nat.zero_le _,R.mono x1,S1,.refl,by simpa using e,q1⟩,?_⟩
 rintro i m σ2 H2 ⟨ow2,δ2,s2,rfl,hi,R2,S2,f2,e2,q2⟩
 have sr:=src ow2 H2 s2 f2 S2 R2.all i
 by_cases hlt:i < ds.length
 ·have hd:ds[i]?=some ds[i]:=List.getElem?_eq_getElem hlt
  obtain⟨go,yl⟩:=sr.1 _ hd
  rw[List.drop_eq_getElem_cons hlt]at e2
  replace e2:((T.run ds[i] δ2).bind fun δ1=>match G δ1 s2 with
   | some (.next δ',s')=>forD T G (ds.drop (i + 1)) δ' s'
   | some (.cnt δ',s')=>forD T G (ds.drop (i + 1)) δ' s'
   | some (.brk δ',s')=>some (.next δ',s')
   | some (.ret r,s')=>some (.ret r,s')
   | some (.own r,s')=>some (.own r,s')
   | none=>none)=some (o,s'):=e2
  refine .inr ⟨go,fun σ' H'=>∃ ow' δ s,RepS X.K X.H₀ Z A ow' σ' δ H'∧StateAt Z H' s∧Frm Z ow H1 ow' H'∧forD T G (ds.drop (i + 1)) δ s=some (o,s')∧postS X Z A ow' H' s' E o,
   fun σ' H' zfo=>(by obtain⟨ow',δ',s3,a1,a2,a3,a4,a5⟩:=zfo;exact⟨ds.length - (i + 1),by omega,ow',δ',s3,rfl,hlt,a1,a2,a3,a4,a5⟩),fun x H3 y=>?_⟩
  obtain⟨x3,S3,r3⟩:=yl x H3 y
  cases e3:T.run ds[i] δ2 with
  | none=>rw[e3]at e2;cases e2
  | some δ3 =>
   rw[e3]at e2
   replace e2:(match G δ3 s2 with
    | some (.next δ',s')=>forD T G (ds.drop (i + 1)) δ' s'
    | some (.cnt δ',s')=>forD T G (ds.drop (i + 1)) δ' s'
    | some (.brk δ',s')=>some (.next δ',s')
    | some (.ret r,s')=>some (.ret r,s')
    | some (.own r,s')=>some (.own r,s')
    | none=>none)=some (o,s'):=e2
   refine⟨X.H₀,ow2,δ2,ds[i],δ3,R2.mono x3,r3,e3,fun ow4 σ4 R4 f4 _=>?_⟩
   have q4:=(q2.frm (Frm.ext x3)).frm f4
   have f14:Frm Z ow H1 ow4 H3:=(f2.trans (Frm.ext x3)).trans f4
   cases e4:G δ3 s2 with
   | none=>rw[e4]at e2;cases e2
   | some r =>
    obtain⟨o4,s4⟩:=r
    rw[e4]at e2
    refine⟨ow4,δ3,s2,o4,s4,R4,S3,e4,?_⟩
    cases o4 with
    | next δ5=>exact fun ow' σ' H' R' S' f=>⟨ow',δ5,s4,R',S',f14.trans f,e2,q4.frm f⟩
    | cnt δ5=>exact fun ow' σ' H' R' S' f=>⟨ow',δ5,s4,R',S',f14.trans f,e2,q4.frm f⟩
    | brk δ5=>cases e2;exact q4
    | ret d=>cases e2;exact q4
    | own d=>cases e2;exact q4
 ·have hi':i=ds.length:=by omega
  subst hi'
  rw[List.drop_length]at e2
  cases e2
  exact .inl ⟨sr.2 (Nat.le_refl _),q2 ow2 σ2 H2 R2 S2 .refl⟩⟩
def compDl(k:Nat)(fr:List Nat)(δ:Sl):Sl:=List.replicate k .non++fr.map fun j=>match δ[j]? with | some (.val d)=>.val d | _=>.non
def compD(T:Tgt)(Ft:FT)(F:FE)(δc:Sl):List D→Sx→Option (List D × Sx)
 | [],s=>some ([],s)
 | d::ds,s=>(T.run d δc).bind fun δ1=>(Ft δ1 s).bind fun p=>if p.1=true then (F δ1 p.2).bind fun q=>(compD T Ft F δc ds q.2).map fun r=>(q.1::r.1,r.2) else compD T Ft F δc ds p.2
def fTrue:FT:=fun _ s=>some (true,s)
structure DIfs(X:Cx)(ifs:List Expr)(F:FT):Prop where
 go:∀ Z A,PIfs X ifs (tDT X Z A F)
instance {X:Cx} {ifs:List Expr} {F:FT}:CoeFun (DIfs X ifs F) (fun _=>∀ Z A,PIfs X ifs (tDT X Z A F)):=⟨fun h=>h.go⟩
theorem z0H:DIfs X [] fTrue:=⟨fun Z A pins s σ H Q I zfp=>by
 obtain⟨B,ow,δ,st,b,st',R,S,e,q⟩:=zfp
 cases e
 exact zb2 pins s σ H Q I (q H (Ext.refl H) S)⟩
theorem zba(h:DT X e Ft):DIfs X [e] Ft:=⟨fun Z A=>zb3 (h Z A)⟩
def fComp(k:Nat)(fr:List Nat)(Fi:FI)(T:Tgt)(Ft:FT)(F:FE):FO:=fun δ s=>(Fi δ s).bind fun p=>if small p.1=true then compD T Ft F (compDl k fr δ) p.1 p.2 else none
theorem z8W{k:Nat}{fr:List Nat}{δ:Sl}{i:Nat}{d:D}(h:(compDl k fr δ)[i]?=some (.val d)):∃ t j,i=k + t∧fr[t]?=some j∧δ[j]?=some (.val d):=by
 unfold compDl at h
 by_cases hi:i < k
 ·rw[List.getElem?_append_left (by simpa using hi),List.getElem?_replicate]at h
  split at h <;> cases h
 ·rw[List.getElem?_append_right (by simpa using Nat.not_lt.mp hi),List.length_replicate,List.getElem?_map]at h
  refine⟨i - k,?_⟩
  cases e:fr[i - k]? with
  | none=>rw[e]at h;cases h
  | some j =>
   rw[e]at h
   refine⟨j,by omega,rfl,?_⟩
   simp only[Option.map_some,Option.some.injEq]at h
   split at h
   ·rename_i d' e2
    cases h
    exact e2
   ·cases h
theorem z8X{k:Nat}{fr:List Nat}{δ:Sl}{i:Nat}{xs:List D}(h:(compDl k fr δ)[i]?=some (.own xs)):False:=by
 unfold compDl at h
 by_cases hi:i < k
 ·rw[List.getElem?_append_left (by simpa using hi),List.getElem?_replicate]at h
  split at h <;> cases h
 ·rw[List.getElem?_append_right (by simpa using Nat.not_lt.mp hi),List.length_replicate,List.getElem?_map]at h
  cases e:fr[i - k]? with
  | none=>rw[e]at h;cases h
  | some j =>
   rw[e]at h
   simp only[Option.map_some,Option.some.injEq]at h
   split at h <;> cases h
theorem z6Z{k:Nat}{fr:List Nat}{Z:Zt}{A:List Addr}{ow:Ow}{σ:L2.St}{δ:Sl}{B H1:Hp}{s1 s':Sx}{J:It}{ds rs:List D}{Fin:List V→Hp→Prop}(hT:∀ i∈T.slots,i < k)(R:RepS X.K B Z A ow σ δ H1)(S1:StateAt Z H1 s1)(src:Src X.K Z A ow J ds H1)(hsm:small ds=true)
  (e:compD T Ft F (compDl k fr δ) ds s1=some (rs,s')) (fin:∀ ys H2,Ext Z H1 H2→StateAt Z H2 s'→Reps X.K Z H2 (A++ow.map (·.2)) ys rs→ys.length≤sizeLine→Fin ys H2) :
  CompW J (tDG X.K Z (A++ow.map (·.2)) T) (tDT X Z (A++ow.map (·.2)) Ft) (tD X Z (A++ow.map (·.2)) F) (compSt k fr σ) H1 Fin:=by
 have hd0:ds.length≤sizeLine:=of_decide_eq_true hsm
 have RY:∀ {H2:Hp},Ext Z H1 H2→RepS X.K H1 Z (A++ow.map (·.2)) [] (compSt k fr σ) (compDl k fr δ) H2:=fun{H2} x=>{
  ok:=fun q hq=>by
   refine⟨(R.mono x).all q hq,?_⟩
   rcases List.mem_append.mp hq with h | h
   ·exact(R.ok q h).2
   ·obtain⟨⟨i,p⟩,hp,rfl⟩:=List.mem_map.mp h
    exact(R.ows i p hp).2.2.1
  ext:=x
  len:=by simp[compDl,compSt]
  val:=fun i d h=>by
   obtain⟨t,j,rfl,h1,h2⟩:=z8W h
   obtain⟨v,h3,h4⟩:=(R.mono x).val j d h2
   refine⟨v,?_,by rw[List.map_nil,List.append_nil];exact h4⟩
   unfold compSt
   rw[List.getElem?_append_right (by simp),List.length_replicate,Nat.add_sub_cancel_left,List.getElem?_map,h1]
   show some ((σ[j]?).getD none)=_
   rw[h3];rfl
  own:=fun i xs h=>(z8X h).elim
  ows:=fun i p h=>nomatch h
  inj:=fun i j p h=>nomatch h}
 refine⟨fun i m ys H2=>∃ s2 r1 r2,m=ds.length - i∧i≤ds.length∧ys.length≤i∧Ext Z H1 H2∧StateAt Z H2 s2∧Reps X.K Z H2 (A++ow.map (·.2)) ys r1∧rs=r1++r2∧compD T Ft F (compDl k fr δ) (ds.drop i) s2=some (r2,s'),
  ⟨ds.length,s1,[],rs,by simp,Nat.zero_le _,Nat.le_refl _,Ext.refl _,S1,.nil,rfl,by simpa using e⟩,?_⟩
 rintro i m ys H2 ⟨s2,r1,r2,rfl,hi,hy,x2,S2,rep,rfl,e2⟩
 have sr:=src ow H2 s2 (Frm.ext x2) S2 (R.mono x2).all i
 by_cases hlt:i < ds.length
 ·have hd:ds[i]?=some ds[i]:=List.getElem?_eq_getElem hlt
  obtain⟨go,yl⟩:=sr.1 _ hd
  rw[List.drop_eq_getElem_cons hlt]at e2
  replace e2:((T.run ds[i] (compDl k fr δ)).bind fun δ1=>(Ft δ1 s2).bind fun p=>if p.1=true then (F δ1 p.2).bind fun q=>(compD T Ft F (compDl k fr δ) (ds.drop (i + 1)) q.2).map fun r=>(q.1::r.1,r.2) else compD T Ft F (compDl k fr δ) (ds.drop (i + 1)) p.2)=some (r2,s'):=e2
  refine .inr ⟨go,by omega,fun x H3 y=>?_⟩
  obtain⟨x3,S3,r3⟩:=yl x H3 y
  cases e3:T.run ds[i] (compDl k fr δ) with
  | none=>rw[e3]at e2;cases e2
  | some δ3 =>
   rw[e3]at e2
   replace e2:((Ft δ3 s2).bind fun p=>if p.1=true then (F δ3 p.2).bind fun q=>(compD T Ft F (compDl k fr δ) (ds.drop (i + 1)) q.2).map fun r=>(q.1::r.1,r.2) else compD T Ft F (compDl k fr δ) (ds.drop (i + 1)) p.2)=some (r2,s'):=e2
   refine⟨H1,[],compDl k fr δ,ds[i],δ3,RY (x2.trans x3),by rw[List.map_nil,List.append_nil];exact r3,e3,fun ow4 σ4 R4 f4 c4=>⟨⟨c4.1,fun j v hj=>?_⟩,?_⟩⟩
   ·by_cases hs:j∈T.slots
    ·rw[z5R (hT j hs)]at hj;cases hj
    ·rw[c4.2 j hs];exact hj
   ·cases e4:Ft δ3 s2 with
    | none=>rw[e4]at e2;cases e2
    | some p =>
     obtain⟨b,s4⟩:=p
     rw[e4]at e2
     refine⟨H1,ow4,δ3,s2,b,s4,R4,S3,e4,fun H5 x5 S5=>?_⟩
     cases b with
     | false =>
      replace e2:compD T Ft F (compDl k fr δ) (ds.drop (i + 1)) s4=some (r2,s'):=e2
      exact iteF ⟨ds.length - (i + 1),by omega,s4,r1,r2,rfl,hlt,by omega,(x2.trans x3).trans x5,S5,rep.ext (x3.trans x5),rfl,e2⟩
     | true =>
      replace e2:((F δ3 s4).bind fun q=>(compD T Ft F (compDl k fr δ) (ds.drop (i + 1)) q.2).map fun r=>(q.1::r.1,r.2))=some (r2,s'):=e2
      refine iteT ?_
      first | refine bnd2 e2 fun dy s5 e5 e2=>?_ | refine mpp2 e2 fun dy s5 e5 e2=>?_
      replace e2:((compD T Ft F (compDl k fr δ) (ds.drop (i + 1)) s5).map fun r=>(dy::r.1,r.2))=some (r2,s'):=e2
      first | refine bnd1 e2 fun r e6 e2=>?_ | refine mpp1 e2 fun r e6 e2=>?_
      cases e2
      refine⟨H1,ow4,δ3,s4,dy,s5,R4.mono x5,S5,e5,fun yv H6 x6 S6 ry=>⟨ds.length - (i + 1),by omega,s5,r1++[dy],r.1,rfl,hlt,by rw[List.length_append,List.length_singleton];omega,((x2.trans x3).trans x5).trans x6,S6,?_,by simp,e6⟩⟩
      exact(rep.ext ((x3.trans x5).trans x6)).append (.cons (ry.sub fun q hq=>List.mem_append_left _ hq) .nil)
 ·have hi':i=ds.length:=by omega
  subst hi'
  rw[List.drop_length]at e2
  cases e2
  exact .inl ⟨sr.2 (Nat.le_refl _),fin ys H2 x2 S2 (by rw[List.append_nil];exact rep) (Nat.le_trans hy hd0)⟩
theorem z8Y{Z:Zt}{H:Hp}{A:List Addr}{p:Addr}{o:HO}(hp:H p=none):∀ q u,H q=some u→¬ q∈A→NotZ Z q→upd H p o q=some u∧¬ q∈p::A:=fun q u h n _ =>
 ⟨by rw[zj (zm h hp)];exact h,fun m=>(List.mem_cons.mp m).elim (fun e=>zm h hp e) n⟩
theorem Reps.fresh{K:PySem.W.Frag}{Z:Zt}{H:Hp}{A:List Addr}{p:Addr}{o:HO}{vs:List V}{ds:List D}(hp:H p=none)(r:Reps K Z H A vs ds):Reps K Z (upd H p o) (p::A) vs ds:=r.move (z8Y hp)
inductive tDFK(K:PySem.W.Frag)(Z:Zt)(A:List Addr)(F:FO)(σ:L2.St)(H:Hp)(Q:VK):Prop
 | mk (B:Hp) (ow:Ow) (δ:Sl) (s:Sx) (ds:List D) (s':Sx) (h0:RepS K B Z A ow σ δ H) (h1:StateAt Z H s) (h2:F δ s=some (ds,s')) (h3:∀ p vs H',Ext Z H H'→StateAt Z H' s'→H p=none→H' p=some (.lst vs)→Reps K Z H' (p::(A++ow.map (·.2))) vs ds→Q (.ref p) H')
abbrev tDF(X:Cx)(Z:Zt)(A:List Addr)(F:FO):TE:=tDFK X.K Z A F
structure DF(X:Cx)(e:Expr)(F:FO):Prop where
 go:∀ Z A,PE X e (tDF X Z A F)
instance {X:Cx} {e:Expr} {F:FO}:CoeFun (DF X e F) (fun _=>∀ Z A,PE X e (tDF X Z A F)):=⟨fun h=>h.go⟩
theorem DF.de{Fo:FO}(h:DF X e Fo):DE X e (asL Fo):=⟨fun Z A=>PE.imp (h Z A) fun σ H Q zfq=>by
 obtain⟨B,ow,δ,s,d,s',R,S,ee,q⟩:=zfq
 unfold asL at ee
 first | refine bnd1 ee fun p e1 ee=>?_ | refine mpp1 ee fun p e1 ee=>?_
 cases ee
 exact⟨B,ow,δ,s,p.1,p.2,R,S,e1,fun p vs H' x1 S1 n h r=>q _ H' x1 S1 (.lst h (zO R.all n) (S.notZ n) (r.sub fun q hq=>List.mem_cons_of_mem _ hq))⟩⟩
theorem z1S{k:Nat}{fr:List Nat}{scope:Scope}{cl:List (Str × Addr)}{N:List Str}{ifs:List Expr}(ok:CompOk X scope cl N k fr)(hT:∀ i∈T.slots,i < k)(hi:DI X tg iter Fi)
  (hg:∀ C s H ex,DG (compCx X scope cl N C s H ex) tg T) (ht:∀ C s H ex,DIfs (compCx X scope cl N C s H ex) ifs Ft) (he:∀ C s H ex,DE (compCx X scope cl N C s H ex) elt F)
  (hc:X.calm=true:=by rfl) (hs:∀ x,foldedSetIterable iter X.env x=pure x:=by intro _;rfl):DF X (.ListComp elt [⟨tg,iter,ifs,0⟩] scope pos) (fComp k fr Fi T Ft F):=⟨fun Z A pins s σ H Q I zfr=>by
 obtain⟨B,ow,δ,st,ds,st',R,S,e,q⟩:=zfr
 unfold fComp at e
 first | refine bnd2 e fun src s1 e1 e=>?_ | refine mpp2 e fun src s1 e1 e=>?_
 replace e:(if small src=true then compD T Ft F (compDl k fr δ) src s1 else none)=some (ds,st'):=e
 split at e
 ·rename_i hsm
  refine zcE (g:=tDG X.K Z (A++ow.map (·.2)) T) (tt:=tDT X Z (A++ow.map (·.2)) Ft) (te:=tD X Z (A++ow.map (·.2)) F) ok hc (hi Z A) (fun C s H ex=>hg C s H ex Z _) (fun C s H ex=>ht C s H ex Z _) (fun C s H ex=>he C s H ex Z _) hs pins s σ H Q I
   ⟨B,ow,δ,st,src,s1,R,S,e1,fun J H1 x1 S1 sr=>z6Z hT (R.mono x1) S1 sr hsm e fun ys H2 x2 S2 rs hl=>⟨hl,fun p hp=>?_⟩⟩
  have hp1:H p=none:=by
   cases e9:H p with
   | none=>rfl
   | some o =>
    have nz:NotZ Z p:=S2.notZ hp
    rw[(x1.trans x2) p o e9 nz]at hp
    cases hp
  exact q p ys _ ((x1.trans x2).trans (Ext.upd hp)) (S2.upd hp) hp1 zq (rs.fresh hp)
 ·cases e⟩
def sSetL(i:Nat)(F:FO):GS:=fun δ s=>(F δ s).map fun p=>(.next (δ.set i (.val (.list p.1))),p.2)
theorem z7F{i:Nat}{x:Str}{py spos:Pos}{k:Nat}{fr:List Nat}{scope:Scope}{cl:List (Str × Addr)}{N:List Str}{ifs:List Expr}(hN:X.N.Nodup)(ok:CompOk X scope cl N k fr)(hT:∀ i∈T.slots,i < k)(hi:DI X tg iter Fi)
  (hg:∀ C s H ex,DG (compCx X scope cl N C s H ex) tg T) (ht:∀ C s H ex,DIfs (compCx X scope cl N C s H ex) ifs Ft) (he:∀ C s H ex,DE (compCx X scope cl N C s H ex) elt F)
  (hsw:swapsWith (.ListComp elt [⟨tg,iter,ifs,0⟩] scope pos) (some (.Name x py)) spos.line X.env=pure true) (hi':X.N[i]?=some x:=by rfl) (hx:Loc X.env.scope x:=by first | exact Or.inl rfl | exact Or.inr rfl)
  (hc:X.calm=true:=by rfl) (hs:∀ x,foldedSetIterable iter X.env x=pure x:=by intro _;rfl) (hf:X.fn x=true∨X.env.scope.names.lookup x=some .local:=by first | exact .inl rfl | exact .inr rfl | assumption) :
  DS X (.Assign [.Name x py] (.ListComp elt [⟨tg,iter,ifs,0⟩] scope pos) spos) (sSetL i (fComp k fr Fi T Ft F)):=⟨fun Z A pins s σ H E I zfs=>by
 obtain⟨ow,δ,st,o,st',R,S,e,q⟩:=zfs
 unfold sSetL at e
 first | refine bnd1 e fun r e0 e=>?_ | refine mpp1 e fun r e0 e=>?_
 cases e
 unfold fComp at e0
 first | refine bnd2 e0 fun src s1 e1 e0=>?_ | refine mpp2 e0 fun src s1 e1 e0=>?_
 replace e0:(if small src=true then compD T Ft F (compDl k fr δ) src s1 else none)=some r:=e0
 split at e0
 ·rename_i hsm
  refine zcF (g:=tDG X.K Z (A++ow.map (·.2)) T) (tt:=tDT X Z (A++ow.map (·.2)) Ft) (te:=tD X Z (A++ow.map (·.2)) F) hN hi' hx ok hc (hi Z A) (fun C s H ex=>hg C s H ex Z _) (fun C s H ex=>ht C s H ex Z _) (fun C s H ex=>he C s H ex Z _) hsw hs hf pins s σ H E I
   ⟨_,ow,δ,st,src,s1,R,S,e1,fun J H1 x1 S1 sr=>z6Z (s':=r.2) (rs:=r.1) hT (R.mono x1) S1 sr hsm e0 fun ys H2 x2 S2 rs hl=>⟨hl,fun p hp=>?_⟩⟩
  have R2:=((R.mono x1).mono x2).mono (Ext.upd (o:=.lst ys) hp)
  obtain⟨R3,f3⟩:=R2.set (i:=i) (v:=.ref p) (d:=.list r.1) (.lst zq (zO ((R.mono x1).mono x2).all hp) (S2.notZ hp) (rs.ext (Ext.upd hp)))
  exact q _ _ _ R3 (S2.upd hp) ((Frm.ext ((x1.trans x2).trans (Ext.upd hp))).trans f3)
 ·cases e0⟩
end
end L3
namespace L3
open PySem L2 PySem.Spec PyProof.Rows
section
variable {X:Cx} {a b e:Expr} {es:List Expr} {F Fa Fb:FE} {FL:FA} {x:Str} {p pos:Pos}
def tru:D→Option Bool
 | .none=>some false | .bool k=>some k | .int i=>some (i != 0) | .list xs=>some (!xs.isEmpty) | .tuple xs=>some (!xs.isEmpty) | _=>none
def asT(F:FE):FT:=fun δ s=>(F δ s).bind fun p=>(tru p.1).map fun k=>(k,p.2)
theorem z4q{K:PySem.W.Frag}{Z:Zt}{H:Hp}{A:List Addr}{vs:List V}{ds:List D}(r:Reps K Z H A vs ds):vs.isEmpty=ds.isEmpty:=by
 cases r <;> rfl
theorem z1X(ha:DW X a F)(he:∀ whole,isTrue a X.env whole=(do let v ← whole;standAt a.pos;holding [v] (truthy v)):=by intro _;rfl):DT X a (asT F):=⟨fun Z A=>PT.imp (zaU (ha Z A) he) fun σ H Q zft=>by
 obtain⟨B,ow,δ,s,k,s',R,S,e,q⟩:=zft
 unfold asT at e
 cases e1:F δ s with
 | none=>rw[e1]at e;cases e
 | some p =>
  obtain⟨d,s1⟩:=p
  rw[e1]at e
  refine⟨B,ow,δ,s,d,s1,R,S,e1,fun v H1 x1 S1 r=>?_⟩
  cases d with
  | none=>cases e;rw[r.none];exact⟨_,rfl,q H1 x1 S1⟩
  | bool i=>cases e;rw[r.bool];exact⟨_,rfl,q H1 x1 S1⟩
  | int i=>cases e;rw[r.int];exact⟨_,rfl,q H1 x1 S1⟩
  | list ds =>
   cases e
   obtain⟨p,vs,rfl,sq,_,rs⟩:=r.list
   exact⟨_,.inl ⟨vs,sq,by rw[z4q rs]⟩,q H1 x1 S1⟩
  | tuple ds =>
   cases e
   obtain⟨p,vs,rfl,sq,rs⟩:=r.tuple
   exact⟨_,.inr (.inl ⟨vs,sq,by rw[z4q rs]⟩),q H1 x1 S1⟩
  | str _=>cases e
  | dict _=>cases e⟩
def gCatL:G2:=fun a b=>match a,b with | .list xs,.list ys=>if small (xs++ys)=true then some (.list (xs++ys)) else none | _,_=>none
theorem RepW.lst{K:PySem.W.Frag}{Z:Zt}{H:Hp}{A:List Addr}{v:V}{ds:List D}(r:RepW K Z H A v (.list ds)):∃ p vs,v=.ref p∧H p=some (.lst vs)∧NotZ Z p∧Reps K Z H A vs ds:=by
 rcases r with r | ⟨p,vs,ds,e1,e2,e3,e4,e5⟩
 ·cases r with
  | lst h n z q=>exact⟨_,_,rfl,h,z,q⟩
 ·cases e2;exact⟨p,vs,e1,e3,e4,e5⟩
theorem dcat:DOp X (binaryOp .Add) gCatL:=DOp.of zbW fun Z A H st x y dx dy d Q S hA rx ry e q=>by
 unfold gCatL at e
 split at e
 ·split at e
  ·rename_i hs
   cases e
   obtain⟨p1,v1,rfl,h1,_,r1⟩:=rx.lst
   obtain⟨p2,v2,rfl,h2,_,r2⟩:=ry.lst
   have hl:=of_decide_eq_true hs
   rw[List.length_append]at hl
   refine⟨p1,p2,v1,v2,rfl,rfl,h1,h2,by rw[r1.length,r2.length];exact hl,fun p hp=>?_⟩
   exact q _ _ (Ext.upd hp) (S.upd hp) (.lst zq (zO hA hp) (S.notZ hp) ((r1.append r2).ext (Ext.upd hp)))
  ·cases e
 ·cases e
def gAdd:G2:=fun a b=>(gAddI a b).or (gCatL a b)
theorem dadd:DOp X (binaryOp .Add) gAdd:=DOp.or dadd_int dcat
theorem z4M{K:PySem.W.Frag}{vs:List V}{H:Hp}{Q:VK}{E:XK}(h:spD K (fun _ _=>none) vs H Q E):False:=by
 obtain⟨_,_,_,_,_,_,_,_,_,e,_⟩:=h
 cases e
inductive Cal(P:Program)(w:World)(K:PySem.W.Frag)(mg:Str→Option Value)(base:Heap)(x:Str)(ps:List Str)(k:Nat)(g:GF):Prop
 | mk (f:Addr) (fd:FuncData) (h0:FnOk P w K mg base CX0 k f fd ps (spD K g)) (h1:mg x=some (.ref f)) (h2:PySem.W.keepIn K (.ref f)=true) (h3:Binds K fd ps [])
theorem zw{gf:GF}{k k':Nat}{ps:List Str}(C:Cal X.prog X.w X.K X.mg X.base x ps k gf)(hr:Room k' X.A)(ha:DA X (e::es) FL)(hk:k≤k':=by decide)(hg:Gl X x:=by rfl)(hdb:(x == ("__debug__":Str))=false:=by decide)
  (he:starEach (e::es) X.env=(false,eval e X.env)::starEach es X.env:=by rfl) (hpl:(backTo pos (starEach es X.env)).any (·.1)=false:=by rfl):DE X (.Call (.Name x p) (e::es) [] pos) (fCall gf FL):=by
 obtain⟨f,fd,G,hm,hk',hb⟩:=C
 exact zcP G (hr.mono hk) hm hk' hb ha hg hdb he hpl
theorem z5a{names:List (Str × NameKind)}{x:Str}{k:NameKind}(h:names.lookup x=some k):∃ y∈names,y.2=k:=by
 induction names with
 | nil=>cases h
 | cons y r ih =>
  rw[List.lookup_cons]at h
  split at h
  ·cases h;exact⟨y,List.mem_cons_self,rfl⟩
  ·obtain⟨z,hz,e⟩:=ih h
   exact⟨z,List.mem_cons_of_mem _ hz,e⟩
theorem compOk0{scope:Scope}{N:List Str}{k:Nat}(kind:scope.kind=.function)(nocell:∀ y∈scope.names,y.2≠.cell)(nofree:∀ y∈scope.names,y.2≠.free)(names:∀ y∈scope.names,y.2=.local→scope.names.lookup y.1=some .local)(len:N.length=k):CompOk X scope [] N k [] where
 kind:=kind
 nocell:=nocell
 names:=names
 clos:=closureFor_none nofree
 sub:=fun x c h=>nomatch h
 has:=fun x h=>by
  have e:(relabel scope X.env).names=scope.names:=by
   unfold relabel
   refine map_eq_self fun y hy=>?_
   obtain⟨n,kk⟩:=y
   have:=nofree _ hy
   cases kk <;> first | rfl | exact absurd rfl this
  rw[e]at h
  rcases h with h | h
  ·obtain⟨y,hy,ey⟩:=z5a h;exact absurd ey (nocell y hy)
  ·obtain⟨y,hy,ey⟩:=z5a h;exact absurd ey (nofree y hy)
 len:=by rw[len];rfl
 free:=fun t j x h=>nomatch h
end
end L3
namespace L3
open PySem L2 PySem.Spec PyProof.Rows
theorem zgH:¬ (("cells":Str)="turn"):=by decide +kernel
theorem zc4:¬ ((Sum.inr ("cells":Str):Key)=Sum.inr ("turn":Str)):=fun e=>zgH (Sum.inr.inj e)
theorem z9T(c:Addr)(t:Int):valV (stDict c t) (Sum.inr "turn":Key)=some (.int t):=by
 unfold stDict
 rw[z4I zc4,z3O rfl]
theorem z6c(c:Addr)(t:Int):valV (stDict c t) (Sum.inr "cells":Key)=some (.ref c):=by
 unfold stDict
 rw[z3O rfl]
theorem zea(c:Addr)(t u:Int):putK (stDict c t) (Sum.inr "turn":Key) (.int u)=stDict c u:=by
 have e:((stDict c t).any fun kv=>decide (kv.1=(Sum.inr "turn":Key)))=true:=by rw[z69,z9T];rfl
 unfold putK
 rw[if_pos e]
 unfold stDict
 simp only[List.map_cons,List.map_nil,if_neg zc4,if_true]
section
variable {X:Cx}
theorem z70:CallR X (.builtin "divmod") (fun xs H Q=>∃ i j,xs=[.int i,.int j]∧divOk i j=true∧∀ p,H p=none→Q (.ref p) (upd H p (.tup [.int (i.fdiv j),.int (i.fmod j)]))):=by
 intro pins s σ H xs us Q I r h
 obtain⟨i,j,rfl,hd,q⟩:=h
 obtain⟨u,w',rfl,⟨t,rfl⟩,⟨t',rfl⟩⟩:=vals2 r
 have hd':(decide (j≠0) && decide (j.natAbs.log2 < 9000))=true:=hd
 rw[Bool.and_eq_true]at hd'
 refine divmod_int (of_decide_eq_true hd'.1) ?_ (.inl (PyProof.noPylong_of_log2 (of_decide_eq_true hd'.2)))
 have hn:H s.heap.objs.size=none:=I.hok.fresh (Nat.le_refl _)
 refine⟨.ref s.heap.objs.size,_,?_,rfl,q _ hn⟩
 refine I.laid (fun b o e=>Heap.get?_push_of_some _ e) (Nat.le_refl _) ⟨by show 2≤sizeLine;decide,[.int (i.fdiv j) s.toks,.int (i.fmod j) (s.toks + 1)],.cons ⟨_,rfl⟩ (.cons ⟨_,rfl⟩ .nil),?_⟩
 exact⟨_,Heap.get?_push_size s.heap rfl,rfl,0,rfl⟩
end
def mix1(cell t:Int):Int:=((cell.fmod 2147483629 + t * t * 7919 + 11) * 48271).fmod 2147483647
def mix2(cell t:Int):Int:=(mix1 cell t * mix1 cell t).fmod 2147483587
def mix(cell t many:Int):Int:=((((mix2 cell t + t * 104729) * 39373).fmod 2147483629).fdiv 64).fmod many
def takeOk(s:Sx)(many:Int):Bool:=decide (0 < many) && decide (many.natAbs.log2 < 9000) && decide (0≤s.2) && decide (s.2 < 1000000) && decide (0 < s.1.length) && decide (s.1.length≤1000)
def plcOf(s:Sx):Nat:=((s.2 + 1).fmod s.1.length).toNat
def celOf(s:Sx):Int:=s.1.getD (plcOf s) 0
def takeF(s:Sx)(many:Int):D × Sx :=
 if 1000000000000000000≤celOf s then (.int ((celOf s).fmod many),(s.1.set (plcOf s) ((celOf s).fdiv many),s.2 + 1))
 else (.int (mix (celOf s) (s.2 + 1) many),(s.1,s.2 + 1))
def z9:GF:=fun ds s=>match ds with
 | [.dict [],.int many]=>if takeOk s many=true then some (takeF s many) else none
 | _=>none
def Good(n:Nat)(s:Sx):Prop:=0 < s.1.length∧s.1.length≤63∧0≤s.2∧s.2 + n < 1000000
theorem Good.mono{n m:Nat}{s:Sx}(h:Good n s)(hm:m≤n):Good m s:=⟨h.1,h.2.1,h.2.2.1,by have:=h.2.2.2;omega⟩
theorem z9U{s:Sx}{many:Int}{n:Nat}(h:Good (n + 1) s)(h1:0 < many)(h2:many < 2 ^ 100):∃ r s',z9 [.dict [],.int many] s=some (.int r,s')∧0≤r∧r < many∧Good n s':=by
 obtain⟨a,b,c,d⟩:=h
 have e:takeOk s many=true:=by
  unfold takeOk
  have:many.natAbs.log2 < 9000:=by
   have hm:many.natAbs≠0:=by omega
   rw[Nat.log2_lt hm]
   calc many.natAbs < 2 ^ 100:=by omega
    _≤2 ^ 9000:=Nat.pow_le_pow_right (by decide) (by decide)
  simp only[Bool.and_eq_true,decide_eq_true_eq]
  exact⟨⟨⟨⟨⟨h1,this⟩,c⟩,by omega⟩,a⟩,by omega⟩
 have e2:z9 [.dict [],.int many] s=some (takeF s many):=by
  show(if takeOk s many=true then some (takeF s many) else none)=_
  rw[if_pos e]
 rw[e2]
 unfold takeF
 split
 ·refine⟨_,_,rfl,?_,?_,?_⟩
  ·rw[Int.fmod_eq_emod_of_nonneg _ (Int.le_of_lt h1)];exact Int.emod_nonneg _ (by omega)
  ·rw[Int.fmod_eq_emod_of_nonneg _ (Int.le_of_lt h1)];exact Int.emod_lt_of_pos _ h1
  ·exact⟨by simpa using a,by simpa using b,by show 0≤s.2 + 1;omega,by show s.2 + 1 + (n:Int) < 1000000;omega⟩
 ·refine⟨_,_,rfl,?_,?_,?_⟩
  ·unfold mix;rw[Int.fmod_eq_emod_of_nonneg _ (Int.le_of_lt h1)];exact Int.emod_nonneg _ (by omega)
  ·unfold mix;rw[Int.fmod_eq_emod_of_nonneg _ (Int.le_of_lt h1)];exact Int.emod_lt_of_pos _ h1
  ·exact⟨a,b,by show 0≤s.2 + 1;omega,by show s.2 + 1 + (n:Int) < 1000000;omega⟩
def Bt(n:Nat)(i:Int):Prop:=i.natAbs < 2 ^ n
theorem Bt.mono{n m:Nat}{i:Int}(h:Bt n i)(hm:n≤m):Bt m i:=Nat.lt_of_lt_of_le h (Nat.pow_le_pow_right (by decide) hm)
theorem Bt.mul{n m:Nat}{i j:Int}(h:Bt n i)(h2:Bt m j):Bt (n + m) (i * j):=by
 unfold Bt at *
 rw[Int.natAbs_mul,Nat.pow_add]
 exact Nat.mul_lt_mul'' h h2
theorem Bt.add{n m:Nat}{i j:Int}(h:Bt n i)(h2:Bt m j):Bt (max n m + 1) (i + j):=by
 have h1':=h.mono (Nat.le_max_left n m)
 have h2':=h2.mono (Nat.le_max_right n m)
 unfold Bt at *
 have:=Int.natAbs_add_le i j
 rw[Nat.pow_succ];omega
theorem Bt.lit{n:Nat}{i:Int}(h:decide (i.natAbs < 2 ^ n)=true):Bt n i:=by unfold Bt;exact of_decide_eq_true h
theorem Bt.fmod{n:Nat}{i j:Int}(hj:0 < j)(h:Bt n j):Bt n (i.fmod j):=by
 unfold Bt at *
 rw[Int.fmod_eq_emod_of_nonneg _ (Int.le_of_lt hj)]
 have:=Int.emod_nonneg i (show j≠0 by omega)
 have:=Int.emod_lt_of_pos i hj
 omega
theorem Bt.ok{n m:Nat}{i j:Int}(h:Bt n i)(h2:Bt m j)(hs:n + m≤134217728):mulOk i j=true:=by
 refine decide_eq_true (Nat.le_trans (Nat.add_le_add ?_ ?_) hs)
 ·exact PySem.intBits_le_iff.mpr h
 ·exact PySem.intBits_le_iff.mpr h2
theorem Bt.div{n:Nat}{i j:Int}(h:Bt n j)(h0:j≠0)(hn:n≤9000):divOk i j=true:=by
 unfold divOk
 simp only[Bool.and_eq_true,decide_eq_true_eq]
 refine⟨h0,?_⟩
 rw[Nat.log2_lt (by omega)]
 exact Nat.lt_of_lt_of_le h (Nat.pow_le_pow_right (by decide) hn)
def z7G:GS:=sSeq (sSet 6 (f2 gModI (f2 gMulI (f2 gAddI (f2 gAddI (f2 gModI (fVar 4) (fC (.int 2147483629))) (f2 gMulI (f2 gMulI (fVar 2) (fVar 2)) (fC (.int 7919)))) (fC (.int 11))) (fC (.int 48271))) (fC (.int 2147483647))))
 (sSeq (sSet 6 (f2 gModI (f2 gMulI (fVar 6) (fVar 6)) (fC (.int 2147483587))))
 (sRet (f2 gModI (f2 gDivI (f2 gModI (f2 gMulI (f2 gAddI (fVar 6) (f2 gMulI (fVar 2) (fC (.int 104729)))) (fC (.int 39373))) (fC (.int 2147483629))) (fC (.int 64))) (fVar 1))))
theorem z9V{cell t many:Int}{s:Sx}(h0:0≤t)(h1:t≤1000000)(hm:0 < many):z7G [.non,.val (.int many),.val (.int t),.non,.val (.int cell),.non,.non] s=some (.ret (.int (mix cell t many)),s):=by
 have b1:Bt 20 t:=by unfold Bt;omega
 have b2:Bt 31 (cell.fmod 2147483629):=Bt.fmod (by decide) (.lit (by decide))
 have b3:Bt 31 (mix1 cell t):=Bt.fmod (by decide) (.lit (by decide))
 have b4:Bt 31 (mix2 cell t):=Bt.fmod (by decide) (.lit (by decide))
 have m1:mulOk t t=true:=b1.ok b1 (by decide)
 have m2:mulOk (t * t) 7919=true:=(b1.mul b1).ok (n:=40) (m:=13) (.lit (by decide)) (by decide)
 have b5:Bt 60 (cell.fmod 2147483629 + t * t * 7919 + 11):=((b2.add ((b1.mul b1).mul (.lit (n:=13) (by decide)))).add (.lit (n:=4) (by decide))).mono (by decide)
 have m3:mulOk (cell.fmod 2147483629 + t * t * 7919 + 11) 48271=true:=b5.ok (m:=16) (.lit (by decide)) (by decide)
 have m4:mulOk (mix1 cell t) (mix1 cell t)=true:=b3.ok b3 (by decide)
 have m5:mulOk t 104729=true:=b1.ok (m:=17) (.lit (by decide)) (by decide)
 have m6:mulOk (mix2 cell t + t * 104729) 39373=true:=(b4.add (b1.mul (.lit (n:=17) (by decide)))).ok (m:=16) (.lit (by decide)) (by decide)
 have d1:divOk (((mix2 cell t + t * 104729) * 39373).fmod 2147483629) 64=true:=Bt.div (n:=7) (.lit (by decide)) (by decide) (by decide)
 have n1:decide (many≠0)=true:=decide_eq_true (by omega)
 have e1:∀ (δ:Sl),δ[4]?=some (.val (.int cell))→δ[2]?=some (.val (.int t))→sSet 6 (f2 gModI (f2 gMulI (f2 gAddI (f2 gAddI (f2 gModI (fVar 4) (fC (.int 2147483629))) (f2 gMulI (f2 gMulI (fVar 2) (fVar 2)) (fC (.int 7919)))) (fC (.int 11))) (fC (.int 48271))) (fC (.int 2147483647))) δ s=some (.next (δ.set 6 (.val (.int (mix1 cell t)))),s):=fun δ h4 h2=>by
  simp[sSet,f2,fVar,fC,h4,h2,gModI,gMulI,gAddI,gI,m1,m2,m3,mix1]
 have e2:∀ (δ:Sl),δ[6]?=some (.val (.int (mix1 cell t)))→sSet 6 (f2 gModI (f2 gMulI (fVar 6) (fVar 6)) (fC (.int 2147483587))) δ s=some (.next (δ.set 6 (.val (.int (mix2 cell t)))),s):=fun δ h6=>by
  simp[sSet,f2,fVar,fC,h6,gModI,gMulI,gI,m4,mix2]
 have e3:∀ (δ:Sl),δ[6]?=some (.val (.int (mix2 cell t)))→δ[2]?=some (.val (.int t))→δ[1]?=some (.val (.int many))→sRet (f2 gModI (f2 gDivI (f2 gModI (f2 gMulI (f2 gAddI (fVar 6) (f2 gMulI (fVar 2) (fC (.int 104729)))) (fC (.int 39373))) (fC (.int 2147483629))) (fC (.int 64))) (fVar 1)) δ s=some (.ret (.int (mix cell t many)),s):=fun δ h6 h2 h1=>by
  have n2:¬ many=0:=by omega
  simp[sRet,f2,fVar,fC,h6,h2,h1,gModI,gMulI,gAddI,gDivI,gI,m5,m6,d1,n2,mix]
 unfold z7G sSeq
 rw[e1 _ rfl rfl]
 show(match sSet 6 _ _ s with | some (.next δ',s')=>_ | r=>r)=_
 rw[e2 _ rfl]
 exact e3 _ rfl rfl rfl
def beginCells(ns:List Int):List Int:=if ns=[] then [7] else ns
def spBegin(K:PySem.W.Frag):Sp:=fun vs H Q _=>∃ a ns,vs=[.ref a]∧SqL K H a (ns.map V.int)∧ns.length≤63 ∧
 ∀ st c H',(∀ b o,H b=some o→H' b=some o)→H' st=some (.dK (stDict c 0))→H' c=some (.lst ((beginCells ns).map V.int))→Q (.ref st) H'
end L3
namespace L3
open PySem L2 PySem.Spec PyProof.Rows
theorem DSs.any{X:Cx}{sts:List Stmt}{G:GS}(h:DSs X sts G):PSs X sts (fun E σ H=>∃ Z A,tDS X Z A G E σ H):=fun pins s σ H D I zfu=>(by obtain⟨Z,A,q⟩:=zfu;exact h Z A pins s σ H D I q)
theorem DS.at0{X:Cx}{st:Stmt}{G:GS}(h:DS X st G):PS X st (tDS X none [] G):=h none []
theorem z71(K:PySem.W.Frag)(Z:Zt)(H:Hp)(A:List Addr):∀ ns:List Int,Reps K Z H A (ns.map V.int) (ns.map PyData.int)
 | []=>.nil
 | n::r=>.cons (.int n) (z71 K Z H A r)
theorem z4r{K:PySem.W.Frag}{Z:Zt}{H:Hp}{A:List Addr}:∀ {ns:List Int} {vs:List V},Reps K Z H A vs (ns.map PyData.int)→vs=ns.map V.int
 | [],_,.nil=>rfl
 | n::r,_,.cons h t=>by cases h;rw[z4r t];rfl
theorem z88:∀ ns:List Int,PyData.canLayAll0 (ns.map PyData.int)=true
 | []=>by simp[PyData.canLayAll0]
 | n::r=>by simp[PyData.canLayAll0,PyData.canLay0,z88 r]
theorem z5W:∀ ns:List Int,PyData.depthAll (ns.map PyData.int)=0
 | []=>by simp[PyData.depthAll]
 | n::r=>by simp[PyData.depthAll,PyData.depth,z5W r]
theorem z7H(ns:List Int):SeqAt.shaped (.list (ns.map PyData.int))=true:=by
 simp[SeqAt.shaped,PyData.canLay0,PyData.depth,z88,z5W]
theorem z8Z:SeqAt.shaped (.list [])=true:=by simp[SeqAt.shaped,PyData.canLay0,PyData.depth,PyData.canLayAll0,PyData.depthAll]
theorem eqv_nil(ns:List Int):PyData.eqv (.list (ns.map PyData.int)) (.list [])=decide (ns=[]):=by
 cases ns <;> simp[PyData.eqv,PyData.eqvAll]
def z7I:GS:=sIf (asB (f2 gEq (fVar 1) (eLst aNil))) (sSet 1 (eLst (aCons (fC (.int 7)) aNil))) sNext
theorem z9W(ns:List Int)(s:Sx)(c:Ce):z7I [c,.val (.list (ns.map PyData.int))] s=some (.next [c,.val (.list ((beginCells ns).map PyData.int))],s):=by
 have e1:small []=true:=by decide
 have e2:small [PyData.int 7]=true:=by decide
 simp only[z7I,sIf,asB,f2,fVar,eLst,aNil,aCons,fC,List.getElem?_cons_succ,List.getElem?_cons_zero,Option.bind_some,Option.map_some,e1,if_true,gEq,z7H,z8Z,Bool.and_self,eqv_nil]
 by_cases h:ns=[]
 ·subst h
  simp[sSet,eLst,aCons,aNil,fC,e2,beginCells]
 ·simp[h,sNext,beginCells]
end L3
namespace L3
open PySem L2 PySem.Spec PyProof.Rows
def spLaw(K:PySem.W.Frag):Sp:=fun vs H Q _=>∃ (a:Addr) (ns:List Int),vs=[.ref a]∧SqL K H a (ns.map V.int)∧ns.length≤63∧∀ H',Q (.bl true) H'
theorem z72(ns:List Int)(h:ns.length≤63):0 < (beginCells ns).length∧(beginCells ns).length≤63:=by
 unfold beginCells
 split
 ·exact⟨by decide,by decide⟩
 ·rename_i hn
  exact⟨by cases ns with | nil=>exact absurd rfl hn | cons a r=>simp,h⟩
end L3
namespace L3
open PySem L2 PySem.Spec PyProof.Rows
theorem z6d{T:Tgt}{G:GS}(I:Nat→Sl→Sx→Prop):∀ (ds:List D) (δ:Sl) (s:Sx),I ds.length δ s →
  (∀ k d δ s,d∈ds→I (k + 1) δ s→∃ δ1 δ' s',T.run d δ=some δ1∧G δ1 s=some (.next δ',s')∧I k δ' s')→∃ δ' s',forD T G ds δ s=some (.next δ',s')∧I 0 δ' s'
 | [],δ,s,h,_=>⟨δ,s,rfl,h⟩
 | d::ds,δ,s,h,step=>by
  obtain⟨δ1,δ2,s2,e1,e2,h2⟩:=step ds.length d δ s List.mem_cons_self h
  obtain⟨δ3,s3,e3,h3⟩:=z6d I ds δ2 s2 h2 fun k d' δ s hd=>step k d' δ s (List.mem_cons_of_mem _ hd)
  refine⟨δ3,s3,?_,h3⟩
  show((T.run d δ).bind fun δ1=>_)=_
  rw[e1]
  show(match G δ1 s with | some (.next δ',s')=>forD T G ds δ' s' | some (.cnt δ',s')=>forD T G ds δ' s' | some (.brk δ',s')=>some (.next δ',s') | some (.ret r,s')=>some (.ret r,s') | some (.own r,s')=>some (.own r,s') | none=>none)=_
  rw[e2]
  exact e3
end L3
namespace L3
open PySem L2 PySem.Spec PyProof.Rows
end L3
namespace L3
open PySem L2 PySem.Spec PyProof.Rows
section
variable {X:Cx} {e:Expr} {Fa F:FE} {x:Str} {p pos apos cpos:Pos}
end
end L3
namespace L3
open PySem L2 PySem.Spec PyProof.Rows
theorem z1d(i j:Int):gEq (.int i) (.int j)=some (.bool (decide (i=j))):=by
 simp[gEq,SeqAt.shaped,PyData.canLay0,PyData.depth,PyData.eqv,Bool.beq_eq_decide_eq]
theorem z7J(i j:Int):gNe (.int i) (.int j)=some (.bool (!decide (i=j))):=by
 simp[gNe,SeqAt.shaped,PyData.canLay0,PyData.depth,PyData.eqv,Bool.beq_eq_decide_eq]
theorem small2(a b:D):small [a,b]=true:=decide_eq_true (by show 2≤sizeLine;decide)
theorem zF{G1 G2:GS}{δ δ':Sl}{s s':Sx}(h:G1 δ s=some (.next δ',s')):sSeq G1 G2 δ s=G2 δ' s':=by unfold sSeq;rw[h]
theorem z3T{G1 G2:GS}{δ:Sl}{d:D}{s s':Sx}(h:G1 δ s=some (.ret d,s')):sSeq G1 G2 δ s=some (.ret d,s'):=by unfold sSeq;rw[h]
end L3
namespace L3
open PySem L2 PySem.Spec PyProof.Rows
section
variable {K:PySem.W.Frag} {B:Hp} {Z:Zt} {A:List Addr} {ow:Ow} {σ:L2.St} {δ:Sl} {H H':Hp} {i:Nat} {p:Addr}
theorem RepS.setOwn{s:Sx}{vs:List V}{ds:List D}(R:RepS K B Z A ow σ δ H)(S:StateAt Z H s)(x:Ext Z H H')(hp:H p=none)(h:H' p=some (.lst vs))(r:Reps K Z H' (p::(A++ow.map (·.2))) vs ds) :
  RepS K B Z A ((i,p)::ow.filter fun q=>decide (q.1≠i)) (σ.set i (some (.ref p))) (δ.set i (.own ds)) H'∧Frm Z ow H ((i,p)::ow.filter fun q=>decide (q.1≠i)) H':=by
 have nz:NotZ Z p:=S.notZ hp
 have bp:B p=none:=by
  cases e:B p with
  | none=>rfl
  | some o=>rw[R.ext p o e nz]at hp;cases hp
 have pA:¬ p∈A:=fun m=>by obtain⟨⟨o,e⟩,_⟩:=R.ok p m;rw[hp]at e;cases e
 have pO:¬ p∈ow.map (·.2):=fun m=>by
  obtain⟨⟨j,q⟩,hq,rfl⟩:=List.mem_map.mp m
  obtain⟨_,⟨o,e⟩,_⟩:=R.ows j q hq
  rw[hp]at e;cases e
 have F:Frm Z ow H ((i,p)::ow.filter fun q=>decide (q.1≠i)) H':=fun b o e n m=>⟨x b o e n,fun z=>by
  rcases List.mem_cons.mp z with z | z
  ·rw[z]at e;simp only at e;rw[hp]at e;cases e
  ·obtain⟨q,hq,e2⟩:=List.mem_map.mp z
   exact m (List.mem_map.mpr ⟨q,(List.mem_filter.mp hq).1,e2⟩)⟩
 refine⟨⟨fun q hq=>⟨let ⟨o,e⟩:=(R.ok q hq).1;⟨o,x q o e (R.ok q hq).2⟩,(R.ok q hq).2⟩,R.ext.trans x,by rw[List.length_set,List.length_set];exact R.len,fun j d' e=>?_,fun j xs e=>?_,fun j q hq=>?_,fun j k q h1 h2=>?_⟩,F⟩
 ·by_cases hj:i=j
  ·subst hj
   have hi:i < δ.length:=by have:=(List.getElem?_eq_some_iff.mp e).1;rwa [List.length_set]at this
   rw[List.getElem?_set_self hi]at e;cases e
  ·rw[List.getElem?_set_ne hj]at e
   obtain⟨v',h1,h2⟩:=R.val j d' e
   exact⟨v',by rw[List.getElem?_set_ne hj];exact h1,h2.frm F⟩
 ·by_cases hj:i=j
  ·subst hj
   have hi:i < δ.length:=by have:=(List.getElem?_eq_some_iff.mp e).1;rwa [List.length_set]at this
   rw[List.getElem?_set_self hi]at e;cases e
   refine⟨p,vs,List.mem_cons_self,List.getElem?_set_self (by rw[← R.len];exact hi),h,r.sub fun q hq=>?_⟩
   rcases List.mem_append.mp hq with hq | hq
   ·exact List.mem_cons_of_mem _ (List.mem_append_left _ hq)
   ·rcases List.mem_cons.mp hq with hq | hq
    ·rw[hq];exact List.mem_cons_self
    ·obtain⟨q',hq',e2⟩:=List.mem_map.mp hq
     exact List.mem_cons_of_mem _ (List.mem_append_right _ (List.mem_map.mpr ⟨q',(List.mem_filter.mp hq').1,e2⟩))
  ·rw[List.getElem?_set_ne hj]at e
   obtain⟨q,ws,h1,h2,h3,h4⟩:=R.own j xs e
   exact⟨q,ws,List.mem_cons_of_mem _ (List.mem_filter.mpr ⟨h1,decide_eq_true (Ne.symm hj)⟩),by rw[List.getElem?_set_ne hj];exact h2,x q _ h3 (R.ows j q h1).2.2.1,h4.frm F⟩
 ·rcases List.mem_cons.mp hq with hq | hq
  ·cases hq;exact⟨bp,⟨_,h⟩,nz,pA⟩
  ·obtain⟨a,⟨o,b⟩,c,d⟩:=R.ows j q (List.mem_filter.mp hq).1
   exact⟨a,⟨o,x q _ b c⟩,c,d⟩
 ·rcases List.mem_cons.mp h1 with h1 | h1 <;> rcases List.mem_cons.mp h2 with h2 | h2
  ·cases h1;cases h2;rfl
  ·cases h1;exact absurd (List.mem_map.mpr ⟨(k,p),(List.mem_filter.mp h2).1,rfl⟩) pO
  ·cases h2;exact absurd (List.mem_map.mpr ⟨(j,p),(List.mem_filter.mp h1).1,rfl⟩) pO
  ·exact R.inj j k q (List.mem_filter.mp h1).1 (List.mem_filter.mp h2).1
theorem RepS.change{vs:List V}{xs ds:List D}(R:RepS K B Z A ow σ δ H)(ho:δ[i]?=some (.own xs))(hi:(i,p)∈ow)(hs:σ[i]?=some (some (.ref p)))(r:Reps K Z H (A++ow.map (·.2)) vs ds) :
  RepS K B Z A ow σ (δ.set i (.own ds)) (upd H p (.lst vs))∧Frm Z ow H ow (upd H p (.lst vs)):=by
 obtain⟨bp,_,nz,pA⟩:=R.ows i p hi
 have F:Frm Z ow H ow (upd H p (.lst vs)):=fun b o e n m=>⟨by
  rw[zj (fun z=>m (by rw[z];exact List.mem_map.mpr ⟨(i,p),hi,rfl⟩))];exact e,m⟩
 refine⟨⟨fun q hq=>⟨?_,(R.ok q hq).2⟩,fun b o e n=>?_,by rw[List.length_set];exact R.len,fun j d' e=>?_,fun j ys e=>?_,fun j q hq=>?_,R.inj⟩,F⟩
 ·obtain⟨o,e⟩:=(R.ok q hq).1
  exact⟨o,by rw[zj (fun z=>pA (by rw[← z];exact hq))];exact e⟩
 ·have:b≠p:=fun z=>by rw[z,bp]at e;cases e
  rw[zj this];exact R.ext b o e n
 ·by_cases hj:i=j
  ·subst hj
   rw[List.getElem?_set_self (List.getElem?_eq_some_iff.mp ho).1]at e;cases e
  ·rw[List.getElem?_set_ne hj]at e
   obtain⟨v',h1,h2⟩:=R.val j d' e
   exact⟨v',h1,h2.frm F⟩
 ·by_cases hj:i=j
  ·subst hj
   rw[List.getElem?_set_self (List.getElem?_eq_some_iff.mp ho).1]at e;cases e
   exact⟨p,vs,hi,hs,zq,r.frm F⟩
  ·rw[List.getElem?_set_ne hj]at e
   obtain⟨q,ws,h1,h2,h3,h4⟩:=R.own j ys e
   have:q≠p:=fun z=>hj (R.inj i j p hi (z ▸ h1))
   exact⟨q,ws,h1,h2,by rw[zj this];exact h3,h4.frm F⟩
 ·obtain⟨a,⟨o,b⟩,c,d⟩:=R.ows j q hq
  refine⟨a,?_,c,d⟩
  by_cases z:q=p
  ·rw[z];exact⟨_,zq⟩
  ·exact⟨o,by rw[zj z];exact b⟩
theorem StateAt.chg{s:Sx}{o:HO}(S:StateAt Z H s)(n:NotZ Z p):StateAt Z (L2.upd H p o) s:=fun a c e =>
 ⟨by rw[zj (Ne.symm (n a c e).1)];exact(S a c e).1,by rw[zj (Ne.symm (n a c e).2)];exact(S a c e).2⟩
theorem RepS.freeze{xs:List D}(R:RepS K B Z A ow σ δ H)(ho:δ[i]?=some (.own xs)) :
  ∃ ow',RepS K B Z A ow' σ (δ.set i (.val (.list xs))) H∧Frm Z ow H ow' H:=by
 obtain⟨p,vs,h1,h2,h3,h4⟩:=R.own i xs ho
 have r:Rep K Z H (A++(ow.filter fun q=>decide (q.1≠i)).map (·.2)) (.ref p) (.list xs):=by
  refine .lst h3 (fun m=>?_) (R.ows i p h1).2.2.1 (h4.sub fun q hq=>?_)
  ·rcases List.mem_append.mp m with m | m
   ·exact(R.ows i p h1).2.2.2 m
   ·obtain⟨⟨j,q⟩,hq,e⟩:=List.mem_map.mp m
    have hq':=List.mem_filter.mp hq
    cases e
    exact of_decide_eq_true hq'.2 (R.inj j i q hq'.1 h1)
  ·rcases List.mem_append.mp hq with m | m
   ·exact List.mem_append_left _ m
   ·obtain⟨q',hq',e⟩:=List.mem_map.mp m
    exact List.mem_append_right _ (List.mem_map.mpr ⟨q',(List.mem_filter.mp hq').1,e⟩)
 have sub:∀ q∈A++(ow.filter fun p=>decide (p.1≠i)).map (·.2),q∈A++ow.map (·.2):=fun q hq=>by
  rcases List.mem_append.mp hq with h | h
  ·exact List.mem_append_left _ h
  ·obtain⟨p,hp,rfl⟩:=List.mem_map.mp h
   exact List.mem_append_right _ (List.mem_map_of_mem (List.mem_filter.mp hp).1)
 refine⟨ow.filter fun q=>decide (q.1≠i),⟨R.ok,R.ext,by rw[List.length_set];exact R.len,fun j d' e=>?_,fun j ys e=>?_,fun j q hq=>R.ows j q (List.mem_filter.mp hq).1,fun j k q a b=>R.inj j k q (List.mem_filter.mp a).1 (List.mem_filter.mp b).1⟩,fun b o h n m=>⟨h,fun z=>m ?_⟩⟩
 ·by_cases hj:i=j
  ·subst hj
   rw[List.getElem?_set_self (List.getElem?_eq_some_iff.mp ho).1]at e;cases e
   exact⟨_,h2,r⟩
  ·rw[List.getElem?_set_ne hj]at e
   obtain⟨v',a,b⟩:=R.val j d' e
   exact⟨v',a,b.sub sub⟩
 ·by_cases hj:i=j
  ·subst hj
   rw[List.getElem?_set_self (List.getElem?_eq_some_iff.mp ho).1]at e;cases e
  ·rw[List.getElem?_set_ne hj]at e
   obtain⟨q,ws,a,b,c,d⟩:=R.own j ys e
   exact⟨q,ws,List.mem_filter.mpr ⟨a,decide_eq_true (Ne.symm hj)⟩,b,c,d.sub sub⟩
 ·obtain⟨q,hq,e⟩:=List.mem_map.mp z
  exact List.mem_map.mpr ⟨q,(List.mem_filter.mp hq).1,e⟩
end
section
variable {X:Cx} {st:Stmt} {sts:List Stmt} {e e2 ie:Expr} {es:List Expr} {F Fa Fb Fi:FE} {Fo Fo2:FO} {FL:FA} {G:GS} {x:Str} {i j:Nat} {p pos px apos cpos tpos:Pos}
theorem zeb(h:DA X es FL):DF X (.List es pos) (fun δ s=>(FL δ s).bind fun p=>if small p.1=true then some (p.1,p.2) else none):=⟨fun Z A=>PE.imp (z9r (h Z A)) fun σ H Q zfv=>by
 obtain⟨B,ow,δ,s,d,s',R,S,e,q⟩:=zfv
 first | refine bnd1 e fun p e1 e=>?_ | refine mpp1 e fun p e1 e=>?_
 replace e:(if small p.1=true then some (p.1,p.2) else none)=some (d,s'):=e
 split at e
 ·rename_i hs
  cases e
  refine⟨B,ow,δ,s,_,_,R,S,e1,fun vs H1 x1 S1 rs=>⟨?_,fun p hp=>q p vs _ (x1.trans (Ext.upd hp)) (S1.upd hp) ?_ zq (rs.fresh hp)⟩⟩
  ·rw[rs.length];exact of_decide_eq_true hs
  ·cases e9:H p with
   | none=>rfl
   | some o=>rw[x1 p o e9 (S1.notZ hp)]at hp;cases hp
 ·cases e⟩
def oLst(FL:FA):FO:=fun δ s=>(FL δ s).bind fun p=>if small p.1=true then some (p.1,p.2) else none
theorem z2w{Z:Zt}{H H1:Hp}{s:Sx}{p:Addr}(x1:Ext Z H H1)(S1:StateAt Z H1 s)(hp:H1 p=none):H p=none:=by
 cases e9:H p with
 | none=>rfl
 | some o=>rw[x1 p o e9 (S1.notZ hp)]at hp;cases hp
theorem z6e(h:DA X es FL):DF X (.List es pos) (oLst FL):=zeb h
def oList(Fa:FE):FO:=fun δ s=>(Fa δ s).bind fun p=>(seqOf p.1).map fun xs=>(xs,p.2)
theorem z7K(hv:bootBuiltins x=some (.type "list"))(hm:X.mg x=none)(ha:DW X e Fa)(hg:Gl X x:=by rfl)(hn:x≠"__name__":=by decide)(hdb:(x == ("__debug__":Str))=false:=by decide)
  (hs:starEach [e] X.env=(false,eval e X.env)::starEach [] X.env:=by rfl):DF X (.Call (.Name x p) [e] [] pos) (oList Fa):=⟨fun Z A=>PE.imp (z50 z2Q hg hm hv (zy (ha Z A) z0r hs) hn hdb hs rfl) fun σ H Q zfw=>by
  obtain⟨B,ow,δ,s,ds,s',R,S,e,q⟩:=zfw
  unfold oList at e
  first | refine bnd2 e fun d s1 e1 e=>?_ | refine mpp2 e fun d s1 e1 e=>?_
  replace e:((seqOf d).map fun xs=>(xs,s1))=some (ds,s'):=e
  refine⟨B,ow,δ,s,d,s1,R,S,e1,fun v H1 x1 S1 r=>?_⟩
  cases d with
  | list xs =>
   cases e
   obtain⟨p,vs,ev,sq,_,rs⟩:=r.list
   exact⟨p,vs,by rw[ev],.inl sq,fun l hl=>q l vs _ (x1.trans (Ext.upd hl)) (S1.upd hl) (z2w x1 S1 hl) zq (rs.fresh hl)⟩
  | tuple xs =>
   cases e
   obtain⟨p,vs,ev,sq,rs⟩:=r.tuple
   exact⟨p,vs,by rw[ev],.inr sq,fun l hl=>q l vs _ (x1.trans (Ext.upd hl)) (S1.upd hl) (z2w x1 S1 hl) zq (rs.fresh hl)⟩
  | _=>cases e⟩
def o2(g:D→D→Option (List D))(Fa Fb:FE):FO:=fun δ s=>(Fa δ s).bind fun p=>(Fb δ p.2).bind fun q=>(g p.1 q.1).map fun d=>(d,q.2)
theorem zec{op:Operator}{r:R2}{g:D→D→Option (List D)}(ho:OpR X (binaryOp op) r)(ha:DW X e Fa)(hb:DW X e2 Fb)
  (hr:∀ (Z:Zt) (A:List Addr) (H:Hp) (x y:V) (dx dy:D) (ds:List D) (Q:VK),RepW X.K Z H A x dx→RepW X.K Z H A y dy→g dx dy=some ds→(∀ p vs,H p=none→Reps X.K Z H A vs ds→Q (.ref p) (upd H p (.lst vs)))→r x y H Q) :
  DF X (.BinOp e op e2 pos) (o2 g Fa Fb):=⟨fun Z A=>PE.imp (zaR ho (ha Z A) (hb Z A)) fun σ H Q zfx=>by
 obtain⟨B,ow,δ,s,ds,s',R,S,e,q⟩:=zfx
 unfold o2 at e
 first | refine bnd2 e fun dx s1 e1 e=>?_ | refine mpp2 e fun dx s1 e1 e=>?_
 replace e:((Fb δ s1).bind fun q=>(g dx q.1).map fun d=>(d,q.2))=some (ds,s'):=e
 first | refine bnd2 e fun dy s2 e2 e=>?_ | refine mpp2 e fun dy s2 e2 e=>?_
 replace e:((g dx dy).map fun d=>(d,s2))=some (ds,s'):=e
 cases e3:g dx dy with
 | none=>rw[e3]at e;cases e
 | some d' =>
  rw[e3]at e
  cases e
  refine⟨B,ow,δ,s,dx,s1,R,S,e1,fun v H1 x1 S1 r1=>⟨B,ow,δ,s1,dy,s',R.mono x1,S1,e2,fun u H2 x2 S2 r2=>?_⟩⟩
  exact hr Z _ H2 v u dx dy ds Q (r1.ext x2) r2 e3 fun p vs hp rs=>q p vs _ ((x1.trans x2).trans (Ext.upd hp)) (S2.upd hp) (z2w (x1.trans x2) S2 hp) zq (rs.fresh hp)⟩
def lCat:D→D→Option (List D):=fun a b=>match a,b with | .list xs,.list ys=>if small (xs++ys)=true then some (xs++ys) else none | _,_=>none
theorem zed(ha:DW X e Fa)(hb:DW X e2 Fb):DF X (.BinOp e .Add e2 pos) (o2 lCat Fa Fb):=zec zbW ha hb fun Z A H x y dx dy ds Q rx ry e q=>by
 unfold lCat at e
 split at e
 ·split at e
  ·rename_i hs
   cases e
   obtain⟨p1,v1,rfl,h1,_,r1⟩:=rx.lst
   obtain⟨p2,v2,rfl,h2,_,r2⟩:=ry.lst
   have hl:=of_decide_eq_true hs
   rw[List.length_append]at hl
   exact⟨p1,p2,v1,v2,rfl,rfl,h1,h2,by rw[r1.length,r2.length];exact hl,fun p hp=>q p _ hp (r1.append r2)⟩
  ·cases e
 ·cases e
def lRep:D→D→Option (List D):=fun a b=>match a,b with
 | .list xs,.int k=>if (decide (-(2 ^ 63)≤k) && decide (k < 2 ^ 63) && decide (xs.length * k.toNat≤sizeLine))=true then some (List.replicate k.toNat xs).flatten else none
 | _,_=>none
theorem zee(ha:DW X e Fa)(hb:DW X e2 Fb):DF X (.BinOp e .Mult e2 pos) (o2 lRep Fa Fb):=zec zbX ha hb fun Z A H x y dx dy ds Q rx ry e q=>by
 unfold lRep at e
 split at e
 ·split at e
  ·rename_i hs
   cases e
   simp only[Bool.and_eq_true,decide_eq_true_eq]at hs
   obtain⟨p1,v1,rfl,h1,_,r1⟩:=rx.lst
   have ey:=ry.int
   exact⟨p1,_,v1,rfl,ey,h1,hs.1.1,hs.1.2,by rw[r1.length];exact hs.2,fun p hp=>q p _ hp (r1.rep _)⟩
  ·cases e
 ·cases e
def cutD(xs:List D)(lo hi:Option Int):List D:=(xs.drop (HT.sIx xs.length 0 lo)).take (HT.sIx xs.length xs.length hi - HT.sIx xs.length 0 lo)
theorem Reps.cut{K:PySem.W.Frag}{Z:Zt}{H:Hp}{A:List Addr}{vs:List V}{ds:List D}{lo hi:Option Int}(r:Reps K Z H A vs ds):Reps K Z H A (cutV vs lo hi) (cutD ds lo hi):=by
 unfold cutV cutD
 rw[r.length]
 exact(r.drop _).take _
abbrev FP:=Sl→Sx→Option (Option Int × Sx)
def pNo:FP:=fun _ s=>some (none,s)
def pInt(F:FE):FP:=fun δ s=>(F δ s).bind fun p=>match p.1 with | .int i=>some (some i,p.2) | _=>none
inductive tDPK(K:PySem.W.Frag)(Z:Zt)(A:List Addr)(F:FP)(σ:L2.St)(H:Hp)(Q:Option Int→Hp→Prop):Prop
 | mk (B:Hp) (ow:Ow) (δ:Sl) (s:Sx) (o:Option Int) (s':Sx) (h0:RepS K B Z A ow σ δ H) (h1:StateAt Z H s) (h2:F δ s=some (o,s')) (h3:∀ H',Ext Z H H'→StateAt Z H' s'→Q o H')
abbrev tDP(X:Cx)(Z:Zt)(A:List Addr)(F:FP):TO:=tDPK X.K Z A F
structure DP(X:Cx)(e:Option Expr)(F:FP):Prop where
 go:∀ Z A,PO X e (tDP X Z A F)
instance {X:Cx} {e:Option Expr} {F:FP}:CoeFun (DP X e F) (fun _=>∀ Z A,PO X e (tDP X Z A F)):=⟨fun h=>h.go⟩
theorem PO.imp{e:Option Expr}{t t':TO}(h:PO X e t)(hi:∀ σ H Q,t' σ H Q→t σ H Q):PO X e t':=fun pins s σ H Q I q=>h pins s σ H Q I (hi σ H Q q)
theorem z7L:DP X none pNo:=⟨fun Z A=>PO.imp z9u fun σ H Q zfy=>by
 obtain⟨B,ow,δ,s,o,s',R,S,e,q⟩:=zfy
 cases e;exact q H (Ext.refl H) S⟩
theorem z3U(h:DW X e F):DP X (some e) (pInt F):=⟨fun Z A=>PO.imp (z9v (h Z A)) fun σ H Q zfz=>by
 obtain⟨B,ow,δ,s,o,s',R,S,e,q⟩:=zfz
 unfold pInt at e
 first | refine bnd2 e fun d s1 e1 e=>?_ | refine mpp2 e fun d s1 e1 e=>?_
 cases d with
 | int k =>
  cases e
  exact⟨B,ow,δ,s,_,_,R,S,e1,fun v H1 x1 S1 r=>⟨k,r.int,q H1 x1 S1⟩⟩
 | _=>cases e⟩
def sSetO(i:Nat)(Fo:FO):GS:=fun δ s=>(Fo δ s).map fun p=>(.next (δ.set i (.own p.1)),p.2)
theorem z2x{pos':Pos}(hN:X.N.Nodup)(he:DF X e Fo)(hi:X.N[i]?=some x:=by rfl)(hx:Loc X.env.scope x:=by first | exact Or.inl rfl | exact Or.inr rfl)(hs:swapsWith e (some (.Name x pos')) pos.line X.env=pure false:=by rfl)
  (hf:X.fn x=true∨X.env.scope.names.lookup x=some .local:=by first | exact .inl rfl | exact .inr rfl | assumption):DS X (.Assign [.Name x pos'] e pos) (sSetO i Fo):=⟨fun Z A=>PS.imp (z2P hN hi hx (he Z A) hs hf) fun E σ H zfA=>by
 obtain⟨ow,δ,s,o,s',R,S,e,q⟩:=zfA
 unfold sSetO at e
 first | refine bnd1 e fun p e1 e=>?_ | refine mpp1 e fun p e1 e=>?_
 cases e
 refine⟨_,ow,δ,s,_,_,R,S,e1,fun p vs H' x1 S1 n h r=>?_⟩
 obtain⟨R',f⟩:=R.setOwn (i:=i) S x1 n h r
 exact q _ _ H' R' S1 f⟩
def sFrz(i:Nat):GS:=fun δ s=>match δ[i]? with | some (.own xs)=>some (.next (δ.set i (.val (.list xs))),s) | _=>some (.next δ,s)
theorem z5b(i:Nat)(h:DS X st G):DS X st (sSeq (sFrz i) G):=⟨fun Z A=>PS.imp (h Z A) fun E σ H zfB=>by
 obtain⟨ow,δ,s,o,s',R,S,e,q⟩:=zfB
 unfold sSeq sFrz at e
 cases e1:δ[i]? with
 | none=>rw[e1]at e;exact⟨ow,δ,s,o,s',R,S,e,q⟩
 | some c =>
  rw[e1]at e
  cases c with
  | own xs =>
   obtain⟨ow',R',f⟩:=R.freeze e1
   exact⟨ow',_,s,o,s',R',S,e,q.frm f⟩
  | non=>exact⟨ow,δ,s,o,s',R,S,e,q⟩
  | val d=>exact⟨ow,δ,s,o,s',R,S,e,q⟩⟩
def sApp(i:Nat)(F:FE):GS:=fun δ s=>(F δ s).bind fun q=>match δ[i]? with | some (.own xs)=>if decide (xs.length < sizeLine)=true then some (.next (δ.set i (.own (xs++[q.1]))),q.2) else none | _=>none
theorem z89(hv:PE X (.Name x px) (tVar i))(he:DE X e F)(hbase:attributeBase (.Name x px) "append" X.env (eval (.Name x px) X.env)=eval (.Name x px) X.env:=by rfl)
  (hfew:((backTo cpos (starEach [e] X.env)).all (fun x=>!x.1) && (backToKw cpos (keywordEach [] X.env)).all (fun x=>x.1.isSome) && decide ([e].length + ([]:List Keyword).length + (if ([]:List Keyword).isEmpty then 0 else 1) < 30))=true:=by rfl)
  (hline:(apos.endLine == cpos.line)=true:=by rfl) (hs:starEach [e] X.env=(false,eval e X.env)::starEach [] X.env:=by rfl)
  (hsw:swapsWith (.Call (.Attribute (.Name x px) "append" apos) [e] [] cpos) none pos.line X.env=pure false:=by rfl):DS X (.Expr (.Call (.Attribute (.Name x px) "append" apos) [e] [] cpos) pos) (sApp i F):=⟨fun Z A=>PS.imp (z64 (zgC PySem.F.plainAttrs_list PySem.F.slot_list_append PySem.F.type_list_append z9x hv (zy (he Z A) z0r hs) hbase hfew hline hs rfl) hsw) fun E σ H zfC=>by
  obtain⟨ow,δ,s,o,s',R,S,e,q⟩:=zfC
  unfold sApp at e
  first | refine bnd2 e fun d s1 e1 e=>?_ | refine mpp2 e fun d s1 e1 e=>?_
  try simp only[Option.bind_some]at e
  split at e
  ·rename_i xs ho
   split at e
   ·rename_i hl
    cases e
    obtain⟨a,vs,h1,h2,h3,h4⟩:=R.own i xs ho
    refine⟨_,h2,.inl ⟨rfl,_,SqL.of h3⟩,⟨_,ow,δ,s,d,_,R,S,e1,fun v H1 x1 S1 r=>?_⟩⟩
    have h3':=x1 _ _ h3 (R.ows i a h1).2.2.1
    refine⟨a,vs,v,rfl,rfl,h3',by rw[h4.length];exact of_decide_eq_true hl,?_⟩
    obtain⟨R',f⟩:=(R.mono x1).change ho h1 h2 ((h4.ext x1).append (.cons r .nil))
    exact q _ _ _ R' (S1.chg (R.ows i a h1).2.2.1) ((Frm.ext x1).trans f)
   ·cases e
  ·cases e⟩
def sPop(i:Nat):GS:=fun δ s=>match δ[i]? with | some (.own xs)=>if xs.isEmpty=true then none else some (.next (δ.set i (.own xs.dropLast)),s) | _=>none
theorem zbb{Z:Zt}{A:List Addr}{ow:Ow}{σ:L2.St}{δ:Sl}{B H:Hp}{s:Sx}{xs:List D}{Q:VK}(R:RepS X.K B Z A ow σ δ H)(S:StateAt Z H s)(ho:δ[i]?=some (.own xs))(hne:¬ xs.isEmpty=true)
  (q:∀ v d H',xs.getLast?=some d→Rep X.K Z H' (A++ow.map (·.2)) v d→RepS X.K B Z A ow σ (δ.set i (.own xs.dropLast)) H'→StateAt Z H' s→Frm Z ow H ow H'→Q v H'):tBM0 X.K "list" rPop (tVar i) σ H Q:=by
 obtain⟨a,vs,h1,h2,h3,h4⟩:=R.own i xs ho
 refine⟨_,h2,.inl ⟨rfl,_,SqL.of h3⟩,?_⟩
 have hlen:=h4.length
 have hx:xs.length≠0:=fun z=>hne (by simpa using z)
 obtain⟨d,hd⟩:∃ d,xs[xs.length - 1]?=some d:=⟨_,List.getElem?_eq_getElem (by omega)⟩
 obtain⟨v,hv,rv⟩:=h4.get hd
 obtain⟨R',f⟩:=R.change ho h1 h2 h4.dropLast
 exact⟨a,vs,v,rfl,rfl,h3,by rw[hlen];exact hv,q v d _ (by rw[List.getLast?_eq_getElem?];exact hd) (rv.frm f) R' (S.chg (R.ows i a h1).2.2.1) f⟩
theorem zef(hv:PE X (.Name x px) (tVar i))(hbase:attributeBase (.Name x px) "pop" X.env (eval (.Name x px) X.env)=eval (.Name x px) X.env:=by rfl)(hline:(apos.endLine == cpos.line)=true:=by rfl)
  (hsw:swapsWith (.Call (.Attribute (.Name x px) "pop" apos) [] [] cpos) none pos.line X.env=pure false:=by rfl):DS X (.Expr (.Call (.Attribute (.Name x px) "pop" apos) [] [] cpos) pos) (sPop i):=⟨fun Z A=>PS.imp (z64 (ze1 PySem.F.plainAttrs_list PySem.F.slot_list_pop PySem.F.type_list_pop ze2 hv hbase hline) hsw) fun E σ H zfD=>by
  obtain⟨ow,δ,s,o,s',R,S,e,q⟩:=zfD
  unfold sPop at e
  split at e
  ·rename_i xs ho
   split at e
   ·cases e
   ·rename_i hne
    cases e
    exact zbb R S ho hne fun v d H' _ _ R' S' f=>q _ _ _ R' S' f
  ·cases e⟩
def putAt(xs:List D)(d v:D):Option (List D):=match d with | .int k=>(ixN xs.length k).map fun j=>xs.set j v | _=>none
def sPut(i:Nat)(Fi F:FE):GS:=fun δ s=>(F δ s).bind fun v=>(Fi δ v.2).bind fun d=>match δ[i]? with | some (.own xs)=>(putAt xs d.1 v.1).map fun ys=>(.next (δ.set i (.own ys)),d.2) | _=>none
theorem z8a(hv:PE X (.Name x px) (tVar i))(hi:DW X ie Fi)(he:DE X e F)
  (ha:∀ v,assign (.Subscript (.Name x px) ie tpos) X.env v=(do
   let ov ← holding [v] (eval (.Name x px) X.env)
   let iv ← holding [v,ov] (eval ie X.env)
   standAt tpos
   holding [v,ov,iv] (setItem ov iv v)
   release [v,ov,iv] []):=by intros;rfl)
  (hs:swapsWithSole [.Subscript (.Name x px) ie tpos] e pos.line X.env=pure false:=by rfl) (hw:swappedStores [.Subscript (.Name x px) ie tpos] e X.env=pure none:=by rfl)
  (h1:(assignEach [.Subscript (.Name x px) ie tpos] X.env).map (·.2)=[assign (.Subscript (.Name x px) ie tpos) X.env]:=by rfl):DS X (.Assign [.Subscript (.Name x px) ie tpos] e pos) (sPut i Fi F):=⟨fun Z A=>PS.imp (z9h (he Z A) (zbR hv (hi Z A) z84 ha) hs hw h1) fun E σ H zfE=>by
  obtain⟨ow,δ,s,o,s',R,S,e,q⟩:=zfE
  unfold sPut at e
  first | refine bnd2 e fun d s1 e1 e=>?_ | refine mpp2 e fun d s1 e1 e=>?_
  try simp only[Option.bind_some]at e
  first | refine bnd2 e fun k s2 e2 e=>?_ | refine mpp2 e fun k s2 e2 e=>?_
  try simp only[Option.bind_some]at e
  split at e
  ·rename_i xs ho
   first | refine bnd1 e fun ys e3 e=>?_ | refine mpp1 e fun ys e3 e=>?_
   cases e
   obtain⟨a,vs,h1,h2,h3,h4⟩:=R.own i xs ho
   have nz:=(R.ows i a h1).2.2.1
   refine⟨_,ow,δ,s,d,s1,R,S,e1,fun v H1 x1 S1 r=>⟨_,h2,⟨_,ow,δ,s1,k,_,R.mono x1,S1,e2,fun u H2 x2 S2 r2=>?_⟩⟩⟩
   unfold putAt at e3
   split at e3
   ·rename_i kk
    cases e4:ixN xs.length kk with
    | none=>rw[e4]at e3;cases e3
    | some j =>
     rw[e4]at e3
     cases e3
     have eu:=r2.int
     obtain⟨R',f⟩:=((R.mono x1).mono x2).change ho h1 h2 (((h4.ext x1).ext x2).set (r.ext x2) j)
     exact⟨a,vs,kk,j,rfl,eu,x2 _ _ (x1 _ _ h3 nz) nz,by rw[h4.length];exact e4,q _ _ _ R' (S2.chg nz) ((Frm.ext (x1.trans x2)).trans f)⟩
   ·cases e3
  ·cases e⟩
end
end L3
namespace HT
open PySem PySem.Spec PyProof.Rows L2
section
variable {prog:Program} {w:World} {A:Around} {E:Value→Shared→Prop} {s:Shared}
theorem getItem_tuple_whole{t sl:Addr}{items:Array Value}{vl vu:Value}{lo hi:Option Int}{Q:Value→Shared→Prop}(ht:IsTup s.heap t items)(hs:s.heap.IsSliceOf sl vl vu .none)(pl:IsPart vl lo)(pu:IsPart vu hi)
  (hw:sIx items.size 0 lo=0∧sIx items.size items.size hi=items.size) (h:Q (.ref t) s):wpAny (model prog w) A (getItem (.ref t) (.ref sl)) Q E s:=by
 obtain⟨os,hos,hcs,hds⟩:=id hs
 have hTs:s.TypeIs (.ref sl) "slice":=⟨os,hos,hcs⟩
 unfold getItem
 try with_reducible refine wpAny_holding ?_
 first | refine wpAny_bind (wpAny_pure ?_) | skip
 refine wpAny_bind (wpAny_sequenceKey ht.typeIs (by decide) ?_)
 refine wpAny_bind (wpAny_callSpecial?_slot (name:=Str.ofString "__getitem__") ht.typeIs PyProof.Rows.slot_tuple_getitem
  (wpAny_call_entry PyProof.Rows.slot_tuple_getitem ht.typeIs entry_tuple_getitem ?_ (args_tuple_getitem _ _)))
 show wpAny _ _ (Builtin.Tuple.tupleItemsOf (.ref t) >>= _) _ _ s
 refine wpAny_bind (tupleItemsOf_ ht ?_)
 refine wpAny_bind (wpAny_typeOf hTs ?_)
 rw[if_pos (by decide)]
 refine wpAny_bind (z2D hs pl pu ?_)
 have hyes:((((sIx items.size 0 lo:Nat):Int) == 0 && (1:Int) == 1 && (sIx items.size items.size hi - sIx items.size 0 lo) == items.size)=true):=by
  rw[hw.1,hw.2];simp
 show wpAny _ _ (if (((sIx items.size 0 lo:Nat):Int) == 0 && (1:Int) == 1 && (sIx items.size items.size hi - sIx items.size 0 lo) == items.size)=true then _ else _) _ _ s
 rw[if_pos hyes]
 refine wpAny_bind (wpAny_bind (wpAny_typeOf ht.typeIs (wpAny_pure ?_)))
 show wpAny _ _ (if (Value.type "tuple" == Value.type "tuple")=true then _ else _) _ _ s
 rw[if_pos (by decide)]
 exact wpAny_bind (wpAny_rule (wpAny_pure ⟨_,rfl,wpAny_pure h⟩))
end
end HT
namespace L3
open PySem L2 PySem.Spec PyProof.Rows
section
variable {X:Cx} {e e2 e3 ie:Expr} {F Fa Fb Fc Fi:FE} {Fo:FO} {x:Str} {i j:Nat} {p pos px apos cpos tpos:Pos}
def rSlTW(K:PySem.W.Frag):V→Option Int→Option Int→Hp→VK→Prop:=fun x lo hi H Q=>∃ a xs,x=.ref a∧SqT K H a xs ∧
 (if HT.sIx xs.length 0 lo=0∧HT.sIx xs.length xs.length hi=xs.length then Q (.ref a) H else ∀ p,H p=none→Q (.ref p) (upd H p (.tup (cutV xs lo hi))))
theorem zcQ:SlR X (rSlTW X.K):=by
 intro pins s σ H x v vl vu lo hi sl Q I rx hs pl pu h
 obtain⟨a,xs,rfl,hx,q⟩:=h
 split at q
 ·rename_i hw
  cases rx
  obtain⟨its,r,ht,hz⟩:=I.tuple hx
  have hlen:its.toArray.size=xs.length:=by rw[List.size_toArray];exact r.length.symm
  refine⟨"tuple",_,PyProof.Rows.slot_tuple_getitem.lookup,ht.typeIs,?_⟩
  exact HT.getItem_tuple_whole ht hs pl pu (by rw[hlen];exact hw) ⟨.ref a,H,I,rfl,q⟩
 ·rename_i hw
  exact zdY pins s σ H (.ref a) v vl vu lo hi sl Q I rx hs pl pu ⟨a,xs,rfl,hx,hw,q⟩
theorem z5X{xs:List D}{lo hi:Option Int}(h:HT.sIx xs.length 0 lo=0∧HT.sIx xs.length xs.length hi=xs.length):cutD xs lo hi=xs:=by
 unfold cutD;rw[h.1,h.2];simp
def gSlD(d:D)(lo hi:Option Int):Option D:=match d with | .list xs=>some (.list (cutD xs lo hi)) | .tuple xs=>some (.tuple (cutD xs lo hi)) | _=>none
def fSl(Fa:FE)(Fl Fh:FP):FE:=fun δ s=>(Fa δ s).bind fun p=>(Fl δ p.2).bind fun l=>(Fh δ l.2).bind fun h=>(gSlD p.1 l.1 h.1).map fun d=>(d,h.2)
theorem z1Y{lo hi:Option Expr}{Fl Fh:FP}(ha:DE X e Fa)(hl:DP X lo Fl)(hh:DP X hi Fh):DE X (.Subscript e (.Slice lo hi none p) pos) (fSl Fa Fl Fh):=⟨fun Z A=>PE.imp (z83 (sl_list.or zcQ) (ha Z A) (hl Z A) (hh Z A)) fun σ H Q zfF=>by
 obtain⟨B,ow,δ,s,d,s',R,S,ee,q⟩:=zfF
 unfold fSl at ee
 first | refine bnd2 ee fun dx s1 e1 ee=>?_ | refine mpp2 ee fun dx s1 e1 ee=>?_
 replace ee:((Fl δ s1).bind fun l=>(Fh δ l.2).bind fun h=>(gSlD dx l.1 h.1).map fun d=>(d,h.2))=some (d,s'):=ee
 first | refine bnd2 ee fun l s2 e2 ee=>?_ | refine mpp2 ee fun l s2 e2 ee=>?_
 replace ee:((Fh δ s2).bind fun h=>(gSlD dx l h.1).map fun d=>(d,h.2))=some (d,s'):=ee
 first | refine bnd2 ee fun h s3 e3 ee=>?_ | refine mpp2 ee fun h s3 e3 ee=>?_
 replace ee:((gSlD dx l h).map fun d=>(d,s3))=some (d,s'):=ee
 cases e4:gSlD dx l h with
 | none=>rw[e4]at ee;cases ee
 | some d' =>
  rw[e4]at ee
  cases ee
  refine⟨B,ow,δ,s,dx,s1,R,S,e1,fun v H1 x1 S1 r1=>⟨B,ow,δ,s1,l,s2,R.mono x1,S1,e2,fun H2 x2 S2=>⟨B,ow,δ,s2,h,s',(R.mono x1).mono x2,S2,e3,fun H3 x3 S3=>?_⟩⟩⟩
  have r3:=(r1.ext x2).ext x3
  have x13:=(x1.trans x2).trans x3
  cases r3 with
  | lst hh n z rs =>
   cases e4
   exact .inl ⟨_,_,rfl,.of hh,fun q' hq=>q _ _ (x13.trans (Ext.upd hq)) (S3.upd hq) (.lst zq (zO (R.mono x13).all hq) (S3.notZ hq) (rs.cut.ext (Ext.upd hq)))⟩
  | tup hh n z rs =>
   cases e4
   refine .inr ⟨_,_,rfl,.of hh,?_⟩
   split
   ·rename_i hw
    rw[rs.length]at hw
    refine q _ _ x13 S3 ?_
    rw[z5X hw]
    exact .tup hh n z rs
   ·exact fun q' hq=>q _ _ (x13.trans (Ext.upd hq)) (S3.upd hq) (.tup zq (zO (R.mono x13).all hq) (S3.notZ hq) (rs.cut.ext (Ext.upd hq)))
  | mod hh rs =>
   cases e4
   refine .inr ⟨_,_,rfl,.inr hh,?_⟩
   split
   ·rename_i hw
    rw[rs.length]at hw
    refine q _ _ x13 S3 ?_
    rw[z5X hw]
    exact .mod hh rs
   ·exact fun q' hq=>q _ _ (x13.trans (Ext.upd hq)) (S3.upd hq) (.tup zq (zO (R.mono x13).all hq) (S3.notZ hq) (rs.cut.ext (Ext.upd hq)))
  | non=>cases e4
  | bl _=>cases e4
  | int _=>cases e4
  | str _=>cases e4
  | st _=>cases e4
  | obj _ _ _ _ _=>cases e4⟩
theorem zbc{prog:Program}{w:World}{A:Around}{E:Value→Shared→Prop}{s:Shared}{t b:Addr}{ws:List Value}{Q:Value→Shared→Prop}(ht:IsTup s.heap t ([]:List Value).toArray)(hb:IsTup s.heap b ws.toArray)(h1:Q (.ref b) s) :
  wpAny (model prog w) A (binaryOp .Add (.ref t) (.ref b)) Q E s:=by
 obtain⟨⟨cls,dd,data,sl⟩,ho,hc,n,hd⟩:=id ht
 obtain⟨⟨cls2,dd2,data2,sl2⟩,ho2,hc2,n2,hd2⟩:=id hb
 simp only at hc hd hc2 hd2
 subst hc hd hc2 hd2
 exact concat_meets ⟨_,ho,rfl⟩ ⟨_,ho2,rfl⟩ noFill_tuple_add seq_tuple_add PySem.F.slot_tuple_add PySem.F.entry_tuple_add (PySem.F.args_tuple_add_2 _ _)
   (tuple_addW0 t b ([]:List Value).toArray ws.toArray n n2 dd dd2 sl sl2 (by simp)) ⟨ho,ho2,h1⟩
def rCatT0(K:PySem.W.Frag):R2:=fun x y H Q=>∃ a b ys,x=.ref a∧y=.ref b∧SqT K H a []∧SqT K H b ys∧Q (.ref b) H
theorem zbd:OpR X (binaryOp .Add) (rCatT0 X.K):=by
 intro pins s σ H x y v u Q I rx ry h
 obtain⟨a,b,ys,rfl,rfl,ha,hb,q1⟩:=h
 cases rx
 cases ry
 obtain⟨its,r1,p1,_⟩:=I.tuple ha
 obtain⟨its2,r2,p2,_⟩:=I.tuple hb
 cases r1
 exact zbc p1 p2 ⟨.ref b,H,I,rfl,q1⟩
def gCatT:G2:=fun a b=>match a,b with | .tuple xs,.tuple ys=>if small (xs++ys)=true then some (.tuple (xs++ys)) else none | _,_=>none
theorem RepW.tup{K:PySem.W.Frag}{Z:Zt}{H:Hp}{A:List Addr}{v:V}{ds:List D}(r:RepW K Z H A v (.tuple ds)):Rep K Z H A v (.tuple ds):=by
 rcases r with r | ⟨_,_,_,_,e2,_⟩
 ·exact r
 ·cases e2
theorem dcatT:DOp X (binaryOp .Add) gCatT:=DOp.of (op_catT.or zbd) fun Z A H st x y dx dy d Q S hA rx ry e q=>by
 unfold gCatT at e
 split at e
 ·split at e
  ·rename_i hs
   cases e
   rename_i xs ys
   obtain⟨p1,v1,ev1,h1,r1⟩:=rx.tuple
   obtain⟨p2,v2,ev2,h2,r2⟩:=ry.tuple
   have hl:=of_decide_eq_true hs
   rw[List.length_append]at hl
   have l1:=r1.length
   have l2:=r2.length
   cases xs with
   | nil =>
    cases r1
    refine .inr ⟨p1,p2,v2,ev1,ev2,h1,h2,q _ H (Ext.refl H) S ?_⟩
    rw[← ev2];exact ry.tup
   | cons a as =>
    refine .inl ⟨p1,p2,v1,v2,ev1,ev2,h1,h2,(fun z=>by rw[z]at l1;cases l1),by omega,fun z=>?_,fun z p hp=>?_⟩
    ·have ez:ys=[]:=by rw[z]at l2;exact List.eq_nil_of_length_eq_zero l2.symm
     subst ez
     rw[List.append_nil,← ev1]at *
     exact q _ H (Ext.refl H) S rx.tup
    ·exact q _ _ (Ext.upd hp) (S.upd hp) (.tup zq (zO hA hp) (S.notZ hp) ((r1.append r2).ext (Ext.upd hp)))
  ·cases e
 ·cases e
def gAddA:G2:=fun a b=>(gAdd a b).or (gCatT a b)
theorem dadda:DOp X (binaryOp .Add) gAddA:=DOp.or dadd dcatT
def gMulA:G2:=fun a b=>(gMulI a b).or ((lRep a b).map PyData.list)
theorem drep:DOp X (binaryOp .Mult) (fun a b=>(lRep a b).map PyData.list):=DOp.of zbX fun Z A H st x y dx dy d Q S hA rx ry e q=>by
 replace e:(lRep dx dy).map PyData.list=some d:=e
 first | refine bnd1 e fun ds e1 e=>?_ | refine mpp1 e fun ds e1 e=>?_
 cases e
 unfold lRep at e1
 split at e1
 ·split at e1
  ·rename_i hs
   cases e1
   simp only[Bool.and_eq_true,decide_eq_true_eq]at hs
   obtain⟨p1,v1,rfl,h1,_,r1⟩:=rx.lst
   have ey:=ry.int
   exact⟨p1,_,v1,rfl,ey,h1,hs.1.1,hs.1.2,by rw[r1.length];exact hs.2,fun p hp=>q _ _ (Ext.upd hp) (S.upd hp) (.lst zq (zO hA hp) (S.notZ hp) ((r1.rep _).ext (Ext.upd hp)))⟩
  ·cases e1
 ·cases e1
theorem dmula:DOp X (binaryOp .Mult) gMulA:=DOp.or dmul_int drep
theorem zeg:DOp X (inplaceOp .Add) gAddI:=z1Q (z4o zcm) (fun _ _ _=>trivial) fun i j _ _ _ _=>.int _
theorem zeh:DOp X (inplaceOp .Sub) gSubI:=z1Q (z4o zcn) (fun _ _ _=>trivial) fun i j _ _ _ _=>.int _
def sAug(i:Nat)(g:G2)(F:FE):GS:=fun δ s=>match δ[i]? with | some (.val d)=>(F δ s).bind fun q=>(g d q.1).map fun r=>(.next (δ.set i (.val r)),q.2) | _=>none
theorem zc5{op:Operator}{g:G2}{pos':Pos}(hN:X.N.Nodup)(ho:DOp X (inplaceOp op) g)(he:DE X e F)(hi:X.N[i]?=some x:=by rfl)(hx:Loc X.env.scope x:=by first | exact Or.inl rfl | exact Or.inr rfl)
  (hf:X.fn x=true∨X.env.scope.names.lookup x=some .local:=by first | exact .inl rfl | exact .inr rfl | assumption):DS X (.AugAssign (.Name x pos') op e pos) (sAug i g F):=⟨fun Z A pins s σ H E I zfG=>by
 obtain⟨ow,δ,st,o,st',R,S,ee,q⟩:=zfG
 unfold sAug at ee
 split at ee
 ·rename_i d hd
  first | refine bnd2 ee fun dy s1 e1 ee=>?_ | refine mpp2 ee fun dy s1 e1 ee=>?_
  replace ee:((g d dy).map fun r=>(Out.next (δ.set i (.val r)),s1))=some (o,st'):=ee
  first | refine bnd1 ee fun r e2 ee=>?_ | refine mpp1 ee fun r e2 ee=>?_
  cases ee
  obtain⟨v,h1,h2⟩:=R.val i d hd
  let T:TIp:=fun x y H1 Q=>x=v∧∃ H0,Ext Z H H1∧H0=H1∧StateAt Z H1 st'∧Rep X.K Z H1 (A++ow.map (·.2)) y dy∧∀ v' H',Ext Z H1 H'→StateAt Z H' st'→Rep X.K Z H' (A++ow.map (·.2)) v' r→Q v' H'
  have hT:PIp X op T:=fun pins s σ H1 x y u w Q I1 rx ry zfH=>by
   obtain⟨ex,H0,x1,_,S1,r1,q1⟩:=zfH
   subst ex
   exact ho Z (A++ow.map (·.2)) pins s σ H1 st' _ y u w d dy r Q I1 S1 (R.mono x1).all (h2.ext x1).w r1.w rx ry e2 q1
  refine zdM (ti:=T) hN hi hx (he Z A) hT hf pins s σ H E I ⟨v,h1,_,ow,δ,st,dy,_,R,S,e1,fun y H1 x1 S1 r1=>⟨rfl,H1,x1,rfl,S1,r1,fun v' H' x2 S2 r2=>?_⟩⟩
  obtain⟨R',f⟩:=(R.mono (x1.trans x2)).set (i:=i) r2
  exact q _ _ H' R' S2 ((Frm.ext (x1.trans x2)).trans f)
 ·cases ee⟩
def fChain(g g':G2)(Fa Fb Fc:FE):FE:=fun δ s=>(Fa δ s).bind fun p=>(Fb δ p.2).bind fun q=>(g p.1 q.1).bind fun d=>match d with
 | .bool true=>(Fc δ q.2).bind fun r=>(g' q.1 r.1).map fun d=>(d,r.2)
 | .bool false=>some (.bool false,q.2)
 | _=>none
theorem z5Y{op op':CmpOp}{g g':G2}(ho:DOp X (compareOp op) g)(ho':DOp X (compareOp op') g')(ha:DW X e Fa)(hb:DW X e2 Fb)(hc:DW X e3 Fc){Z:Zt}{A:List Addr}{σ:L2.St}{H:Hp}{Q:VK}(h:tD X Z A (fChain g g' Fa Fb Fc) σ H Q) :
  ∃ r r':R2,OpR X (compareOp op) r∧OpR X (compareOp op') r'∧tChain r r' (tDW X Z A Fa) (tDW X Z A Fb) (tDW X Z A Fc) σ H Q:=by
 obtain⟨B,ow,δ,s,d,s',R,S,ee,q⟩:=h
 unfold fChain at ee
 first | refine bnd2 ee fun dx s1 e1 ee=>?_ | refine mpp2 ee fun dx s1 e1 ee=>?_
 try simp only[Option.bind_some]at ee
 first | refine bnd2 ee fun dy s2 e2 ee=>?_ | refine mpp2 ee fun dy s2 e2 ee=>?_
 try simp only[Option.bind_some]at ee
 first | refine bnd1 ee fun dk e3 ee=>?_ | refine mpp1 ee fun dk e3 ee=>?_
 try simp only[Option.bind_some]at ee
 let T:R2:=fun x y H2 Q'=>Ext Z H H2∧StateAt Z H2 s2∧RepW X.K Z H2 (A++ow.map (·.2)) x dx∧RepW X.K Z H2 (A++ow.map (·.2)) y dy∧∀ v' H',Ext Z H2 H'→StateAt Z H' s2→Rep X.K Z H' (A++ow.map (·.2)) v' dk→Q' v' H'
 have hT:OpR X (compareOp op) T:=fun pins s σ H2 x y u w Q' I rx ry zfI=>(by obtain⟨x2,S2,r1,r2,q2⟩:=zfI;exact ho Z _ pins s σ H2 s2 x y u w dx dy dk Q' I S2 (R.mono x2).all r1 r2 rx ry e3 q2)
 cases dk with
 | bool k =>
  cases k with
  | true =>
   simp only at ee
   first | refine bnd2 ee fun dz s3 e4 ee=>?_ | refine mpp2 ee fun dz s3 e4 ee=>?_
   try simp only[Option.bind_some]at ee
   first | refine bnd1 ee fun dd e5 ee=>?_ | refine mpp1 ee fun dd e5 ee=>?_
   cases ee
   let T':R2:=fun x y H2 Q'=>Ext Z H H2∧StateAt Z H2 s'∧RepW X.K Z H2 (A++ow.map (·.2)) x dy∧RepW X.K Z H2 (A++ow.map (·.2)) y dz∧∀ v' H',Ext Z H2 H'→StateAt Z H' s'→Rep X.K Z H' (A++ow.map (·.2)) v' d→Q' v' H'
   have hT':OpR X (compareOp op') T':=fun pins s σ H2 x y u w Q' I rx ry zfJ=>(by obtain⟨x2,S2,r1,r2,q2⟩:=zfJ;exact ho' Z _ pins s σ H2 s' x y u w dy dz d Q' I S2 (R.mono x2).all r1 r2 rx ry e5 q2)
   refine⟨T,T',hT,hT',B,ow,δ,s,dx,s1,R,S,e1,fun v H1 x1 S1 r1=>⟨B,ow,δ,s1,dy,s2,R.mono x1,S1,e2,fun u H2 x2 S2 r2=>⟨x1.trans x2,S2,r1.ext x2,r2,fun v' H3 x3 S3 r3=>?_⟩⟩⟩
   cases r3
   refine⟨true,rfl,iteT ⟨B,ow,δ,s2,dz,s',(R.mono (x1.trans x2)).mono x3,S3,e4,fun v4 H4 x4 S4 r4=>⟨((x1.trans x2).trans x3).trans x4,S4,(r2.ext x3).ext x4,r4,fun v5 H5 x5 S5 r5=>q v5 H5 ((((x1.trans x2).trans x3).trans x4).trans x5) S5 r5⟩⟩⟩
  | false =>
   cases ee
   refine⟨T,fun _ _ _ _=>False,hT,fun _ _ _ _ _ _ _ _ _ _ _ _ z=>z.elim,B,ow,δ,s,dx,s1,R,S,e1,fun v H1 x1 S1 r1=>⟨B,ow,δ,s1,dy,_,R.mono x1,S1,e2,fun u H2 x2 S2 r2=>⟨x1.trans x2,S2,r1.ext x2,r2,fun v' H3 x3 S3 r3=>?_⟩⟩⟩
   cases r3
   exact⟨false,rfl,iteF (q _ H3 ((x1.trans x2).trans x3) S3 (.bl _))⟩
 | _=>cases ee
theorem zbe{op op':CmpOp}{g g':G2}(ho:DOp X (compareOp op) g)(ho':DOp X (compareOp op') g')(ha:DW X e Fa)(hb:DW X e2 Fb)(hc:DW X e3 Fc)(hm:lastMarks [op,op'] [e2,e3]=false:=by with_unfolding_all rfl) :
  DE X (.Compare e [op,op'] [e2,e3] pos) (fChain g g' Fa Fb Fc):=⟨fun Z A pins s σ H Q I h=>by
 obtain⟨r,r',h1,h2,h3⟩:=z5Y ho ho' ha hb hc h
 exact zaS h1 h2 (ha Z A) (hb Z A) (hc Z A) hm pins s σ H Q I h3⟩
theorem zbf{op op':CmpOp}{g g':G2}(ho:DOp X (compareOp op) g)(ho':DOp X (compareOp op') g')(ha:DW X e Fa)(hb:DW X e2 Fb)(hc:DW X e3 Fc)(hm:lastMarks [op,op'] [e2,e3]=false:=by with_unfolding_all rfl) :
  DT X (.Compare e [op,op'] [e2,e3] pos) (asB (fChain g g' Fa Fb Fc)):=⟨fun Z A pins s σ H Q I h=>by
 obtain⟨r,r',h1,h2,h3⟩:=z5Y ho ho' ha hb hc (zbZ h)
 exact zaT h1 h2 (ha Z A) (hb Z A) (hc Z A) hm pins s σ H Q I h3⟩
end
end L3
namespace L3
open PySem L2 PySem.Spec PyProof.Rows
def clOf(cells:List (Str × Addr)):List (Str × NameKind)→List (Str × Addr)→List (Str × Addr)
 | [],cs=>cs
 | y::r,cs=>clOf cells r (if y.2 == NameKind.free then (y.1,(cells.lookup y.1).getD 0)::cs else cs)
theorem z6f{env:Env}{scope:Scope}(h:∀ y∈scope.names,y.2=.free→∃ c,env.cells.lookup y.1=some c):closureFor scope env=pure (clOf env.cells scope.names []):=by
 unfold closureFor
 generalize scope.names=names at h
 have key:∀ (names:List (Str × NameKind)) (cs:List (Str × Addr)),(∀ y∈names,y.2=.free→∃ c,env.cells.lookup y.1=some c) →
   (forIn names cs fun(x:Str × NameKind) (r:List (Str × Addr))=>(if (x.2 == NameKind.free)=true then do let a ← cellOf env x.1;pure (ForInStep.yield ((x.1,a)::r)) else pure (ForInStep.yield r):Sem _))=pure (clOf env.cells names cs):=by
  intro names
  induction names with
  | nil=>intro cs _;rfl
  | cons y r ih =>
   intro cs hy
   rw[List.forIn_cons]
   obtain⟨n,k⟩:=y
   by_cases hk:k=.free
   ·subst hk
    obtain⟨c,hc⟩:=hy (n,.free) List.mem_cons_self rfl
    have e:cellOf env n=pure c:=by unfold cellOf;simp only at hc;rw[hc]
    simp only[beq_self_eq_true,if_true,e,pure_bind]
    rw[ih _ fun y hm=>hy y (List.mem_cons_of_mem _ hm)]
    simp only at hc
    simp[clOf,hc]
   ·have hb:(k == NameKind.free)=false:=by simpa using hk
    simp only[hb,Bool.false_eq_true,if_false,pure_bind]
    rw[ih _ fun y hm=>hy y (List.mem_cons_of_mem _ hm)]
    simp[clOf,hb]
 have:=key names [] h
 simpa using this
theorem z8b{cells:List (Str × Addr)}:∀ {names:List (Str × NameKind)} {cs:List (Str × Addr)} {n:Str} {c:Addr},(n,c)∈clOf cells names cs→(n,c)∈cs∨((n,NameKind.free)∈names∧c=(cells.lookup n).getD 0)
 | [],_,_,_,h=>.inl h
 | y::r,cs,n,c,h=>by
  unfold clOf at h
  rcases z8b h with h1 | ⟨h1,h2⟩
  ·split at h1
   ·rename_i hk
    rcases List.mem_cons.mp h1 with e | h1
    ·obtain⟨y1,y2⟩:=y
     cases e
     have:y2=.free:=by simpa using hk
     subst this
     exact .inr ⟨List.mem_cons_self,rfl⟩
    ·exact .inl h1
   ·exact .inl h1
  ·exact .inr ⟨List.mem_cons_of_mem _ h1,h2⟩
theorem z73{cells:List (Str × Addr)}:∀ {names:List (Str × NameKind)} {cs:List (Str × Addr)} {q:Str × Addr},q∈cs→q∈clOf cells names cs
 | [],_,_,h=>h
 | y::r,cs,q,h=>by
  unfold clOf
  refine z73 ?_
  split
  ·exact List.mem_cons_of_mem _ h
  ·exact h
theorem z8c{cells:List (Str × Addr)}:∀ {names:List (Str × NameKind)} {cs:List (Str × Addr)} {n:Str},(n,NameKind.free)∈names→∃ c,(n,c)∈clOf cells names cs
 | [],_,_,h=>nomatch h
 | y::r,cs,n,h=>by
  rcases List.mem_cons.mp h with e | h
  ·subst e
   unfold clOf
   exact⟨(cells.lookup n).getD 0,z73 (by simp)⟩
  ·unfold clOf
   exact z8c h
theorem z3f{α:Type}:∀ {l:List (Str × α)} {x:Str} {c:α},l.lookup x=some c→(x,c)∈l
 | [],_,_,h=>nomatch h
 | (y,d)::r,x,c,h=>by
  rw[List.lookup_cons]at h
  split at h
  ·rename_i e
   cases h
   rw[eq_of_beq e];exact List.mem_cons_self
  ·exact List.mem_cons_of_mem _ (z3f h)
theorem z1Z{α:Type}:∀ {l:List (Str × α)} {x:Str} {c:α},(x,c)∈l→∃ d,l.lookup x=some d
 | [],_,_,h=>nomatch h
 | (y,d)::r,x,c,h=>by
  rw[List.lookup_cons]
  split
  ·exact⟨_,rfl⟩
  ·rename_i e
   rcases List.mem_cons.mp h with z | z
   ·cases z;simp at e
   ·exact z1Z z
def compChk(sc:Scope)(N0:List Str)(scope:Scope)(N:List Str)(k:Nat)(fr:List Nat):Bool :=
 decide (scope.kind=.function) && decide (sc.kind=.function) && scope.names.all (fun y=>decide (y.2≠.cell)) && scope.names.all (fun y=>!decide (y.2=.local) || decide (scope.names.lookup y.1=some .local)) &&
 scope.names.all (fun y=>!decide (y.2=.free) || decide (sc.names.lookup y.1=some .cell)) && decide (N.length=k + fr.length) &&
 (List.range fr.length).all fun t=>match fr[t]?,N[k + t]? with | some j,some x=>decide (N0[j]?=some x) && decide (scope.names.lookup x=some .free) | _,_=>false
theorem z2a{scope:Scope}{env:Env}:∀ {names:List (Str × NameKind)} {x:Str} {k:NameKind},(∀ y∈names,y.2=.free→env.scope.kind=.function∧env.scope.names.lookup y.1=some .cell)→names.lookup x=some k →
  (names.map fun(n,k)=>if (k == .free && env.scope.kind == .function && env.kindOf n == some .cell) then (n,NameKind.cell) else (n,k)).lookup x=some (if k=.free then .cell else k)
 | [],_,_,_,h=>nomatch h
 | (n,k')::r,x,k,hf,h=>by
  rw[List.lookup_cons]at h
  rw[List.map_cons]
  by_cases hk:k'=.free
  ·subst hk
   obtain⟨h1,h2⟩:=hf (n,.free) List.mem_cons_self rfl
   have e:(NameKind.free == NameKind.free && env.scope.kind == .function && env.kindOf n == some .cell)=true:=by
    simp only[beq_self_eq_true,Bool.true_and,Bool.and_eq_true,beq_iff_eq]
    exact⟨h1,h2⟩
   simp only[e,if_true]
   rw[List.lookup_cons]
   cases ex:x == n with
   | true=>rw[ex]at h;cases h;rfl
   | false=>rw[ex]at h;exact z2a (scope:=scope) (fun y hy=>hf y (List.mem_cons_of_mem _ hy)) h
  ·have e:(k' == NameKind.free && env.scope.kind == .function && env.kindOf n == some .cell)=false:=by simp[hk]
   simp only[e,Bool.false_eq_true,if_false]
   rw[List.lookup_cons]
   cases ex:x == n with
   | true=>rw[ex]at h;cases h;simp[hk]
   | false=>rw[ex]at h;exact z2a (scope:=scope) (fun y hy=>hf y (List.mem_cons_of_mem _ hy)) h
theorem z4s{env:Env}:∀ {names:List (Str × NameKind)} {x:Str},names.lookup x=none →
  (names.map fun(n,k)=>if (k == .free && env.scope.kind == .function && env.kindOf n == some .cell) then (n,NameKind.cell) else (n,k)).lookup x=none
 | [],_,_=>rfl
 | (n,k')::r,x,h=>by
  rw[List.lookup_cons]at h
  rw[List.map_cons]
  cases ex:x == n with
  | true=>rw[ex]at h;cases h
  | false =>
   rw[ex]at h
   have ih:=z4s (env:=env) (names:=r) h
   by_cases hk:(k' == NameKind.free && env.scope.kind == .function && env.kindOf n == some .cell)=true
   ·simp only[hk,if_true,List.lookup_cons,ex];exact ih
   ·simp only[hk,Bool.false_eq_true,if_false,List.lookup_cons,ex];exact ih
theorem compOkC{X:Cx}{sc:Scope}{N0:List Str}{scope:Scope}{N:List Str}{k:Nat}{fr:List Nat}(hsc:X.env.scope=sc)(hN:X.N=N0)(h:compChk sc N0 scope N k fr=true)(hc:∀ x,X.env.scope.names.lookup x=some .cell→∃ c,X.env.cells.lookup x=some c) :
  CompOk X scope (clOf X.env.cells scope.names []) N k fr:=by
 subst hsc hN
 simp only[compChk,Bool.and_eq_true,decide_eq_true_eq,List.all_eq_true,Bool.or_eq_true,Bool.not_eq_true',decide_eq_false_iff_not]at h
 obtain⟨⟨⟨⟨⟨⟨h1,h2⟩,h3⟩,h4⟩,h5⟩,h6⟩,h7⟩:=h
 have hfree:∀ y∈scope.names,y.2=.free→X.env.scope.names.lookup y.1=some .cell:=fun y hy e=>(h5 y hy).elim (fun z=>absurd e z) id
 have hcl:∀ y∈scope.names,y.2=.free→∃ c,X.env.cells.lookup y.1=some c:=fun y hy e=>hc _ (hfree y hy e)
 have hmem:∀ x,(x,NameKind.free)∈scope.names→∃ c,(clOf X.env.cells scope.names []).lookup x=some c:=fun x hx=>by
  obtain⟨c,h⟩:=z8c (cells:=X.env.cells) (cs:=[]) hx
  exact z1Z h
 have lab:∀ x kd,scope.names.lookup x=some kd→(relabel scope X.env).names.lookup x=some (if kd=.free then .cell else kd):=fun x kd hx =>
  z2a (scope:=scope) (env:=X.env) (fun y hy e=>⟨h2,hfree y hy e⟩) hx
 refine⟨h1,h3,fun y hy e=>(h4 y hy).elim (fun z=>absurd e z) id,z6f hcl,fun x c hx=>?_,fun x hx=>?_,h6,fun t j x ht hx=>?_⟩
 ·rcases z8b (z3f hx) with h | ⟨h,e⟩
  ·exact nomatch h
  ·obtain⟨c',hc'⟩:=hcl _ h rfl
   simp only at hc'
   rw[e,hc'];rfl
 ·cases e:scope.names.lookup x with
  | none =>
   have:=z4s (env:=X.env) e
   rcases hx with hx | hx
   ·rw[show(relabel scope X.env).names.lookup x=none from this]at hx;cases hx
   ·rw[show(relabel scope X.env).names.lookup x=none from this]at hx;cases hx
  | some kd =>
   have hl:=lab x kd e
   have hm:=z3f e
   by_cases hk:kd=.free
   ·subst hk;exact hmem x hm
   ·rw[if_neg hk]at hl
    have nc:=h3 _ hm
    rcases hx with hx | hx
    ·rw[hl]at hx;cases hx;exact absurd rfl nc
    ·rw[hl]at hx;cases hx;exact absurd rfl hk
 ·have htl:t < fr.length:=(List.getElem?_eq_some_iff.mp ht).1
  have h8:=h7 t (List.mem_range.mpr htl)
  rw[ht,hx]at h8
  simp only[Bool.and_eq_true,decide_eq_true_eq]at h8
  obtain⟨h9,h10⟩:=h8
  have hm:=z3f h10
  have hcell:=hfree _ hm rfl
  simp only at hcell
  refine⟨h9,.inr (.inl hcell),hmem x hm,.inl ?_,fun z=>by rw[hcell]at z;cases z⟩
  have:=lab x _ h10
  rw[if_pos rfl]at this
  exact this
mutual
def noList:D→Bool
 | .list _=>false
 | .dict _=>false
 | .tuple ds=>noLists ds
 | _=>true
def noLists:List D→Bool
 | []=>true
 | d::ds=>noList d && noLists ds
end
inductive tDVK(K:PySem.W.Frag)(Z:Zt)(A:List Addr)(F:FE)(σ:L2.St)(H:Hp)(Q:VK):Prop
 | mk (B:Hp) (ow:Ow) (δ:Sl) (s:Sx) (d:D) (s':Sx) (h0:RepS K B Z A ow σ δ H) (h1:StateAt Z H s) (h2:F δ s=some (d,s')) (h3:∀ v H',Ext Z H H'→StateAt Z H' s'→Rep K Z H' A v d→Q v H')
abbrev tDV(X:Cx)(Z:Zt)(A:List Addr)(F:FE):TE:=tDVK X.K Z A F
structure DV(X:Cx)(e:Expr)(F:FE):Prop where
 go:∀ Z A,PE X e (tDV X Z A F)
instance {X:Cx} {e:Expr} {F:FE}:CoeFun (DV X e F) (fun _=>∀ Z A,PE X e (tDV X Z A F)):=⟨fun h=>h.go⟩
inductive tDVAK(K:PySem.W.Frag)(Z:Zt)(A:List Addr)(F:FA)(σ:L2.St)(H:Hp)(Q:List V→Hp→Prop):Prop
 | mk (B:Hp) (ow:Ow) (δ:Sl) (s:Sx) (ds:List D) (s':Sx) (h0:RepS K B Z A ow σ δ H) (h1:StateAt Z H s) (h2:F δ s=some (ds,s')) (h3:∀ vs H',Ext Z H H'→StateAt Z H' s'→Reps K Z H' A vs ds→Q vs H')
abbrev tDVA(X:Cx)(Z:Zt)(A:List Addr)(F:FA):TA:=tDVAK X.K Z A F
structure DVA(X:Cx)(es:List Expr)(F:FA):Prop where
 go:∀ Z A,PA X es (tDVA X Z A F)
instance {X:Cx} {es:List Expr} {F:FA}:CoeFun (DVA X es F) (fun _=>∀ Z A,PA X es (tDVA X Z A F)):=⟨fun h=>h.go⟩
section
variable {X:Cx} {e e2 ie:Expr} {es:List Expr} {F Fa Fi:FE} {FL:FA} {x:Str} {i:Nat} {p pos px tpos:Pos}
def fVarW(i:Nat):FE:=fun δ s=>match δ[i]? with | some (.val d)=>some (d,s) | some (.own xs)=>some (.list xs,s) | _=>none
theorem zgI{e:Expr}(h:PE X e (tVar i)):DW X e (fVarW i):=⟨fun Z A=>PE.imp h fun σ H Q zfK=>by
 obtain⟨B,ow,δ,s,d,s',R,S,ee,q⟩:=zfK
 unfold fVarW at ee
 split at ee
 ·rename_i d' hd
  cases ee
  obtain⟨v,h1,h2⟩:=R.val i _ hd
  exact⟨v,h1,q v H (Ext.refl H) S h2.w⟩
 ·rename_i xs hd
  cases ee
  obtain⟨p,vs,h1,h2,h3,h4⟩:=R.own i xs hd
  exact⟨_,h2,q _ H (Ext.refl H) S (.inr ⟨p,vs,_,rfl,rfl,h3,(R.ows i p h1).2.2.1,h4⟩)⟩
 ·cases ee⟩
theorem dvw(i:Nat){x:Str}(hN:X.N[i]?=some x:=by rfl)(hv:Vis X.env.scope x:=by first | exact Or.inl rfl | exact Or.inr (Or.inl rfl) | exact Or.inr (Or.inr rfl))(hd:(x == ("__debug__":Str))=false:=by decide)
  (hcd:(x == ("__classdict__":Str))=false:=by decide):DW X (.Name x pos) (fVarW i):=zgI (pv i hN hv hd hcd)
end
end L3
namespace L3
open PySem L2 PySem.Spec PyProof.Rows
mutual
inductive Cn:Expr→D→Prop
 | int {i:Int} {j:Nat} {p:Pos}:Cn (.Constant (.int i) j p) (.int i)
 | bl {b:Bool} {j:Nat} {p:Pos}:Cn (.Constant (.bool b) j p) (.bool b)
 | non {j:Nat} {p:Pos}:Cn (.Constant .none j p) .none
 | str {x:Str} {j:Nat} {p:Pos}:Cn (.Constant (.str x) j p) (.str x)
 | neg {a:Expr} {i:Int} {p:Pos}:Cn a (.int i)→Cn (.UnaryOp .USub a p) (.int (-i))
 | tup {es:List Expr} {ds:List D} {c:Nat} {p:Pos}:small ds=true→Cns es ds→Cn (.Tuple es c p) (.tuple ds)
 | lst {es:List Expr} {ds:List D} {p:Pos}:small ds=true→Cns es ds→Cn (.List es p) (.list ds)
inductive Cns:List Expr→List D→Prop
 | nil:Cns [] []
 | cons {e:Expr} {d:D} {es:List Expr} {ds:List D}:Cn e d→Cns es ds→Cns (e::es) (d::ds)
end
structure Cst(K:PySem.W.Frag)(mg:Str→Option Value)(x:Str)(d:D):Prop where
 de:∀ {X:Cx} {pos:Pos},X.K=K→X.mg=mg→Gl X x→DE X (.Name x pos) (fC d)
theorem zbg{e:Expr}{d:D}{es:List Expr}{env:Env}(h:Cn e d):starEach (e::es) env=(false,eval e env)::starEach es env:=by
 cases h <;> rfl
section
variable {X:Cx}
theorem DE.as{e:Expr}{F G:FE}(h:DE X e F)(he:∀ δ s r,G δ s=some r→F δ s=some r):DE X e G:=⟨fun Z A=>PE.imp (h Z A) fun σ H Q zfL=>(by obtain⟨B,ow,δ,s,d,s',R,S,ee,q⟩:=zfL;exact⟨B,ow,δ,s,d,s',R,S,he _ _ _ ee,q⟩)⟩
theorem zei{e:Expr}{d:D}(h:Cn e d):DE X e (fC d) :=
 Cn.rec (motive_1:=fun e d _=>DE X e (fC d)) (motive_2:=fun es ds _=>DA X es (fun _ s=>some (ds,s))) de_int z4a z6U ze7
  (fun _ h=>(z3R h.w).as fun δ s r hr=>by cases hr;rfl) (fun hs _ h=>(z1p h).as fun δ s r hr=>by cases hr;unfold eTup;simp[hs]) (fun hs _ h=>(z1R h).as fun δ s r hr=>by cases hr;unfold eLst;simp[hs])
  zd (fun h _ d t=>z0 d t (zbg h)) h
end
end L3
namespace L3
open PySem L2 PySem.Spec PyProof.Rows
theorem z3g{T:Tgt}{Ft:FT}{F:FE}{δc:Sl}{f:D→D}{s:Sx}:∀ (ds:List D),(∀ d∈ds,∃ δ1,T.run d δc=some δ1∧Ft δ1 s=some (true,s)∧F δ1 s=some (f d,s))→compD T Ft F δc ds s=some (ds.map f,s)
 | [],_=>rfl
 | d::ds,h=>by
  obtain⟨δ1,e1,e2,e3⟩:=h d List.mem_cons_self
  have ih:=z3g ds fun d hd=>h d (List.mem_cons_of_mem _ hd)
  unfold compD
  rw[e1]
  simp only[Option.bind_some,e2,if_true,e3,ih,Option.map_some,List.map_cons]
theorem z74{T:Tgt}{Ft:FT}{F:FE}{δc:Sl}(P:D→Prop)(c:Nat)(step:∀ n s d,Good (n + c) s→∃ δ1 x s',T.run d δc=some δ1∧Ft δ1 s=some (true,s)∧F δ1 s=some (x,s')∧P x∧Good n s') :
  ∀ (ds:List D) (n:Nat) (s:Sx),Good (n + c * ds.length) s→∃ xs s',compD T Ft F δc ds s=some (xs,s')∧(∀ x∈xs,P x)∧xs.length=ds.length∧Good n s'
 | [],n,s,h=>⟨[],s,rfl,(fun _ z=>nomatch z),rfl,by simpa using h⟩
 | d::ds,n,s,h=>by
  obtain⟨δ1,x,s1,e1,e2,e3,hx,g1⟩:=step (n + c * ds.length) s d (h.mono (by rw[List.length_cons,Nat.mul_add];omega))
  obtain⟨xs,s2,e4,hxs,hl,g2⟩:=z74 P c step ds n s1 g1
  refine⟨x::xs,s2,?_,?_,by simp[hl],g2⟩
  ·unfold compD
   rw[e1]
   simp only[Option.bind_some,e2,if_true,e3,e4,Option.map_some]
  ·intro y hy
   rcases List.mem_cons.mp hy with rfl | hy
   ·exact hx
   ·exact hxs y hy
theorem zJ{l:List D}(h:l.length≤1000):small l=true:=decide_eq_true (Nat.le_trans h (by decide))
theorem atI_nat{l:List D}{n:Nat}{d:D}(h:l[n]?=some d):L2.atI l (n:Int)=some d:=by
 have hl:=(List.getElem?_eq_some_iff.mp h).1
 unfold L2.atI ixN
 rw[if_pos (by omega),if_pos (by omega),Int.toNat_natCast]
 exact h
end L3
namespace L3
open PySem L2 PySem.Spec PyProof.Rows
def lookF(f:Str):List (D × D)→Option D
 | (.str n,d)::r=>if f=n then some d else lookF f r
 | _=>none
theorem Reps.field{K:PySem.W.Frag}{Z:Zt}{H:Hp}{A:List Addr}{f:Str}{d:D}:∀ {ns:List Str} {vs:List V} {ds:List D},Reps K Z H A vs ds→lookF f ((ns.map PyData.str).zip ds)=some d→∃ v,(ns.zip vs).lookup f=some v∧Rep K Z H A v d
 | [],_,_,_,h=>by simp[lookF]at h
 | n::ns,_,_,.nil,h=>by simp[lookF]at h
 | n::ns,_,_,.cons (v:=v) r t,h=>by
  simp only[List.map_cons,List.zip_cons_cons,lookF]at h
  rw[List.zip_cons_cons,List.lookup_cons]
  split at h
  ·rename_i e
   cases h
   subst e
   exact⟨v,by simp,r⟩
  ·rename_i e
   obtain⟨v',h1,h2⟩:=Reps.field t h
   have:(f == n)=false:=by simpa using e
   exact⟨v',by rw[this];exact h1,h2⟩
theorem Reps.nofield{K:PySem.W.Frag}{Z:Zt}{H:Hp}{A:List Addr}{f:Str}:∀ {ns:List Str} {vs:List V} {ds:List D},Reps K Z H A vs ds→lookF f ((ns.map PyData.str).zip ds)=none→(ns.zip vs).lookup f=none
 | [],_,_,_,_=>rfl
 | n::ns,_,_,.nil,_=>rfl
 | n::ns,_,_,.cons r t,h=>by
  simp only[List.map_cons,List.zip_cons_cons,lookF]at h
  rw[List.zip_cons_cons,List.lookup_cons]
  split at h
  ·cases h
  ·rename_i e
   have:(f == n)=false:=by simpa using e
   rw[this]
   exact Reps.nofield t h
theorem RepW.object{K:PySem.W.Frag}{Z:Zt}{H:Hp}{A:List Addr}{v:V}{e c:Str}{fs:List (D × D)}(r:RepW K Z H A v (.dict ((.str e,.str c)::fs))) :
  ∃ (p C dx:Addr) (ns:List Str) (vs:List V) (ds:List D),v=.ref p∧PySem.W.nsIn K mainGlobals c=some (some (.ref C))∧H p=some (.ins C dx (ns.zip vs))∧Reps K Z H A vs ds∧fs=(ns.map PyData.str).zip ds:=by
 rcases r with r | ⟨_,_,_,_,e2,_⟩
 ·cases r with
  | obj k h n z q=>exact⟨_,_,_,_,_,_,rfl,k,h,q,rfl⟩
 ·cases e2
inductive CstV(K:PySem.W.Frag)(mg:Str→Option Value)(x:Str)(d:D):Prop
 | mk (v:V) (u:Value) (h0:mg x=some u) (h1:RelV v u) (h2:∀ Z H A,Rep K Z H A v d)
inductive IsM(K:PySem.W.Frag)(c m q:Str)(st:Stmt):Prop
 | mk (C:Addr) (f:Addr) (fd:FuncData) (h0:PySem.W.nsIn K mainGlobals c=some (some (.ref C))) (h1:Cls K C) (h2:Meth K C m f) (h3:Fun K m q st f fd)
inductive IsI(K:PySem.W.Frag)(mg:Str→Option Value)(c q:Str)(st:Stmt)(fs:List Str):Prop
 | mk (C:Addr) (f:Addr) (fd:FuncData) (h0:PySem.W.nsIn K mainGlobals c=some (some (.ref C))) (h1:mg c=some (.ref C)) (h2:Mk K C f) (h3:Cls K C) (h4:(∀ x∈fs,NoAttr K C x)) (h5:Fun K "__init__" q st f fd)
section
variable {X:Cx} {e o:Expr} {es:List Expr} {Fa Fo:FE} {FL:FA} {f x m:Str} {p pos apos:Pos}
inductive FCal(K:PySem.W.Frag)(c f:Str):Prop
 | mk (C:Addr) (h0:PySem.W.nsIn K mainGlobals c=some (some (.ref C))) (h1:Cls K C) (h2:NoAttr K C f)
def gFld(cs:List Str)(f:Str):G1:=fun d=>match d with | .dict ((.str _,.str c)::fs)=>if c∈cs then lookF f fs else none | _=>none
theorem z20{cs:List Str}(hc:∀ c∈cs,FCal X.K c f)(ha:DW X e Fa)(hb:attributeBase e f X.env (eval e X.env)=eval e X.env:=by rfl):DE X (.Attribute e f pos) (f1 (gFld cs f) Fa):=⟨fun Z A=>PE.imp (zdU (ha Z A) hb) fun σ H Q zfM=>by
 obtain⟨B,ow,δ,s,d,s',R,S,ee,q⟩:=zfM
 unfold f1 at ee
 first | refine bnd2 ee fun dx s1 e1 ee=>?_ | refine mpp2 ee fun dx s1 e1 ee=>?_
 replace ee:((gFld cs f dx).map fun d=>(d,s1))=some (d,s'):=ee
 cases e3:gFld cs f dx with
 | none=>rw[e3]at ee;cases ee
 | some d' =>
  rw[e3]at ee
  cases ee
  refine⟨B,ow,δ,s,dx,_,R,S,e1,fun v H1 x1 S1 r=>?_⟩
  unfold gFld at e3
  split at e3
  ·rename_i e0 c fs
   split at e3
   ·rename_i hin
    obtain⟨p,C,dxx,ns,vs,ds,rfl,k,h,rs,rfl⟩:=r.object
    obtain⟨C',k',cl,na⟩:=(hc c hin)
    rw[k]at k'
    cases k'
    obtain⟨v',h1,h2⟩:=rs.field e3
    exact⟨p,C,dxx,_,v',rfl,h,cl,na,h1,q v' H1 x1 S1 h2⟩
   ·cases e3
  ·cases e3⟩
inductive MCal(P:Program)(w:World)(K:PySem.W.Frag)(mg:Str→Option Value)(base:Heap)(c m:Str)(k:Nat)(g:GF):Prop
 | mk (C:Addr) (f:Addr) (fd:FuncData) (ps:List Str) (h0:PySem.W.nsIn K mainGlobals c=some (some (.ref C))) (h1:Cls K C) (h2:Meth K C m f) (h3:FnOk P w K mg base CX0 k f fd ps (spD K g)) (h4:Binds K fd ps [])
def fMeth(tab:List (Str × GF))(m:Str)(Fo:FE)(FL:FA):FE:=fun δ s=>(Fo δ s).bind fun p=>match p.1 with
 | .dict ((.str e,.str c)::fs)=>if (lookF m fs).isNone=true then (tab.lookup c).bind fun g=>(FL δ p.2).bind fun q=>g (.dict ((.str e,.str c)::fs)::q.1) q.2 else none
 | _=>none
theorem z1y{tab:List (Str × GF)}{k':Nat}{pl:Sem Bool}(ht:∀ c g,tab.lookup c=some g→∃ k,k≤k'∧MCal X.prog X.w X.K X.mg X.base c m k g)(hr:Room k' X.A)(ho:DE X o Fo)(ha:DA X (e::es) FL)
  (hst:starEach (e::es) X.env=(false,eval e X.env)::starEach es X.env:=by rfl) (hpl:(backTo pos (starEach es X.env)).any (·.1)=false:=by rfl)
  (hev:eval (.Call (.Attribute o m apos) (e::es) [] pos) X.env=(do
   let ov ← eval o X.env
   standAt apos.atName
   let (f,first) ← holding [ov] (getMethod ov m pl)
   callWith pos f first (backTo pos (starEach (e::es) X.env)) (backToKw pos (keywordEach [] X.env))):=by rfl) :
  DE X (.Call (.Attribute o m apos) (e::es) [] pos) (fMeth tab m Fo FL):=⟨fun Z A pins s σ H Q I zfN=>by
 obtain⟨B,ow,δ,st,d,st',R,S,ee,q⟩:=zfN
 unfold fMeth at ee
 first | refine bnd2 ee fun dx s1 e1 ee=>?_ | refine mpp2 ee fun dx s1 e1 ee=>?_
 try simp only[Option.bind_some]at ee
 split at ee
 ·rename_i e0 c fs
  split at ee
  ·rename_i hno
   first | refine bnd1 ee fun g e2 ee=>?_ | refine mpp1 ee fun g e2 ee=>?_
   try simp only[Option.bind_some]at ee
   first | refine bnd2 ee fun ds s2 e3 ee=>?_ | refine mpp2 ee fun ds s2 e3 ee=>?_
   try simp only[Option.bind_some]at ee
   obtain⟨k,hk,mc⟩:=ht c g e2
   obtain⟨C,f,fd,ps,kC,cl,me,G,hb⟩:=mc
   refine zct (pl:=pl) (E:=E0) (ho Z A) cl me G (hr.mono hk) hb .nil pass0 (ha Z A) hst hpl hev pins s σ H Q I ⟨B,ow,δ,st,_,s1,R,S,e1,fun v H1 x1 S1 r=>?_⟩
   obtain⟨p,C',dxx,ns,vs,fds,rfl,kC',h,rs,efs⟩:=r.w.object
   rw[kC]at kC'
   cases kC'
   have hnone:lookF m ((ns.map PyData.str).zip fds)=none:=by rw[← efs];simpa using hno
   refine⟨p,dxx,_,rfl,h,rs.nofield hnone,⟨B,ow,δ,s1,ds,s2,R.mono x1,S1,e3,fun us H2 x2 S2 rus=>?_⟩⟩
   show spD X.K g (V.ref p::(us++[])) H2 Q E0
   rw[List.append_nil]
   refine⟨Z,A++ow.map (·.2),_::ds,s2,d,st',.cons (r.ext x2) rus,fun q hq=>?_,S2,ee,fun v H' a b c=>q v H' ((x1.trans x2).trans a) b c⟩
   refine⟨(R.mono (x1.trans x2)).all q hq,?_⟩
   rcases List.mem_append.mp hq with h | h
   ·exact(R.ok q h).2
   ·obtain⟨⟨i,p⟩,hp,rfl⟩:=List.mem_map.mp h
    exact(R.ows i p hp).2.2.1
  ·cases ee
 ·cases ee⟩
def spI(K:PySem.W.Frag)(C:Addr)(ns:List Str)(gI:List D→Option (List D)):Sp:=fun vs H Q _=>∃ Z A p dx ws ds fds,vs=.ref p::ws∧H p=some (.ins C dx [])∧NotZ Z p∧Reps K Z H (p::A) ws ds∧gI ds=some fds ∧
 ∀ fvs H',(∀ b o,H b=some o→b≠p→H' b=some o)→H' p=some (.ins C dx (ns.zip fvs))→Reps K Z H' (p::A) fvs fds→Q .non H'
inductive KCal(P:Program)(w:World)(K:PySem.W.Frag)(mg:Str→Option Value)(base:Heap)(c:Str)(k:Nat)(ns:List Str)(gI:List D→Option (List D)):Prop
 | mk (C:Addr) (f:Addr) (fd:FuncData) (ps:List Str) (h0:PySem.W.nsIn K mainGlobals c=some (some (.ref C))) (h1:mg c=some (.ref C)) (h2:Mk K C f) (h3:FnOk P w K mg base CX0 k f fd ps (spI K C ns gI)) (h4:Binds K fd ps [])
def fMake(c:Str)(ns:List Str)(gI:List D→Option (List D))(FL:FA):FE:=fun δ s=>(FL δ s).bind fun p=>(gI p.1).map fun fds=>(.dict ((.str "",.str c)::(ns.map PyData.str).zip fds),p.2)
theorem z9X{C:Addr}{c:Str}{ns:List Str}{gI:List D→Option (List D)}{Z:Zt}{A:List Addr}{σ:L2.St}{H:Hp}{Q:VK}{E:XK}{FL:FA}(kC:PySem.W.nsIn X.K mainGlobals c=some (some (.ref C)))(h:tD X Z A (fMake c ns gI FL) σ H Q):tMake C (spI X.K C ns gI) [] E (tDA X Z A FL) σ H Q:=by
 obtain⟨B,ow,δ,s,d,s',R,S,ee,q⟩:=h
 unfold fMake at ee
 first | refine bnd2 ee fun ds s1 e1 ee=>?_ | refine mpp2 ee fun ds s1 e1 ee=>?_
 replace ee:((gI ds).map fun fds=>(PyData.dict ((.str "",.str c)::(ns.map PyData.str).zip fds),s1))=some (d,s'):=ee
 first | refine bnd1 ee fun fds e2 ee=>?_ | refine mpp1 ee fun fds e2 ee=>?_
 cases ee
 refine⟨B,ow,δ,s,ds,_,R,S,e1,fun vs H1 x1 S1 rs=>fun x dx nx ndx nex=>?_⟩
 rw[List.append_nil]
 have keep:∀ b o,H1 b=some o→(upd (upd H1 dx (.own x)) x (.ins C dx [])) b=some o:=fun b o e=>by rw[zj (zm e nx),zj (zm e ndx)];exact e
 have rs2:Reps X.K Z (upd (upd H1 dx (.own x)) x (.ins C dx [])) (x::(A++ow.map (·.2))) vs ds:=((rs.fresh (o:=.own x) ndx).fresh (o:=.ins C dx []) (by rw[zj (Ne.symm nex)];exact nx)).sub fun q hq=>by
  rcases List.mem_cons.mp hq with h | h
  ·rw[h];exact List.mem_cons_self
  ·exact List.mem_cons_of_mem _ (List.mem_cons_of_mem _ h)
 refine⟨Z,A++ow.map (·.2),x,dx,vs,ds,fds,rfl,zq,S1.notZ nx,rs2,e2,fun fvs H' hk hp rf=>⟨rfl,?_⟩⟩
 have xx:Ext Z H1 H':=fun b o e _=>hk b o (keep b o e) (zm e nx)
 exact q _ H' (x1.trans xx) (fun a c e=>⟨hk _ _ (keep _ _ (S1 a c e).1) (zm (S1 a c e).1 nx),hk _ _ (keep _ _ (S1 a c e).2) (zm (S1 a c e).2 nx)⟩) (.obj kC hp (zO (R.mono x1).all nx) (S1.notZ nx) (rf.sub fun q hq=>List.mem_cons_of_mem _ hq))
theorem zcR{c:Str}{k k':Nat}{ns:List Str}{gI:List D→Option (List D)}(K:KCal X.prog X.w X.K X.mg X.base c k ns gI)(hr:Room k' X.A)(ha:DA X (e::es) FL)(hk:k + 1≤k':=by decide)(hg:Gl X c:=by rfl)(hdb:(c == ("__debug__":Str))=false:=by decide)
  (hst:starEach (e::es) X.env=(false,eval e X.env)::starEach es X.env:=by rfl) (hpl:(backTo pos (starEach es X.env)).any (·.1)=false:=by rfl):DE X (.Call (.Name c p) (e::es) [] pos) (fMake c ns gI FL):=by
 obtain⟨C,f,fd,ps,kC,hm,M,G,hb⟩:=K
 exact⟨fun Z A=>PE.imp (zcu (E:=E0) M G (hr.mono hk) hg hm hb .nil pass0 (ha Z A) hdb hst hpl) fun σ H Q q=>z9X kC q⟩
end
end L3
namespace L3
open PySem L2 PySem.Spec PyProof.Rows
section
variable {X:Cx} {e:Expr} {F:FE} {p pos:Pos}
def enumD(xs:List D):List D:=xs.zipIdx.map fun z=>.tuple [.int (z.2:Int),z.1]
def iEnumF(F:FE):FI:=fun δ s=>(F δ s).bind fun p=>(seqOf p.1).map fun xs=>(enumD xs,p.2)
theorem zcS{elts:List Expr}{c:Nat}{tp:Pos}(hm:X.mg "enumerate"=none)(ha:DE X e F)(hg:Gl X "enumerate":=by rfl)(hs:starEach [e] X.env=[(false,eval e X.env)]:=by rfl) :
  DI X (.Tuple elts c tp) (.Call (.Name "enumerate" p) [e] [] pos) (iEnumF F) :=
 ⟨fun Z A=>PI.imp (zcG hg hm (zy (ha Z A) z0r (by rw[hs];rfl)) hs) fun σ H R zfO=>by
  obtain⟨B,ow,δ,s,ds,s',RS,S,ee,q⟩:=zfO
  unfold iEnumF at ee
  first | refine bnd2 ee fun d s1 e1 ee=>?_ | refine mpp2 ee fun d s1 e1 ee=>?_
  replace ee:((seqOf d).map fun xs=>(enumD xs,s1))=some (ds,s'):=ee
  first | refine bnd1 ee fun xs e3 ee=>?_ | refine mpp1 ee fun xs e3 ee=>?_
  cases ee
  refine⟨B,ow,δ,s,d,s',RS,S,e1,fun v H1 x1 S1 r=>?_⟩
  obtain⟨k1,a1,vs1,rfl,sq1,rs1,st1⟩:=z9S r e3
  refine⟨k1,a1,vs1,rfl,sq1,q _ H1 x1 S1 ?_⟩
  intro ow' H' st f S' hA i
  have g1:=st1 ow' H' f
  refine⟨fun dd hd=>?_,fun hi=>⟨vs1,g1,?_⟩⟩
  ·unfold enumD at hd
   rw[List.getElem?_map,List.getElem?_zipIdx]at hd
   cases e5:xs[i]? with
   | none=>rw[e5]at hd;cases hd
   | some z =>
    rw[e5]at hd
    cases hd
    obtain⟨u1,h1,q1⟩:=(rs1.frm f).get e5
    refine⟨⟨vs1,u1,g1,h1⟩,fun x H3 zfP=>?_⟩
    obtain⟨p,y1,ex,hp,eH,f1⟩:=zfP
    have z1:=f1 vs1 g1
    rw[h1]at z1
    cases z1
    subst ex eH
    refine⟨Ext.upd hp,S'.upd hp,.tup zq (zO hA hp) (S'.notZ hp) (.cons ?_ (.cons (q1.ext (Ext.upd hp)) .nil))⟩
    simp only[Nat.zero_add]
    exact .int _
  ·rw[rs1.length]
   unfold enumD at hi
   rw[List.length_map,List.length_zipIdx]at hi
   exact hi⟩
end
end L3
namespace L3
open PySem L2 PySem.Spec PyProof.Rows
section
variable {X:Cx} {tg e:Expr} {F:FE} {p pos p2 pos2:Pos}
def rngDn(n:Nat):List D:=(List.range n).map fun(k:Nat)=>.int (0 + (n:Int) - 1 - (k:Int))
def iRevRange(F:FE):FI:=fun δ s=>(F δ s).bind fun p=>match p.1 with | .int j=>if rOk j=true then some (rngDn j.toNat,p.2) else none | _=>none
theorem zej{K:PySem.W.Frag}{Z:Zt}{A:List Addr}{ow:Ow}{H:Hp}(n:Nat):Src K Z A ow (Itd 0 n) (rngDn n) H:=fun ow' H' st f S hA i=>by
 refine⟨fun d hd=>?_,fun hi=>(show n≤i by simpa [rngDn] using hi)⟩
 unfold rngDn at hd
 rw[List.getElem?_map]at hd
 first | refine bnd1 hd fun k e hd=>?_ | refine mpp1 hd fun k e hd=>?_
 cases hd
 have h1:=(List.getElem?_eq_some_iff.mp e).1
 rw[List.length_range]at h1
 rw[List.getElem?_range h1]at e
 cases e
 exact⟨h1,fun x H3 zfQ=>by obtain⟨e1,e2⟩:=zfQ;subst e1 e2;exact⟨Ext.refl _,S,.int _⟩⟩
theorem zcT(hm:X.mg "reversed"=none)(hm2:X.mg "range"=none)(ha:DE X e F)(hg:Gl X "reversed":=by rfl)(hg2:Gl X "range":=by rfl)(hs2:starEach [e] X.env=[(false,eval e X.env)]:=by rfl)
  (hs:starEach [.Call (.Name "range" p2) [e] [] pos2] X.env=(false,eval (.Call (.Name "range" p2) [e] [] pos2) X.env)::starEach [] X.env:=by rfl):DI X tg (.Call (.Name "reversed" p) [.Call (.Name "range" p2) [e] [] pos2] [] pos) (iRevRange F) :=
 ⟨fun Z A=>PI.imp (zcH hg hm hg2 hm2 (zy (ha Z A) z0r hs2) hs2 hs) fun σ H R zfR=>by
  obtain⟨B,ow,δ,s,ds,s',RS,S,ee,q⟩:=zfR
  unfold iRevRange at ee
  first | refine bnd2 ee fun d s1 e1 ee=>?_ | refine mpp2 ee fun d s1 e1 ee=>?_
  refine⟨B,ow,δ,s,d,s1,RS,S,e1,fun v H1 x1 S1 r=>?_⟩
  cases r with
  | int j =>
   replace ee:(if rOk j=true then some (rngDn j.toNat,s1) else none)=some (ds,s'):=ee
   split at ee
   ·rename_i hj
    cases ee
    unfold rOk at hj
    rw[Bool.and_eq_true]at hj
    exact⟨j,rfl,of_decide_eq_true hj.1,of_decide_eq_true hj.2,q _ H1 x1 S1 (zej j.toNat)⟩
   ·cases ee
  | _=>cases ee⟩
end
end L3
namespace L3
open PySem L2 PySem.Spec PyProof.Rows
section
variable {X:Cx} {e:Expr} {sts:List Stmt} {f x:Str} {p pos px ap:Pos}
def SV(X:Cx)(e:Expr)(v:L2.St→Option V):Prop:=PE X e (fun σ H Q=>∃ y,v σ=some y∧Q y H)
theorem zc6{i:Int}{j}:SV X (.Constant (.int i) j pos) (fun _=>some (.int i)):=PE.imp z4V fun σ H Q zfS=>by obtain⟨y,e,q⟩:=zfS;cases e;exact q
theorem zek{i:Nat}(h:PE X e (tVar i)):SV X e (fun σ=>(σ[i]?).getD none):=PE.imp h fun σ H Q zfT=>by
 obtain⟨y,e,q⟩:=zfT
 replace e:(σ[i]?).getD none=some y:=e
 cases e1:σ[i]? with
 | none=>rw[e1]at e;cases e
 | some o =>
  rw[e1]at e
  cases o with
  | none=>cases e
  | some y'=>cases e;exact⟨_,e1,q⟩
def putAll(fs0:List (Str × V)):List Str→List V→List (Str × V)
 | n::ns,v::vs=>putAll (putF n v fs0) ns vs
 | _,_=>fs0
def vals?(σ:L2.St):List (L2.St→Option V)→Option (List V)
 | []=>some []
 | v::r=>(v σ).bind fun x=>(vals? σ r).map fun xs=>x::xs
def IS(X:Cx)(C:Addr)(sts:List Stmt)(ns:List Str)(vs:List (L2.St→Option V)):Prop:=PSs X sts (fun D σ H=>∃ p dx fs0 xs,σ[0]?=some (some (.ref p))∧H p=some (.ins C dx fs0)∧vals? σ vs=some xs∧fs0.length + ns.length≤100 ∧
 ∀ H',(∀ b o,H b=some o→b≠p→H' b=some o)→H' p=some (.ins C dx (putAll fs0 ns xs))→D.nx σ H')
theorem zel{C:Addr}:IS X C [] [] []:=PSs.imp z4X fun D σ H zfU=>by
 obtain⟨p,dx,fs0,xs,h1,h2,h3,h4,q⟩:=zfU
 cases h3
 exact q H (fun b o e _=>e) h2
theorem z7M{C:Addr}{ns:List Str}{vs:List (L2.St→Option V)}{v:L2.St→Option V}(cl:Cls X.K C)(na:NoAttr X.K C f)(ho:PE X (.Name x px) (tVar 0))(he:SV X e v)(hr:IS X C sts ns vs)
  (hs:swapsWith e (some (.Attribute (.Name x px) f ap)) pos.line X.env=pure false:=by rfl):IS X C (.Assign [.Attribute (.Name x px) f ap] e pos::sts) (f::ns) (v::vs) :=
 PSs.imp (z0b (zdV ho he hs) hr) fun D σ H zfV=>by
  obtain⟨p,dx,fs0,xs,h1,h2,h3,h4,q⟩:=zfV
  unfold vals? at h3
  first | refine bnd1 h3 fun y e1 h3=>?_ | refine mpp1 h3 fun y e1 h3=>?_
  try simp only[Option.bind_some]at h3
  first | refine bnd1 h3 fun ys e2 h3=>?_ | refine mpp1 h3 fun ys e2 h3=>?_
  cases h3
  rw[List.length_cons]at h4
  refine⟨y,e1,_,h1,p,C,dx,fs0,rfl,h2,cl,na,by omega,?_⟩
  refine⟨p,dx,putF f y fs0,ys,h1,zq,e2,?_,fun H' a b=>q H' (fun b' o e hb=>a b' o (by rw[zj hb];exact e) hb) b⟩
  have:=z3y f y fs0
  omega
end
theorem Reps.past{K:PySem.W.Frag}{Z:Zt}{H H':Hp}{A:List Addr}{p:Addr}(hk:∀ b o,H b=some o→b≠p→H' b=some o){vs:List V}{ds:List D}(r:Reps K Z H (p::A) vs ds):Reps K Z H' (p::A) vs ds:=r.move fun b o h n z=>⟨hk b o h fun e=>n (by rw[e];exact List.mem_cons_self),n⟩
section
variable {P:Program} {w:World} {K:PySem.W.Frag} {mg:Str→Option Value} {base:Heap}
theorem initOk{c q:Str}{st:Stmt}{ps ns:List Str}{C f:Addr}{fd:FuncData}{vs:List (L2.St→Option V)}{gI:List D→Option (List D)}(kC:PySem.W.nsIn K mainGlobals c=some (some (.ref C)))(hm:mg c=some (.ref C))(M:Mk K C f)(F:Fun K "__init__" q st f fd)(S:FnScope ps ps (defScope st))(hb:Binds K fd ps [])
  (hns:ns.length≤100) (hnd:∀ xs:List V,xs.length=ns.length→putAll [] ns xs=ns.zip xs)
  (hlen:∀ ds fds,gI ds=some fds→ds.length + 1=ps.length)
  (hbody:∀ (cdv:Value) (A:Around) (outer:List Env) (s:Shared) (H:Hp) (E:XK),IS (cxOf CX0 P w K mg base ps q (defScope st) f cdv A outer s H E).nox C (defBody st) ns vs)
  (hv:∀ Z H A p ws ds fds,Reps K Z H A ws ds→gI ds=some fds→∃ xs,vals? (some (.ref p)::ws.map some) vs=some xs∧xs.length=ns.length∧Reps K Z H A xs fds):KCal P w K mg base c 1 ns gI:=by
 refine⟨C,f,fd,ps,kC,hm,M,F.ok S (fun vs H Q E h=>?_) (fun cdv A outer s H us Q E hr h=>?_),hb⟩
 ·obtain⟨Z,A,p,dx,ws,ds,fds,rfl,_,_,rs,e,_⟩:=h
  rw[List.length_cons,rs.length]
  exact hlen ds fds e
 ·obtain⟨Z,A0,p,dx,ws,ds,fds,rfl,hp,nz,rs,e,q⟩:=h
  obtain⟨xs,h1,h2,h3⟩:=hv Z H (p::A0) p ws ds fds rs e
  refine⟨_,hbody cdv A outer s H E,?_⟩
  have hst:L2.start ps (.ref p::ws)=some (.ref p)::ws.map some:=by
   unfold L2.start
   rw[show ps.length - (V.ref p::ws).length=0 by rw[List.length_cons,rs.length,hlen ds fds e,Nat.sub_self]]
   simp
  rw[hst]
  refine⟨p,dx,[],xs,rfl,hp,h1,by simpa using hns,fun H' a b=>?_⟩
  rw[hnd xs h2]at b
  exact q xs H' a b (h3.past a)
end
end L3
namespace L3
theorem z6g{Pm:PySem.Str→GF→Prop}:∀ c g,([]:List (PySem.Str × GF)).lookup c=some g→Pm c g:=fun _ _ h=>nomatch h
theorem z4N{Pm:PySem.Str→GF→Prop}{n:PySem.Str}{g1:GF}{l:List (PySem.Str × GF)}(h:Pm n g1)(ht:∀ c g,l.lookup c=some g→Pm c g):∀ c g,((n,g1)::l).lookup c=some g→Pm c g:=fun c g e=>by
 rw[List.lookup_cons]at e
 split at e
 ·rename_i hb
  cases e
  rw[eq_of_beq hb]
  exact h
 ·exact ht c g e
end L3
namespace L3
open PySem L2 PySem.Spec PyProof.Rows
end L3
namespace L3
open PySem L2 PySem.Spec PyProof.Rows
def co(l:List Rat)(i:Nat):Rat:=l.getD i 0
def sh(i:Nat)(g:Nat→Rat)(k:Nat):Rat:=if i≤k then g (k - i) else 0
def cv:Nat→(Nat→Rat)→(Nat→Rat)→Nat→Rat
 | 0,_,_,_=>0
 | N + 1,q,g,k=>cv N q g k + q N * sh N g k
end L3
namespace L3
open PySem L2 PySem.Spec PyProof.Rows
theorem z8d{T:Tgt}{G:GS}(I:Nat→Sl→Sx→Prop):∀ (ds:List D) (o:Nat) (δ:Sl) (s:Sx),I o δ s →
  (∀ j d δ s,ds[j]?=some d→I (o + j) δ s→∃ δ1 δ' s',T.run d δ=some δ1∧G δ1 s=some (.next δ',s')∧I (o + j + 1) δ' s')→∃ δ' s',forD T G ds δ s=some (.next δ',s')∧I (o + ds.length) δ' s'
 | [],o,δ,s,h,_=>⟨δ,s,rfl,h⟩
 | d::ds,o,δ,s,h,step=>by
  obtain⟨δ1,δ2,s2,e1,e2,h2⟩:=step 0 d δ s rfl h
  obtain⟨δ3,s3,e3,h3⟩:=z8d I ds (o + 1) δ2 s2 h2 fun j d' δ s hd hi=>by
   obtain⟨a,b,c,x,y,z⟩:=step (j + 1) d' δ s (by simpa using hd) (by rw[show o + (j + 1)=o + 1 + j by omega];exact hi)
   exact⟨a,b,c,x,y,by rw[show o + 1 + j + 1=o + (j + 1) + 1 by omega];exact z⟩
  refine⟨δ3,s3,?_,by rw[List.length_cons,show o + (ds.length + 1)=o + 1 + ds.length by omega];exact h3⟩
  show((T.run d δ).bind fun δ1=>_)=_
  rw[e1]
  show(match G δ1 s with | some (.next δ',s')=>forD T G ds δ' s' | some (.cnt δ',s')=>forD T G ds δ' s' | some (.brk δ',s')=>some (.next δ',s') | some (.ret r,s')=>some (.ret r,s') | some (.own r,s')=>some (.own r,s') | none=>none)=_
  rw[e2]
  exact e3
theorem z2b{T:Tgt}{G:GS}(I:Nat→Sl→Sx→Prop)(ds:List D)(δ:Sl)(s:Sx)(h:I 0 δ s)
  (step:∀ j d δ s,ds[j]?=some d→I j δ s→∃ δ1 δ' s',T.run d δ=some δ1∧G δ1 s=some (.next δ',s')∧I (j + 1) δ' s'):∃ δ' s',forD T G ds δ s=some (.next δ',s')∧I ds.length δ' s':=by
 obtain⟨a,b,e,i⟩:=z8d I ds 0 δ s h fun j d δ s hd hi=>by
  rw[Nat.zero_add]at hi ⊢
  exact step j d δ s hd hi
 rw[Nat.zero_add]at i
 exact⟨a,b,e,i⟩
theorem z9Y{xs:List D}{j:Nat}{d:D}(h:(enumD xs)[j]?=some d):∃ x,xs[j]?=some x∧d=.tuple [.int (j:Int),x]:=by
 unfold enumD at h
 rw[List.getElem?_map,List.getElem?_zipIdx]at h
 cases e:xs[j]? with
 | none=>rw[e]at h;simp at h
 | some x=>rw[e]at h;simp at h;exact⟨x,rfl,h.symm⟩
theorem z9Z(xs:List D):(enumD xs).length=xs.length:=by simp[enumD]
theorem rngDn_get{n j:Nat}{d:D}(h:(rngDn n)[j]?=some d):j < n∧d=.int ((n - 1 - j:Nat):Int):=by
 unfold rngDn at h
 rw[List.getElem?_map]at h
 by_cases hj:j < n
 ·rw[List.getElem?_range hj]at h
  simp only[Option.map_some,Option.some.injEq]at h
  refine⟨hj,?_⟩
  rw[← h]
  congr 1
  omega
 ·rw[List.getElem?_eq_none (by simpa using hj)]at h;simp at h
theorem rngDn_len(n:Nat):(rngDn n).length=n:=by simp[rngDn]
theorem z6h{n j:Nat}{d:D}(h:(rng 0 n)[j]?=some d):j < n∧d=.int (j:Int):=by
 unfold rng at h
 rw[List.getElem?_map]at h
 by_cases hj:j < n
 ·rw[List.getElem?_range hj]at h
  simp only[Option.map_some,Option.some.injEq]at h
  refine⟨hj,?_⟩
  rw[← h]
  congr 1
  omega
 ·rw[List.getElem?_eq_none (by simpa using hj)]at h;simp at h
theorem ix_seq{d:D}{xs:List D}(h:seqOf d=some xs)(i:Int):gIx d (.int i)=L2.atI xs i:=by
 cases d with
 | list ys=>cases h;rfl
 | tuple ys=>cases h;rfl
 | _=>cases h
theorem z0Y{d:D}{xs:List D}(h:seqOf d=some xs):gLen d=some (.int xs.length):=by
 cases d with
 | list ys=>cases h;rfl
 | tuple ys=>cases h;rfl
 | _=>cases h
theorem z7{F:FE}{FL:FA}{δ:Sl}{s s1 s2:Sx}{d:D}{ds:List D}(h:F δ s=some (d,s1))(h':FL δ s1=some (ds,s2)):aCons F FL δ s=some (d::ds,s2):=by
 unfold aCons;rw[h];simp only[Option.bind_some,h',Option.map_some]
theorem z8{g:G2}{Fa Fb:FE}{δ:Sl}{s s1 s2:Sx}{a b d:D}(h:Fa δ s=some (a,s1))(h':Fb δ s1=some (b,s2))(e:g a b=some d):f2 g Fa Fb δ s=some (d,s2):=by
 unfold f2;rw[h];simp only[Option.bind_some,h',Option.map_some,e]
theorem zB{g:G1}{Fa:FE}{δ:Sl}{s s1:Sx}{a d:D}(h:Fa δ s=some (a,s1))(e:g a=some d):f1 g Fa δ s=some (d,s1):=by
 unfold f1;rw[h];simp only[Option.bind_some,Option.map_some,e]
theorem z4O{i:Nat}{Fi F:FE}{δ:Sl}{s s1 s2:Sx}{v k:D}{xs ys:List D}(h:F δ s=some (v,s1))(h':Fi δ s1=some (k,s2))(hi:δ[i]?=some (.own xs))(e:putAt xs k v=some ys):sPut i Fi F δ s=some (.next (δ.set i (.own ys)),s2):=by
 unfold sPut;rw[h];simp only[Option.bind_some,h',hi,e,Option.map_some]
theorem zu{i:Nat}{F:FE}{δ:Sl}{s s1:Sx}{v:D}(h:F δ s=some (v,s1)):sSet i F δ s=some (.next (δ.set i (.val v)),s1):=by
 unfold sSet;rw[h];rfl
theorem add_int(a b:Nat):gAdd (.int (a:Int)) (.int (b:Int))=some (.int ((a + b:Nat):Int)):=by
 simp[gAdd,gAddI,gI]
end L3
namespace L3
open PySem L2 PySem.Spec PyProof.Rows
def gAny:G1:=fun d=>match d with | .list xs=>(bools xs).map fun ks=>.bool (ks.any (fun b=>b)) | _=>none
theorem za0(ks:List Bool):(List.range ks.length).any (fun i=>ks.getD i false)=ks.any (fun b=>b):=by
 induction ks with
 | nil=>rfl
 | cons k r ih =>
  rw[List.length_cons,List.range_succ_eq_map,List.any_cons,List.any_map,List.any_cons,← ih]
  congr 1
section
variable {X:Cx}
theorem zem(hc:X.calm=true):CallR X (.builtin "any") (rD1 X.K gAny):=fun pins s σ H xs us Q I rv zfW=>by
 obtain⟨Z,A,st,x,dx,d,e0,S,hA,rx,e,q⟩:=zfW
 subst e0
 obtain⟨u,rfl,ru⟩:=vals1 rv
 cases dx with
 | list ds =>
  replace e:((bools ds).map fun ks=>PyData.bool (ks.any (fun b=>b)))=some d:=e
  first | refine bnd1 e fun ks e1 e=>?_ | refine mpp1 e fun ks e1 e=>?_
  cases e
  have eds:=z58 e1
  subst eds
  obtain⟨p,vs,ev,sq,_,rs⟩:=rx.list
  subst ev
  cases (show u=Value.ref p from ru)
  obtain⟨its,r2,pl,_⟩:=I.list sq
  have hl:=pl.isList
  have lens:its.length=ks.length:=by rw[← r2.length,rs.length,List.length_map]
  refine call_any_walk (wpAny_pyIter_list hl ?_)
  have lt:LT.lt (α:=Nat) p s.heap.objs.size:=by obtain⟨_,e,_⟩:=hl;exact Heap.lt_size e
  refine⟨_,_,_,_,_,_,fun i=>ks.getD i false,rfl,Walks.list (A:=X.A.in1) (show X.A.in1.handled=none from I.ok.hd hc) s.heap.objs.size p (Nat.ne_of_lt lt) its.toArray,⟨⟨_,Heap.get?_push_size _ rfl,rfl,rfl⟩,hl.push _⟩,?_,fun h' tk kp=>?_⟩
  ·intro i v s' Q' E' hP hQ
   have hi:its[i]?=some v:=by simpa using hP
   obtain⟨vv,h1,h2⟩:∃ vv,vs[i]?=some vv∧RelV vv v:=by
    cases e3:vs[i]? with
    | none=>rw[r2.none_of e3]at hi;cases hi
    | some vv=>obtain⟨u',h3,h4⟩:=r2.get e3;rw[h3]at hi;cases hi;exact⟨vv,rfl,h4⟩
   obtain⟨dd,h3,h4⟩:=rs.at h1
   rw[List.getElem?_map]at h3
   cases e4:ks[i]? with
   | none=>rw[e4]at h3;cases h3
   | some k =>
    rw[e4]at h3
    cases h3
    cases h4
    cases h2
    refine wpAny_truthy_bool ?_
    have eg:ks.getD i false=k:=by simp[e4]
    have hQ2:Q' (ks.getD i false) s':=hQ
    rw[eg]at hQ2
    exact hQ2
  ·have e5:(List.range its.toArray.size).any (fun i=>ks.getD i false)=ks.any (fun b=>b):=by rw[List.size_toArray,lens];exact za0 ks
   rw[e5]
   refine⟨.bl _,H,?_,rfl,q _ H (Ext.refl H) S (.bl _)⟩
   refine I.kept (h':=h') (t':=tk) fun b o eb=>kp b o ?_ (Heap.get?_push_of_some _ eb)
   intro z
   have z':b=s.heap.objs.size:=by simpa using z
   rw[z']at eb
   exact Nat.lt_irrefl _ (Heap.lt_size eb)
 | _=>cases e
end
end L3
namespace L3
open PySem L2 PySem.Spec PyProof.Rows
abbrev GC:=List D→Sx→Option (Ce × Sx)
abbrev FC:=Sl→Sx→Option (Ce × Sx)
def mkFnC(n m:Nat)(G:GS):GC:=fun ds s=>if ds.length=n then (match G (ds.map .val++List.replicate m .non) s with
 | some (.ret d,s')=>some (.val d,s')
 | some (.own xs,s')=>some (.own xs,s')
 | some (.next _,s')=>some (.val .none,s')
 | _=>none) else none
def AftC(K:PySem.W.Frag)(Z:Zt)(A:List Addr)(H:Hp)(s':Sx)(Q:VK):Ce→Prop
 | .val d=>∀ v H',Ext Z H H'→StateAt Z H' s'→Rep K Z H' A v d→Q v H'
 | .own xs=>∀ p vs H',Ext Z H H'→StateAt Z H' s'→H p=none→H' p=some (.lst vs)→Reps K Z H' (p::A) vs xs→Q (.ref p) H'
 | .non=>False
inductive spC(K:PySem.W.Frag)(g:GC)(vs:List V)(H:Hp)(Q:VK)(_E:XK):Prop
 | mk (Z:Zt) (A:List Addr) (ds:List D) (s:Sx) (c:Ce) (s':Sx) (h0:Reps K Z H A vs ds) (h1:(∀ q∈A,(∃ o,H q=some o)∧NotZ Z q)) (h2:StateAt Z H s) (h3:g ds s=some (c,s')) (h4:AftC K Z A H s' Q c)
theorem z75{n m:Nat}{G:GS}{ds:List D}{s:Sx}{r:Ce × Sx}(h:mkFnC n m G ds s=some r):ds.length=n:=by
 unfold mkFnC at h
 split at h
 ·assumption
 ·cases h
theorem fnC{P:Program}{w:World}{K:PySem.W.Frag}{mg:Str→Option Value}{base:Heap}{x qual:Str}{st:Stmt}{f:Addr}{fd:FuncData}{N ps:List Str}{k m:Nat}{G:GS}(Fn:Fun K x qual st f fd)(S:FnScope N ps (defScope st))(hN:N.length=ps.length + m)
  (hbody:∀ (cdv:Value) (A:Around) (outer:List Env) (s:Shared) (H:Hp) (E:XK),Room k (A.deeper (envOfC qual (defScope st) s.heap.objs.size f cdv))→DSs (cxOf CX0 P w K mg base N qual (defScope st) f cdv A outer s H E).nox (defBody st) G) :
  FnOk P w K mg base CX0 (k + 1) f fd ps (spC K (mkFnC ps.length m G)):=by
 refine Fn.ok S (fun vs H Q E h=>?_) (fun cdv A outer s H vs Q E hr h=>?_)
 ·obtain⟨Z,A,ds,s,c,s',r,_,_,e,_⟩:=h
  rw[r.length];exact z75 e
 ·obtain⟨Z,A0,ds,st0,c,st1,r,hA,hS,e,q⟩:=h
  have hl:=z75 e
  refine⟨_,hbody cdv A outer s H E hr Z A0,?_⟩
  unfold mkFnC at e
  rw[if_pos hl]at e
  have hst:L2.start N vs=vs.map some++List.replicate m none:=by
   unfold L2.start
   rw[hN,r.length,hl,Nat.add_sub_cancel_left]
  rw[hst]
  have R:RepS K H Z A0 [] (vs.map some++List.replicate m none) (ds.map .val++List.replicate m .non) H:={
   ok:=hA
   ext:=Ext.refl H
   len:=by simp[r.length]
   val:=fun i d h=>by
    obtain⟨v,h1,h2⟩:=z4K r h
    exact⟨v,h1,by rw[List.map_nil,List.append_nil];exact h2⟩
   own:=fun i xs h=>(z4L h).elim
   ows:=fun i p h=>nomatch h
   inj:=fun i j p h=>nomatch h}
  cases e1:G (ds.map .val++List.replicate m .non) st0 with
  | none=>rw[e1]at e;cases e
  | some r1 =>
   obtain⟨o,s1⟩:=r1
   rw[e1]at e
   refine⟨[],_,st0,o,s1,R,hS,e1,?_⟩
   cases o with
   | ret d'=>cases e;exact fun v H' a b c=>q v H' a b c
   | own xs=>cases e;exact fun p vs H' a b c d e=>q p vs H' a b c d e
   | next δ'=>cases e;exact fun ow' σ' H' R' S' f=>q .non H' R'.ext S' .non
   | brk δ'=>cases e
   | cnt δ'=>cases e
inductive CalC(P:Program)(w:World)(K:PySem.W.Frag)(mg:Str→Option Value)(base:Heap)(x:Str)(ps:List Str)(k:Nat)(g:GC):Prop
 | mk (f:Addr) (fd:FuncData) (h0:FnOk P w K mg base CX0 k f fd ps (spC K g)) (h1:mg x=some (.ref f)) (h2:PySem.W.keepIn K (.ref f)=true) (h3:Binds K fd ps [])
def ceD:Ce→Option D
 | .val d=>some d | .own xs=>some (.list xs) | .non=>none
def gOf(g:GC):GF:=fun ds s=>(g ds s).bind fun p=>(ceD p.1).map fun d=>(d,p.2)
theorem CalC.cal{P:Program}{w:World}{K:PySem.W.Frag}{mg:Str→Option Value}{base:Heap}{x:Str}{ps:List Str}{k:Nat}{g:GC}(h:CalC P w K mg base x ps k g):Cal P w K mg base x ps k (gOf g):=by
 obtain⟨f,fd,F,h1,h2,h3⟩:=h
 refine⟨f,fd,F.imp fun vs H Q E h=>?_,h1,h2,h3⟩
 obtain⟨Z,A,ds,s,d,s',r,hA,hS,e,q⟩:=h
 unfold gOf at e
 first | refine bnd2 e fun c s1 e1 e=>?_ | refine mpp2 e fun c s1 e1 e=>?_
 refine⟨Z,A,ds,s,c,s1,r,hA,hS,e1,?_⟩
 cases c with
 | non=>cases e
 | val d'=>cases e;exact q
 | own xs =>
  cases e
  exact fun p ws H' x1 S1 n h rs=>q _ H' x1 S1 (.lst h (zO (fun q hq=>(hA q hq).1) n) (hS.notZ n) (rs.sub fun q hq=>List.mem_cons_of_mem _ hq))
section
variable {X:Cx} {st:Stmt} {e:Expr} {es:List Expr} {F:FE} {Fo:FO} {Fc:FC} {FL:FA} {x y:Str} {i:Nat} {p pos pos':Pos}
inductive tDCK(K:PySem.W.Frag)(Z:Zt)(A:List Addr)(F:FC)(σ:L2.St)(H:Hp)(Q:VK):Prop
 | mk (B:Hp) (ow:Ow) (δ:Sl) (s:Sx) (c:Ce) (s':Sx) (h0:RepS K B Z A ow σ δ H) (h1:StateAt Z H s) (h2:F δ s=some (c,s')) (h3:AftC K Z (A++ow.map (·.2)) H s' Q c)
abbrev tDC(X:Cx)(Z:Zt)(A:List Addr)(F:FC):TE:=tDCK X.K Z A F
structure DC(X:Cx)(e:Expr)(F:FC):Prop where
 go:∀ Z A,PE X e (tDC X Z A F)
def fCallC(g:GC)(FL:FA):FC:=fun δ s=>(FL δ s).bind fun p=>g p.1 p.2
theorem z90{gf:GC}{Z:Zt}{A:List Addr}{σ:L2.St}{H:Hp}{Q:VK}{E:XK}(h:tDC X Z A (fCallC gf FL) σ H Q):tCall (spC X.K gf) [] E (tDA X Z A FL) σ H Q:=by
 obtain⟨B,ow,δ,s,c,s',R,S,e,q⟩:=h
 unfold fCallC at e
 first | refine bnd2 e fun ds s1 e1 e=>?_ | refine mpp2 e fun ds s1 e1 e=>?_
 refine⟨B,ow,δ,s,ds,s1,R,S,e1,fun vs H1 x1 S1 rs=>?_⟩
 refine⟨Z,A++ow.map (·.2),ds,s1,c,s',by simpa using rs,fun q hq=>?_,S1,e,?_⟩
 ·refine⟨(R.mono x1).all q hq,?_⟩
  rcases List.mem_append.mp hq with h | h
  ·exact(R.ok q h).2
  ·obtain⟨⟨i,p⟩,hp,rfl⟩:=List.mem_map.mp h
   exact(R.ows i p hp).2.2.1
 ·cases c with
  | non=>exact q
  | val d=>exact fun v H' a b r=>q v H' (x1.trans a) b r
  | own xs=>exact fun p ws H' a b n h r=>q p ws H' (x1.trans a) b (z2w x1 S1 n) h r
theorem zen{gf:GC}{k k':Nat}{ps:List Str}(C:CalC X.prog X.w X.K X.mg X.base x ps k gf)(hr:Room k' X.A)(ha:DA X (e::es) FL)(hk:k≤k':=by decide)(hg:Gl X x:=by rfl)(hdb:(x == ("__debug__":Str))=false:=by decide)
  (he:starEach (e::es) X.env=(false,eval e X.env)::starEach es X.env:=by rfl) (hpl:(backTo pos (starEach es X.env)).any (·.1)=false:=by rfl):DC X (.Call (.Name x p) (e::es) [] pos) (fCallC gf FL):=by
 obtain⟨f,fd,G,hm,hk',hb⟩:=C
 exact⟨fun Z A=>PE.imp (z66 G (hr.mono hk) hg hm hk' hb .nil pass0 (ha Z A) hdb he hpl) fun σ H Q q=>z90 q⟩
def sSetC(i:Nat)(F:FC):GS:=fun δ s=>(F δ s).bind fun p=>match p.1 with | .non=>none | c=>some (.next (δ.set i c),p.2)
theorem zcU(hN:X.N.Nodup)(h:DC X e Fc)(hi:X.N[i]?=some y:=by rfl)(hx:Loc X.env.scope y:=by first | exact Or.inl rfl | exact Or.inr rfl)
  (hs:swapsWith e (some (.Name y pos')) pos.line X.env=pure false:=by rfl)
  (hf:X.fn y=true∨X.env.scope.names.lookup y=some .local:=by first | exact .inl rfl | exact .inr rfl | assumption):DS X (.Assign [.Name y pos'] e pos) (sSetC i Fc):=⟨fun Z A=>PS.imp (z2P hN hi hx (h.go Z A) hs hf) fun E σ H h=>by
 obtain⟨ow,δ,s,o,s',R,S,e,q⟩:=h
 unfold sSetC at e
 first | refine bnd2 e fun c s1 e1 e=>?_ | refine mpp2 e fun c s1 e1 e=>?_
 refine⟨_,ow,δ,s,c,s1,R,S,e1,?_⟩
 cases c with
 | non=>cases e
 | val d =>
  cases e
  intro v H' x1 S1 r
  obtain⟨R2,f2⟩:=(R.mono x1).set (i:=i) r
  exact q _ _ _ R2 S1 ((Frm.ext x1).trans f2)
 | own xs =>
  cases e
  intro p ws H' x1 S1 n h r
  obtain⟨R3,f3⟩:=R.setOwn (i:=i) S x1 n h r
  exact q _ _ _ R3 S1 f3⟩
def sRetO(i:Nat):GS:=fun δ s=>match δ[i]? with | some (.own xs)=>some (.own xs,s) | some (.val d)=>some (.ret d,s) | _=>none
theorem zcV(hv:PE X (.Name x p) (tVar i)):DS X (.Return (some (.Name x p)) pos) (sRetO i):=⟨fun Z A=>PS.imp (z6J hv) fun E σ H h=>by
 obtain⟨ow,δ,s,o,s',R,S,e,q⟩:=h
 unfold sRetO at e
 split at e
 ·rename_i xs ho
  cases e
  obtain⟨p,vs,h1,h2,h3,h4⟩:=R.own i xs ho
  exact⟨_,h2,q p vs H R.ext S (R.ows i p h1).1 h3 (h4.sub fun q hq=>by
   rcases List.mem_cons.mp hq with rfl | hq
   ·exact List.mem_append_right _ (List.mem_map.mpr ⟨(i,q),h1,rfl⟩)
   ·exact List.mem_append_left _ hq)⟩
 ·rename_i d ho
  cases e
  obtain⟨v,h1,r⟩:=R.val i d ho
  exact⟨_,h1,q v H R.ext S (r.sub fun q hq=>List.mem_append_left _ hq)⟩
 ·cases e⟩
end
end L3
namespace L3
open PySem L2 PySem.Spec PyProof.Rows
section
variable {X:Cx} {e e2:Expr} {Fa Fb:FE} {st:Stmt} {p p2 pos pos2:Pos}
theorem zcW:DS X st (fun _ _=>none):=⟨fun Z A pins s σ H D I h=>by
 obtain⟨ow,δ,s,o,s',R,S,e,q⟩:=h
 cases e⟩
def sPar3(i j k:Nat)(FL:FA):GS:=fun δ s=>(FL δ s).bind fun p=>match p.1 with | [x,y,z]=>some (.next (((δ.set i (.val x)).set j (.val y)).set k (.val z)),p.2) | _=>none
theorem zcX{i j k:Nat}{x y z:Str}{a b c:Expr}{FL:FA}{px py pz pt:Pos}{kt k2 pt2}(hN:X.N.Nodup)(hij:i≠j)(hik:i≠k)(hjk:j≠k)(ha:DA X [a,b,c] FL)(hw:swappedStores [.Tuple [.Name x px,.Name y py,.Name z pz] kt pt] (.Tuple [a,b,c] k2 pt2) X.env=pure (some [x,y,z]))
  (hi:X.N[i]?=some x:=by rfl) (hj:X.N[j]?=some y:=by rfl) (hk:X.N[k]?=some z:=by rfl) (hx:X.env.scope.names.lookup x=some .local:=by rfl) (hy:X.env.scope.names.lookup y=some .local:=by rfl) (hz:X.env.scope.names.lookup z=some .local:=by rfl) (hc:X.calm=true:=by rfl)
  (hs:swapsWithSole [.Tuple [.Name x px,.Name y py,.Name z pz] kt pt] (.Tuple [a,b,c] k2 pt2) pos.line X.env=pure false:=by rfl):DS X (.Assign [.Tuple [.Name x px,.Name y py,.Name z pz] kt pt] (.Tuple [a,b,c] k2 pt2) pos) (sPar3 i j k FL):=⟨fun Z A=>PS.imp (zcJ hc hN hi hj hk hij hik hjk hx hy hz (ha Z A) hw hs) fun E σ H h=>by
  obtain⟨ow,δ,s,o,s',R,S,e,q⟩:=h
  unfold sPar3 at e
  cases e1:FL δ s with
  | none=>rw[e1]at e;cases e
  | some p =>
   obtain⟨ds,s1⟩:=p
   rw[e1]at e
   refine⟨_,ow,δ,s,ds,s1,R,S,e1,fun vs H' x1 S1 rs=>?_⟩
   rcases ds with _ | ⟨dx,_ | ⟨dy,_ | ⟨dz,_ | _⟩⟩⟩
   ·cases e
   ·cases e
   ·cases e
   ·cases e
    cases rs with
    | cons r1 rs =>
     cases rs with
     | cons r2 rs =>
      cases rs with
      | cons r3 rs =>
       cases rs
       obtain⟨R1,f1⟩:=(R.mono x1).set (i:=i) r1
       obtain⟨R2,f2⟩:=R1.set (i:=j) (r2.frm f1)
       obtain⟨R3,f3⟩:=R2.set (i:=k) ((r3.frm f1).frm f2)
       exact⟨_,_,_,rfl,q _ _ H' R3 S1 ((((Frm.ext x1).trans f1).trans f2).trans f3)⟩
   ·cases e⟩
end
end L3
namespace L3
open PySem L2 PySem.Spec PyProof.Rows
section
variable {X:Cx} {e e2 r t:Expr} {Fa Fb F Fr:FE} {Ft:FT} {T:Tgt} {x:Str} {px apos cpos pos pos2 pos3:Pos} {i:Nat}
end
end L3
namespace L3
open PySem L2 PySem.Spec PyProof.Rows
def intsOf:List D→Option (List Int)
 | []=>some []
 | .int k::r=>(intsOf r).map (k::·)
 | _::_=>none
theorem z6i:∀ {ds:List D} {ks:List Int},intsOf ds=some ks→ds=ks.map .int
 | [],ks,h=>by cases h;rfl
 | d::r,ks,h=>by
  cases d with
  | int k =>
   replace h:(intsOf r).map (k::·)=some ks:=h
   refine mpp1 h fun l e h=>?_
   subst h
   rw[z6i e];rfl
  | _=>cases h
theorem z4c:∀ ks:List Int,intsOf (ks.map .int)=some ks
 | []=>rfl
 | k::r=>by
  show(intsOf (r.map .int)).map (k::·)=_
  rw[z4c r];rfl
def sumOk(ks:List Int):Bool:=decide (ks.length≤1000) && ks.all fun k=>decide (k.natAbs≤1000000000)
def gSum:G1:=fun d=>match d with | .list xs=>(intsOf xs).bind fun ks=>if sumOk ks=true then some (.int ks.sum) else none | _=>none
theorem z7N(ks:List Int):∀ n,n≤ks.length→preSum (fun i=>ks.getD i 0) n=(ks.take n).sum
 | 0,_=>by simp[preSum]
 | n + 1,h=>by
  have ih:=z7N ks n (by omega)
  show preSum (fun i=>ks.getD i 0) n + ks.getD n 0=_
  rw[ih,← List.take_append_getElem (show n < ks.length by omega),List.sum_append,List.getD_eq_getElem?_getD,List.getElem?_eq_getElem (show n < ks.length by omega)]
  simp
theorem zc7{c:Nat}:∀ {ks:List Int},(∀ k∈ks,k.natAbs≤c)→ks.sum.natAbs≤c * ks.length
 | [],_=>by simp
 | k::r,h=>by
  have h1:=h k List.mem_cons_self
  have h2:=zc7 fun x hx=>h x (List.mem_cons_of_mem _ hx)
  rw[List.sum_cons,List.length_cons,Nat.mul_succ]
  omega
theorem za1:∀ {vs:List V} {its:List Value} {ks:List Int},Vals vs its→vs=ks.map V.int→∃ l:List (Int × Tok),its=l.map (fun p=>Value.int p.1 p.2)∧l.map (·.1)=ks
 | [],_,ks,r,h=>by
  cases r
  have:ks=[]:=by simpa using h.symm
  subst this
  exact⟨[],rfl,rfl⟩
 | v::vs,_,ks,r,h=>by
  cases ks with
  | nil=>cases h
  | cons k ks =>
   cases r with
   | cons r1 r2 =>
    simp only[List.map_cons,List.cons.injEq]at h
    obtain⟨l,e1,e2⟩:=za1 r2 h.2
    rw[h.1]at r1
    obtain⟨t,rfl⟩:=r1
    exact⟨(k,t)::l,by rw[e1];rfl,by rw[List.map_cons,e2]⟩
theorem repsI{K:PySem.W.Frag}{Z:Zt}{H:Hp}{A:List Addr}:∀ {vs:List V} {ks:List Int},Reps K Z H A vs (ks.map .int)→vs=ks.map V.int
 | [],[],_=>rfl
 | [],_::_,r=>by cases r
 | _::_,[],r=>by cases r
 | v::vs,k::ks,r=>by
  cases r with
  | cons r1 r2 =>
   cases r1
   rw[repsI r2];rfl
section
variable {X:Cx}
theorem zeo(hc:X.calm=true):CallR X (.builtin "sum") (rD1 X.K gSum):=fun pins s σ H xs us Q I rv zfX=>by
 obtain⟨Z,A,st,x,dx,d,e0,S,hA,rx,e,q⟩:=zfX
 subst e0
 obtain⟨u,rfl,ru⟩:=vals1 rv
 cases dx with
 | list ds =>
  replace e:((intsOf ds).bind fun ks=>if sumOk ks=true then some (PyData.int ks.sum) else none)=some d:=e
  refine bnd1 e fun ks e1 e=>?_
  split at e
  ·rename_i hok
   cases e
   have eds:=z6i e1
   subst eds
   obtain⟨p,vs,ev,sq,_,rs⟩:=rx.list
   subst ev
   cases (show u=Value.ref p from ru)
   obtain⟨its,r2,pl,_⟩:=I.list sq
   have hl:=pl.isList
   have evs:=repsI rs
   obtain⟨l,e2,e3⟩:=za1 r2 evs
   subst e2
   unfold sumOk at hok
   rw[Bool.and_eq_true,List.all_eq_true]at hok
   have hlen:ks.length≤1000:=of_decide_eq_true hok.1
   have hle:∀ k∈ks,k.natAbs≤1000000000:=fun k hk=>of_decide_eq_true (hok.2 k hk)
   have hn:numAt l.toArray=fun i=>ks.getD i 0:=by
    funext i
    unfold numAt
    rw[← e3,List.getD_eq_getElem?_getD,List.getElem?_map,List.getElem?_toArray]
   have hsz:l.toArray.size=ks.length:=by rw[List.size_toArray,← e3,List.length_map]
   have hit:(l.map fun p=>Value.int p.1 p.2).toArray=intItems l.toArray:=by simp[intItems]
   rw[hit]at hl
   have small:∀ z:Int,z.natAbs≤1000000000000→InLong z:=fun z h=>⟨by omega,by omega⟩
   refine sum_intList (show X.A.handled=none from I.ok.hd hc) hl (fun j hj=>?_) fun h' tk t' kp=>?_
   ·rw[hsz]at hj
    rw[hn]
    refine⟨small _ ?_,small _ ?_⟩
    ·show(ks.getD j 0).natAbs≤_
     rw[List.getD_eq_getElem?_getD,List.getElem?_eq_getElem hj]
     have:=hle _ (List.getElem_mem hj)
     simp only[Option.getD_some]
     omega
    ·rw[z7N ks (j + 1) hj]
     have h1:=zc7 (c:=1000000000) (ks:=ks.take (j + 1)) fun k hk=>hle k (List.mem_of_mem_take hk)
     have h2:(ks.take (j + 1)).length≤1000:=Nat.le_trans (List.length_take_le _ _) (by omega)
     have h3:=Nat.mul_le_mul_left 1000000000 h2
     omega
   ·rw[hn,hsz,z7N ks _ (Nat.le_refl _),List.take_length]
    exact⟨.int ks.sum,H,I.kept (h':=h') (t':=tk) kp,⟨t',rfl⟩,q _ H (Ext.refl H) S (.int _)⟩
  ·cases e
 | _=>cases e
end
end L3
namespace L3
open PySem L2 PySem.Spec PyProof.Rows
section
variable {X:Cx} {tg e:Expr} {F:FE} {p pos:Pos}
end
end L3
namespace L3
open PySem L2 PySem.Spec PyProof.Rows
section
variable {X:Cx} {e e2:Expr} {Fa Fb:FE} {p pos p2 pos2:Pos}
end
inductive Al(K:PySem.W.Frag)(Z:Zt)(H:Hp)(A:List Addr):L2.St→Sl→Prop
 | nil:Al K Z H A [] []
 | non {o:Option V} {σ:L2.St} {δ:Sl}:Al K Z H A σ δ→Al K Z H A (o::σ) (.non::δ)
 | val {v:V} {d:D} {σ:L2.St} {δ:Sl}:Rep K Z H A v d→Al K Z H A σ δ→Al K Z H A (some v::σ) (.val d::δ)
theorem Al.len{K:PySem.W.Frag}{Z:Zt}{H:Hp}{A:List Addr}{σ:L2.St}{δ:Sl}(h:Al K Z H A σ δ):δ.length=σ.length:=by
 induction h with
 | nil=>rfl
 | non _ ih=>exact congrArg (· + 1) ih
 | val _ _ ih=>exact congrArg (· + 1) ih
theorem Al.get{K:PySem.W.Frag}{Z:Zt}{H:Hp}{A:List Addr}{σ:L2.St}{δ:Sl}(h:Al K Z H A σ δ):∀ (i:Nat) (d:D),δ[i]?=some (.val d)→∃ v,σ[i]?=some (some v)∧Rep K Z H A v d:=by
 induction h with
 | nil=>intro i d e;cases e
 | non _ ih =>
  intro i d e
  cases i with
  | zero=>cases e
  | succ i=>exact ih i d e
 | val r _ ih =>
  intro i d e
  cases i with
  | zero=>cases e;exact⟨_,rfl,r⟩
  | succ i=>exact ih i d e
theorem Al.own{K:PySem.W.Frag}{Z:Zt}{H:Hp}{A:List Addr}{σ:L2.St}{δ:Sl}(h:Al K Z H A σ δ):∀ (i:Nat) (xs:List D),δ[i]?=some (.own xs)→False:=by
 induction h with
 | nil=>intro i d e;cases e
 | non _ ih =>
  intro i d e
  cases i with
  | zero=>cases e
  | succ i=>exact ih i d e
 | val r _ ih =>
  intro i d e
  cases i with
  | zero=>cases e
  | succ i=>exact ih i d e
theorem Al.repS{K:PySem.W.Frag}{B:Hp}{Z:Zt}{H:Hp}{A:List Addr}{σ:L2.St}{δ:Sl}(h:Al K Z H A σ δ)(ok:∀ q∈A,(∃ o,H q=some o)∧NotZ Z q)(ext:Ext Z B H):RepS K B Z A [] σ δ H where
 ok:=ok
 ext:=ext
 len:=Al.len h
 val:=fun i d e=>let ⟨v,a,b⟩:=Al.get h i d e;⟨v,a,by show Rep K Z H (A++[]) v d;rw[List.append_nil];exact b⟩
 own:=fun i xs e=>(Al.own h i xs e).elim
 ows:=fun _ _ e=>nomatch e
 inj:=fun _ _ _ e=>nomatch e
end L3
namespace L3
open PySem L2 PyProof.Rows
def leastAt(ns:List Int):Nat:=argBest (fun i j=>decide (ns.getD i 0 < ns.getD j 0)) (ns.length - 1)
def gMinL:G1:=fun d=>match d with | .list ds=>(intsOf ds).bind fun ns=>(ns[leastAt ns]?).map fun n=>.int n | _=>none
section
variable {X:Cx}
theorem zcY(hc:X.calm=true):CallR X (.builtin "min") (rD1 X.K gMinL):=fun pins s σ H xs us Q I rv zfY=>by
 obtain⟨Z,A,st,x,dx,d,e0,S,hA,rx,e,q⟩:=zfY
 subst e0
 obtain⟨u,rfl,ru⟩:=vals1 rv
 cases dx with
 | list ds =>
  replace e:((intsOf ds).bind fun ns=>(ns[leastAt ns]?).map fun n=>PyData.int n)=some d:=e
  cases e1:intsOf ds with
  | none=>rw[e1]at e;cases e
  | some ns =>
   rw[e1]at e
   replace e:((ns[leastAt ns]?).map fun n=>PyData.int n)=some d:=e
   cases e2:ns[leastAt ns]? with
   | none=>rw[e2]at e;cases e
   | some n =>
    rw[e2]at e
    cases e
    have eds:=z6i e1
    subst eds
    obtain⟨p,vs,ev,sq,_,rs⟩:=rx.list
    subst ev
    cases (show u=Value.ref p from ru)
    obtain⟨its,r2,pl,_⟩:=I.list sq
    have hl:=pl.isList
    have lens:its.length=ns.length:=by rw[← r2.length,rs.length,List.length_map]
    have val:∀ i v,its.toArray[i]?=some v→∃ t,v=Value.int (ns.getD i 0) t:=fun i v hP=>by
     have hi:its[i]?=some v:=by simpa using hP
     obtain⟨vv,h1,h2⟩:∃ vv,vs[i]?=some vv∧RelV vv v:=by
      cases e3:vs[i]? with
      | none=>rw[r2.none_of e3]at hi;cases hi
      | some vv=>obtain⟨u',h3,h4⟩:=r2.get e3;rw[h3]at hi;cases hi;exact⟨vv,rfl,h4⟩
     obtain⟨dd,h3,h4⟩:=rs.at h1
     rw[List.getElem?_map]at h3
     cases e4:ns[i]? with
     | none=>rw[e4]at h3;cases h3
     | some k =>
      rw[e4]at h3
      cases h3
      cases h4
      obtain⟨t,rfl⟩:=h2
      exact⟨t,by simp[e4]⟩
    have hlt:LT.lt (α:=Nat) p s.heap.objs.size:=by obtain⟨_,e,_⟩:=hl;exact Heap.lt_size e
    refine call_min_walk (wpAny_pyIter_list hl ?_)
    refine⟨_,_,_,_,_,_,_,rfl,Walks.list (A:=X.A.in1) (show X.A.in1.handled=none from I.ok.hd hc) s.heap.objs.size p (Nat.ne_of_lt hlt) its.toArray,⟨⟨_,Heap.get?_push_size _ rfl,rfl,rfl⟩,hl.push _⟩,fun b hb=>?_,?_,CmpOf.ints_lt (fun i=>ns.getD i 0) val,fun v h' tk hP kp=>?_⟩
    ·show LT.lt (α:=Nat) b (s.heap.push _).objs.size
     rw[Heap.size_push]
     rcases List.mem_cons.mp hb with rfl | hb
     ·exact Nat.lt_succ_self _
     ·rcases List.mem_cons.mp hb with rfl | hb
      ·exact Nat.lt_succ_of_lt hlt
      ·cases hb
    ·rw[List.size_toArray,lens]
     exact Nat.lt_of_le_of_lt (Nat.zero_le _) (List.getElem?_eq_some_iff.mp e2).1
    ·obtain⟨t,rfl⟩:=val _ v hP
     have ea:argBest (fun i j=>decide (ns.getD i 0 < ns.getD j 0)) (its.toArray.size - 1)=leastAt ns:=by unfold leastAt;rw[List.size_toArray,lens]
     refine⟨.int n,H,?_,⟨t,?_⟩,q _ H (Ext.refl H) S (.int _)⟩
     ·refine I.kept (h':=h') (t':=tk) fun b o eb=>kp b o ?_ (Heap.get?_push_of_some _ eb)
      intro z
      have z':b=s.heap.objs.size:=by simpa using z
      rw[z']at eb
      exact Nat.lt_irrefl _ (Heap.lt_size eb)
     ·rw[ea]
      congr 1
      simp[e2]
 | _=>cases e
end
end L3
namespace L3
open PySem L2 PySem.Spec PyProof.Rows
section
variable {X:Cx}
end
end L3
namespace L3
open PySem L2 PyProof.Rows
abbrev RS:=Sl→Sx→Option Sx
inductive tRX(X:Cx)(Z:Zt)(A:List Addr)(C:Addr)(R:RS)(E:Ends)(σ:L2.St)(H:Hp):Prop
 | mk (ow:Ow) (δ:Sl) (s:Sx) (s':Sx) (h0:RepS X.K X.H₀ Z A ow σ δ H) (h1:StateAt Z H s) (h2:R δ s=some s') (h3:∀ E' σ' H',Ext Z X.H₀ H'→StateAt Z H' s'→tRaise X C E' σ' H')
structure RX(X:Cx)(sts:List Stmt)(C:Addr)(R:RS):Prop where
 go:∀ Z A,PSs X sts (tRX X Z A C R)
def rEnd:RS:=fun _ _=>none
section
variable {X:Cx} {st r:Stmt} {rest:List Stmt} {c:Expr} {C:Addr} {G:GS} {R:RS} {Ft:FT} {pos:Pos}
theorem zep{sts:List Stmt}{t:TS}(h:PSs X sts t):RX X sts C rEnd:=⟨fun Z A=>PSs.imp h fun E σ H zfZ=>(by obtain⟨_,_,_,_,_,_,e,_⟩:=zfZ;exact nomatch e)⟩
end
inductive spX(K:PySem.W.Frag)(C:Addr)(h:List D→Sx→Option Sx)(vs:List V)(H:Hp)(_Q:VK)(E:XK):Prop
 | mk (Z:Zt) (A:List Addr) (ds:List D) (s:Sx) (s':Sx) (h0:Reps K Z H A vs ds) (h1:(∀ q∈A,(∃ o,H q=some o)∧NotZ Z q)) (h2:StateAt Z H s) (h3:h ds s=some s') (h4:∀ H',Ext Z H H'→StateAt Z H' s'→E (.ref C) none H')
def mkX(n m:Nat)(R:RS):List D→Sx→Option Sx:=fun ds s=>if ds.length=n then R (ds.map .val++List.replicate m .non) s else none
theorem fnX{P:Program}{w:World}{K:PySem.W.Frag}{mg:Str→Option Value}{base:Heap}{x qual:Str}{st:Stmt}{f C:Addr}{fd:FuncData}{N ps:List Str}{k m:Nat}{R:RS}(Fn:Fun K x qual st f fd)(S:FnScope N ps (defScope st))(hN:N.length=ps.length + m)
  (hbody:∀ (cdv:Value) (A:Around) (outer:List Env) (s:Shared) (H:Hp) (E:XK),Room k (A.deeper (envOfC qual (defScope st) s.heap.objs.size f cdv))→RX (cxOf (CX1 P w base) P w K mg base N qual (defScope st) f cdv A outer s H E) (defBody st) C R) :
  FnOk P w K mg base (CX1 P w base) (k + 1) f fd ps (spX K C (mkX ps.length m R)):=by
 obtain⟨oc,od,kV,doc,pm,an,cdv,ct,osl,rfl,lk,hcd⟩:=Fn.ex
 have len:∀ {ds:List D} {s s':Sx},mkX ps.length m R ds s=some s'→ds.length=ps.length:=fun{ds s s'} e=>by
  unfold mkX at e
  split at e
  ·assumption
  ·cases e
 refine zcv lk hcd S (fun vs H Q E zg0=>by obtain⟨Z,A,ds,s,s',r,_,_,e,_⟩:=zg0;rw[r.length];exact len e) (fun A outer s H vs Q E hr zg1=>?_)
 obtain⟨Z,A0,ds,st0,st1,r,hA,hS,e,q⟩:=zg1
 have hl:=len e
 refine⟨_,(hbody cdv A outer s H E hr).go Z A0,?_⟩
 unfold mkX at e
 rw[if_pos hl]at e
 have hst:L2.start N vs=vs.map some++List.replicate m none:=by
  unfold L2.start
  rw[hN,r.length,hl,Nat.add_sub_cancel_left]
 rw[hst]
 refine⟨[],ds.map .val++List.replicate m .non,st0,st1,?_,hS,e,fun E' σ' H' x S'=>z7E (q H' x S')⟩
 exact{
  ok:=hA
  ext:=Ext.refl H
  len:=by simp[r.length]
  val:=fun i d h=>by
   obtain⟨v,h1,h2⟩:=z4K r h
   exact⟨v,h1,by rw[List.map_nil,List.append_nil];exact h2⟩
  own:=fun i xs h=>(z4L h).elim
  ows:=fun i p h=>nomatch h
  inj:=fun i j p h=>nomatch h}
end L3
namespace L2
open PySem PySem.Spec PyProof.Rows
section
variable {X:Cx} {pins:List (Addr × Obj)} {σ:St} {H:Hp} {s:Shared} {E:XK} {E':Value→Shared→Prop}
theorem Inv.reflies{v:Value}{s':Shared}(I:Inv X pins σ H s)(hst:X.stack=X.env::X.outer)(hex:X.ex=[])(F:Flew X.prog X.w X.base X.stack H s E v s') :
  wpAny (model X.prog X.w) X.A (leaving X.env v) (fun _ s''=>Flew X.prog X.w X.base X.outer X.H₀ X.s₀ E v s'') E' s':=by
 unfold leaving
 refine wpAny_bind (I.lands hst F fun a cls H' h3 T ev hE up tr hHa hHT ha hT=>?_)
 have J:=up h3 s'.toks fun _ _ _ q=>q
 have none0:∀ b,s.heap.get? b=none→X.s₀.heap.get? b=none:=fun b hb=>by
  cases q:X.s₀.heap.get? b with
  | none=>rfl
  | some o =>
   have JB:=I.base
   rw[hex]at JB
   obtain⟨o',q1⟩:=JB.there b o q (fun z=>nomatch z)
   rw[hb]at q1;cases q1
 have st:=J.stack
 rw[hst]at st
 have JB:=J.base
 rw[hex]at JB
 exact⟨a,cls,H',ev,hE,J.os,J.bare,JB,J.hok,T,tr,hHa,none0 a ha,none0 T hT,st.2.2,hHT⟩
end
theorem pass1{P:Program}{w:World}{K:PySem.W.Frag}{mg:Str→Option Value}{base:Heap}{N:List Str}{qual:Str}{scope:Scope}{f:Addr}{cd:Value}{A:Around}{outer:List Env}{s:Shared}{H0:Hp}{E:XK} :
  Passes (CX1 P w base) (cxOf (CX1 P w base) P w K mg base N qual scope f cd A outer s H0 E) E:=fun _ _ _ _ _ _ I hF=>I.reflies rfl rfl hF
theorem zeq{X:Cx}{es:List Expr}{t:TA}(h:PA X.nox es t):PA X es t:=fun pos pins s σ H Q I hw =>
 wpAny_mono (h pos pins s σ H Q (I.wish _) hw) (fun _ _ zg2=>(by obtain⟨v,H',I',r,q⟩:=zg2;exact⟨v,H',I'.unwish,r,q⟩)) fun _ _ z=>False.elim z
theorem zbh{X:Cx}{sts:List Stmt}:PSs X sts (fun _ _ _=>False):=fun _ _ _ _ _ _ z=>False.elim z
abbrev TJ:=St→Hp→(Hp→Prop)→Prop
def PJ(X:Cx)(n:Nat)(es:List Expr)(t:TJ):Prop:=∀ (out:Str) (pins:List (Addr × Obj)) (s:Shared) (σ:St) (H:Hp) (Q:Hp→Prop),out.length≤n→Inv X pins σ H s→t σ H Q →
 wpAny (model X.prog X.w) X.A (joinParts out (evalEach es X.env)) (fun u s'=>∃ z tk H',u=.str z tk∧Inv X pins σ H' s'∧Q H') X.xe s
theorem za2(i:Int)(h0:0≤i)(h1:i < 200):(Str.ofString (toString i)).length≤3∧i.natAbs.log2 < 1920:=by
 have key:∀ j:Nat,j < 200→(Str.ofString (toString (j:Int))).length≤3∧(j:Int).natAbs.log2 < 1920:=by decide +kernel
 have:=key i.toNat (by omega)
 rw[Int.toNat_of_nonneg h0]at this
 exact this
section
variable {X:Cx} {n m:Nat} {e:Expr} {es:List Expr} {te:TE} {t:TJ} {p p2:Pos} {x:Str} {j:Nat}
theorem zer(h:n≤1000):PJ X n [] (fun _ H Q=>Q H):=fun out pins s σ H Q hl I q =>
 joinParts_nil ⟨out,_,H,rfl,I.tok _,q⟩ (Nat.le_trans hl (Nat.le_trans h (by decide)))
theorem zes(hx:x.length≤m)(h:PJ X (n + m) es t)(hn:n + m≤1000):PJ X n (.Constant (.str x) j p::es) t:=fun out pins s σ H Q hl I q=>by
 show wpAny _ _ (joinParts out (eval _ X.env::evalEach es X.env)) _ _ _
 refine joinParts_cons (Calls.Constant_str ?_)
 have hl2:(out++x).length≤n + m:=by rw[strLen_append];omega
 exact⟨Nat.le_trans hl2 (Nat.le_trans hn (by decide)),h _ _ _ _ _ _ hl2 (I.tok _) q⟩
theorem zet(he:PE X e te)(h:PJ X (n + 3) es t)(hn:n + 3≤1000):PJ X n (.FormattedValue e (-1) none p::es) (fun σ H Q=>te σ H fun v H1=>∃ i:Int,v=.int i∧0≤i∧i < 200∧t σ H1 Q):=fun out pins s σ H Q hl I q=>by
 show wpAny _ _ (joinParts out (eval _ X.env::evalEach es X.env)) _ _ _
 refine joinParts_cons (FormattedValue_plain (thn (he pins s σ H _ I q) fun u s1 zg3=>?_))
 obtain⟨v,H1,I1,r,i,ev,h0,h1,q1⟩:=zg3
 subst ev
 obtain⟨tk,rfl⟩:=(show ∃ tk,u=.int i tk from r)
 obtain⟨l3,lg⟩:=za2 i h0 h1
 refine formatField_int_small lg ?_
 have hl2:(out++Str.ofString (toString i)).length≤n + 3:=by rw[strLen_append];omega
 exact⟨Nat.le_trans hl2 (Nat.le_trans hn (by decide)),h _ _ _ _ _ _ hl2 ((I1.tok _).tok _) q1⟩
end
end L2
namespace L2
open PySem PySem.Spec PyProof.Rows
section
variable {X:Cx} {x:Str} {C:Addr} {B newId initId:String} {bmB:List Value} {np cpos pos p2:Pos} {v1 v2:Expr} {es:List Expr} {t:TJ}
theorem za3(hc:X.calm=true)(FB:ExcBaseFacts B newId initId bmB)(q:PySem.W.excIn X.K C bmB newId=true)(hg:Gl X x)(hm:X.mg x=some (.ref C))(hj:PJ X 0 (v1::v2::es) t)(hmo:∀ σ H (Q Q':Hp→Prop),(∀ H1,Q H1→Q' H1)→t σ H Q→t σ H Q')(hdb:(x == ("__debug__":Str))=false:=by decide) :
  PS X (.Raise (some (.Call (.Name x np) [.JoinedStr (v1::v2::es) p2] [] cpos)) none pos) (fun D σ H=>t σ H fun H1=>tRaise X C D σ H1):=by
 intro pins s σ H D I h
 obtain⟨bm,N,nm,qn,bs,hdct,sn,sub,ab,col,dd,k0,k1,k2,k3,k5,mN,hC,hN,hni,T⟩:=zcK (h:=X.base) I.ok.mod.kin q
 refine wpAny_Raise_call_subT (C:=C) (nm:=nm) (q:=qn) (N:=N) (bs:=bs) (bm:=bm) (hdct:=hdct) (sn:=sn) (sub:=sub) (ab:=ab) (col:=col) (dd:=dd) (k0:=k0) (k1:=k1) (k2:=k2) (k3:=k3) (k5:=k5) FB (mN:=mN) (T.hasType FB.hasBase) (I.ok.hd hc) rfl hni (z4W I hg hm ⟨rfl,?_⟩ hdb)
 have pj:PE X (.JoinedStr (v1::v2::es) p2) (fun σ H Q=>t σ H fun H1=>∀ z,Q (.str z) H1):=fun pins s σ H Q I h=>JoinedStr_many (thn (hj Str.empty pins s σ H _ (Nat.le_refl _) I h) fun u s1 zg4=>(by obtain⟨z,tk,H1,e,I1,q1⟩:=zg4;exact⟨.str z,H1,I1,⟨tk,e⟩,q1 z⟩))
 refine Calls.evalArgs_plain (thn ((zy pj z0r:PA X [.JoinedStr (v1::v2::es) p2] _) cpos pins s σ H (fun vs H1=>tRaise X C D σ H1∧∃ z,vs=[.str z]) I ?_) fun us s1 zg5=>?_)
 ·exact hmo _ _ _ _ (fun H1 q z=>⟨q,z,rfl⟩) h
 ·obtain⟨vs,H1,I1,r,e1,z,e2⟩:=zg5
  subst e2
  refine⟨rfl,?_,I1.bk _ _ hC,hN.keeps I1.bk,T.keeps I1.bk,fun h' e hx=>e1 pins s1 h' e us I1 hx⟩
  show us.length≤sizeLine
  rw[← r.length]
  show 1≤sizeLine
  decide
end
end L2
namespace L3
open PySem L2 PyProof.Rows
def rFmt:List FE→RS
 | []=>fun _ s=>some s
 | F::Fs=>fun δ s=>match F δ s with
  | some (.int i,s1)=>if 0≤i∧i < 200 then rFmt Fs δ s1 else none
  | _=>none
inductive tJ(X:Cx)(Z:Zt)(A:List Addr)(Fs:List FE)(σ:L2.St)(H:Hp)(Q:Hp→Prop):Prop
 | mk (ow:Ow) (δ:Sl) (s s':Sx) (h0:RepS X.K X.H₀ Z A ow σ δ H) (h1:StateAt Z H s) (h2:rFmt Fs δ s=some s') (h3:∀ H',Ext Z H H'→StateAt Z H' s'→Q H')
theorem tJ.mono{X:Cx}{Z:Zt}{A:List Addr}{Fs:List FE}{σ:L2.St}{H:Hp}{Q Q':Hp→Prop}(h:∀ H1,Q H1→Q' H1)(t:tJ X Z A Fs σ H Q):tJ X Z A Fs σ H Q':=by
 obtain⟨ow,δ,s,s',R,S,e,q⟩:=t
 exact⟨ow,δ,s,s',R,S,e,fun H' a b=>h _ (q H' a b)⟩
structure DJ(X:Cx)(n:Nat)(es:List Expr)(Fs:List FE):Prop where
 go:∀ Z A,PJ X n es (tJ X Z A Fs)
section
variable {X:Cx} {n:Nat} {e:Expr} {es:List Expr} {F:FE} {Fs:List FE} {p:Pos} {x:Str} {j:Nat}
theorem zc8{t t':TJ}(h:PJ X n es t)(k:∀ σ H Q,t' σ H Q→t σ H Q):PJ X n es t':=fun out pins s σ H Q hl I q=>h out pins s σ H Q hl I (k _ _ _ q)
theorem zeu(h:n≤1000:=by decide):DJ X n [] []:=⟨fun Z A=>zc8 (zer h) fun σ H Q zg6=>by
 obtain⟨ow,δ,s,s',R,S,e,q⟩:=zg6
 cases e
 exact q H (Ext.refl H) S⟩
theorem zc9(m:Nat)(h:DJ X (n + m) es Fs)(hx:x.length≤m:=by decide +kernel)(hn:n + m≤1000:=by decide):DJ X n (.Constant (.str x) j p::es) Fs:=⟨fun Z A=>zes hx (h.go Z A) hn⟩
theorem za4(he:DE X.nox e F)(h:DJ X (n + 3) es Fs)(hn:n + 3≤1000:=by decide):DJ X n (.FormattedValue e (-1) none p::es) (F::Fs):=⟨fun Z A=>zc8 (zet (PE.nox (he.go Z A)) (h.go Z A) hn) fun σ H Q zg7=>by
 obtain⟨ow,δ,s,s',R,S,e,q⟩:=zg7
 rw[rFmt]at e
 dsimp only at e
 split at e
 ·rename_i i s1 e1
  split at e
  ·rename_i hi
   refine⟨X.H₀,ow,δ,s,.int i,s1,R,S,e1,fun v H1 x1 S1 r=>⟨i,by cases r;rfl,hi.1,hi.2,?_⟩⟩
   exact⟨ow,δ,s1,s',R.mono x1,S1,e,fun H' a b=>q H' (x1.trans a) b⟩
  ·cases e
 ·cases e⟩
end
def rIf2(Ft:FT)(R1 R:RS):RS:=fun δ s=>(Ft δ s).bind fun p=>if p.1=true then R1 δ p.2 else R δ p.2
section
variable {X:Cx} {st r:Stmt} {rest:List Stmt} {c:Expr} {C:Addr} {G:GS} {R R1:RS} {Ft:FT} {pos:Pos}
theorem zev(ht:DT X.nox c Ft)(hr:RX X [r] C R1)(h2:RX X rest C R):RX X (.If c [r] [] pos::rest) C (rIf2 Ft R1 R):=⟨fun Z A=>PSs.imp (z0b (zcl (PT.nox (ht.go Z A)) (hr.go Z A) z4X) (h2.go Z A)) fun E σ H zg8=>by
 obtain⟨ow,δ,s,s',Rs,S,e,q⟩:=zg8
 unfold rIf2 at e
 cases e1:Ft δ s with
 | none=>rw[e1]at e;cases e
 | some p =>
  obtain⟨b,s1⟩:=p
  rw[e1]at e
  refine⟨X.H₀,ow,δ,s,b,s1,Rs,S,e1,fun H' x S'=>?_⟩
  cases b with
  | true =>
   rw[if_pos rfl]
   exact⟨ow,δ,s1,s',Rs.mono x,S',e,q⟩
  | false =>
   rw[if_neg (by decide)]
   exact⟨ow,δ,s1,s',Rs.mono x,S',e,q⟩⟩
theorem za5{x:Str}{B newId initId:String}{bmB:List Value}{np cpos p2:Pos}{v1 v2:Expr}{es:List Expr}{Fs:List FE}(hc:X.calm=true)(FB:ExcBaseFacts B newId initId bmB)(q:PySem.W.excIn X.K C bmB newId=true)(hg:Gl X x)(hm:X.mg x=some (.ref C))(hj:DJ X 0 (v1::v2::es) Fs)(hdb:(x == ("__debug__":Str))=false:=by decide) :
  RX X [.Raise (some (.Call (.Name x np) [.JoinedStr (v1::v2::es) p2] [] cpos)) none pos] C (rFmt Fs):=⟨fun Z A=>PSs.imp (z47 (za3 hc FB q hg hm (hj.go Z A) (fun σ H Q Q' h t=>t.mono h) hdb)) fun E σ H ⟨ow,δ,s,s',Rs,S,e,k⟩ =>
 ⟨ow,δ,s,s',Rs,S,e,fun H' a b=>k E σ H' (Rs.ext.trans a) b⟩⟩
end
def rCall(h:List D→Sx→Option Sx)(FL:FA):RS:=fun δ s=>(FL δ s).bind fun q=>h q.1 q.2
theorem fnXC{P:Program}{w:World}{K:PySem.W.Frag}{mg:Str→Option Value}{base:Heap}{x qual y:Str}{st:Stmt}{f f' C:Addr}{fd fd':FuncData}{N ps ps':List Str}{k m:Nat}{h:List D→Sx→Option Sx}{FL:FA}{e:Expr}{es:List Expr}{rest:List Stmt}{p pos p2:Pos}
  (Fn:Fun K x qual st f fd) (S:FnScope N ps (defScope st)) (hN:N.length=ps.length + m) (eb:defBody st=.Expr (.Call (.Name y p) (e::es) [] pos) p2::rest)
  (G:FnOk P w K mg base (CX1 P w base) k f' fd' ps' (spX K C h)) (hm:mg y=some (.ref f')) (hk:PySem.W.keepIn K (.ref f')=true) (hb:Binds K fd' ps' []) (hdb:(y == ("__debug__":Str))=false)
  (ha:∀ (cdv:Value) (A:Around) (outer:List Env) (s:Shared) (H:Hp) (E:XK),Room k (A.deeper (envOfC qual (defScope st) s.heap.objs.size f cdv))→DA (cxOf (CX1 P w base) P w K mg base N qual (defScope st) f cdv A outer s H E).nox (e::es) FL ∧
   Gl (cxOf (CX1 P w base) P w K mg base N qual (defScope st) f cdv A outer s H E) y ∧
   (starEach (e::es) (envOfC qual (defScope st) s.heap.objs.size f cdv)=(false,eval e (envOfC qual (defScope st) s.heap.objs.size f cdv))::starEach es (envOfC qual (defScope st) s.heap.objs.size f cdv)∧(backTo pos (starEach es (envOfC qual (defScope st) s.heap.objs.size f cdv))).any (·.1)=false) ∧
   swapsWith (.Call (.Name y p) (e::es) [] pos) none p2.line (envOfC qual (defScope st) s.heap.objs.size f cdv)=pure false) :
  FnOk P w K mg base (CX1 P w base) (k + 1) f fd ps (spX K C (mkX ps.length m (rCall h FL))):=by
 obtain⟨oc,od,kV,doc,pm,an,cdv,ct,osl,rfl,lk,hcd⟩:=Fn.ex
 have len:∀ {ds:List D} {s s':Sx},mkX ps.length m (rCall h FL) ds s=some s'→ds.length=ps.length:=fun{ds s s'} e=>by
  unfold mkX at e
  split at e
  ·assumption
  ·cases e
 refine zcv lk hcd S (fun vs H Q E zg9=>by obtain⟨Z,A,ds,s,s',r,_,_,e,_⟩:=zg9;rw[r.length];exact len e) (fun A outer s H vs Q E hr zga=>?_)
 obtain⟨Z,A0,ds,st0,st1,r,hA,hS,e0,q⟩:=zga
 have hl:=len e0
 obtain⟨hda,hg,hst1,hsw⟩:=ha cdv A outer s H E hr
 rw[eb]
 refine⟨_,z0b (z64 (z66 (E:=E) G hr hg hm hk hb .nil pass1 (zeq (hda.go Z A0)) hdb hst1.1 hst1.2) hsw) (zbh (X:=_)),?_⟩
 unfold mkX at e0
 rw[if_pos hl]at e0
 have hst:L2.start N vs=vs.map some++List.replicate m none:=by
  unfold L2.start
  rw[hN,r.length,hl,Nat.add_sub_cancel_left]
 rw[hst]
 unfold rCall at e0
 refine bnd2 e0 fun ds1 s1 e1 e2=>?_
 have R0:RepS K H Z A0 [] (vs.map some++List.replicate m none) (ds.map .val++List.replicate m .non) H:={
  ok:=hA
  ext:=Ext.refl H
  len:=by simp[r.length]
  val:=fun i d h=>by
   obtain⟨v,h1,h2⟩:=z4K r h
   exact⟨v,h1,by rw[List.map_nil,List.append_nil];exact h2⟩
  own:=fun i xs h=>(z4L h).elim
  ows:=fun i p h=>nomatch h
  inj:=fun i j p h=>nomatch h}
 refine⟨H,[],_,st0,ds1,s1,R0,hS,e1,fun vs1 H1 x1 S1 rs=>?_⟩
 show spX K C h (vs1++[]) H1 _ E
 rw[List.append_nil]
 refine⟨Z,A0++([]:Ow).map (·.2),ds1,s1,st1,rs,fun q hq=>?_,S1,e2,fun H' a b=>q H' (x1.trans a) b⟩
 refine⟨(R0.mono x1).all q hq,?_⟩
 rw[List.map_nil,List.append_nil]at hq
 exact(hA q hq).2
end L3
set_option maxHeartbeats 4000000
namespace Law
open PySem L2 L3 PyProof.Rows
def top(i:Nat):Stmt:=PySem.Challenge.pw_farquotient_k53_furthest_by_a_prime.main.body.getD i (.Pass ⟨0,0,0,0⟩)
abbrev za6:Stmt:=top 0
abbrev z2T:Stmt:=top 3
abbrev z5c:Stmt:=top 4
abbrev z1i:Stmt:=top 12
abbrev z3B:Stmt:=top 13
abbrev z5d:Stmt:=top 14
abbrev z1q:Stmt:=top 16
abbrev z1j:Stmt:=top 17
abbrev z6j:Stmt:=top 18
abbrev z5e:Stmt:=top 19
abbrev z2c:Stmt:=top 20
abbrev z1r:Stmt:=top 22
abbrev z1L:Stmt:=top 23
abbrev z2U:Stmt:=top 25
abbrev z3C:Stmt:=top 26
abbrev z3D:Stmt:=top 27
abbrev z2V:Stmt:=top 28
abbrev z2d:Stmt:=top 29
abbrev z4d:Stmt:=top 30
abbrev z2e:Stmt:=top 31
abbrev z1z:Stmt:=top 32
abbrev z1A:Stmt:=top 33
abbrev z0Q:Stmt:=top 34
abbrev z04:Stmt:=top 35
abbrev z0U:Stmt:=top 36
abbrev z11:Stmt:=top 37
abbrev z1B:Stmt:=top 38
abbrev z0z:Stmt:=top 39
abbrev z0A:Stmt:=top 40
abbrev z7O:Stmt:=top 41
abbrev z05:Stmt:=inClass (top 2) 0
abbrev z12:Stmt:=inClass (top 2) 1
abbrev z0B:Stmt:=inClass (top 2) 2
abbrev z0m:Stmt:=inClass (top 2) 3
abbrev z0P:Stmt:=inClass (top 2) 4
abbrev z0C:Stmt:=inClass (top 2) 5
section
variable {P:Program} {w:World} {K:PySem.W.Frag} {mg:Str→Option Value} {base:Heap}
inductive Is(K:PySem.W.Frag)(mg:Str→Option Value)(x:Str)(st:Stmt):Prop
 | mk (f:Addr) (fd:FuncData) (h0:Fun K x x st f fd) (h1:mg x=some (.ref f))
inductive FD(K:PySem.W.Frag)(x:Str)(st:Stmt):Prop
 | mk {f:Addr} {od an:Option Addr} {sl:Array (Option Value)} {oc kV dc pm cd ct:Value} (a:PySem.W.nsIn K mainGlobals x=some (some (.ref f))) (l:K.lookup f=some ⟨oc,od,.func (PySem.W.fnOf x x (defArgs st) (defBody st) (defScope st) .none kV dc pm an cd ct),sl⟩) (c:PySem.W.codeIn K cd x=true) (k:PySem.W.keepIn K (.ref f)=true):FD K x st
theorem FD.is{h:Heap}{x:Str}{st:Stmt}(X:K.In h)(G:h.Ns mainGlobals mg)(d:FD K x st):Is K mg x st:=by
 cases d with
 | mk a l c k=>exact⟨_,_,z86 (st:=st) l c k,PySem.W.mg_of X G a⟩
inductive MD(K:PySem.W.Frag)(C:Addr)(x q:Str)(st:Stmt):Prop
 | mk {f:Addr} {od an:Option Addr} {sl:Array (Option Value)} {oc kV dc pm cd ct:Value} (a:PySem.W.findIn K (.ref C) x=some (some (.ref f))) (i:PySem.W.isFn K (.ref f)=true) (l:K.lookup f=some ⟨oc,od,.func (PySem.W.fnOf x q (defArgs st) (defBody st) (defScope st) .none kV dc pm an cd ct),sl⟩) (c:PySem.W.codeIn K cd q=true) (k:PySem.W.keepIn K (.ref f)=true):MD K C x q st
theorem MD.is{C:Addr}{y x q:Str}{st:Stmt}(aC:PySem.W.nsIn K mainGlobals y=some (some (.ref C)))(cl:Cls K C)(d:MD K C x q st):IsM K y x q st:=by
 cases d with
 | mk a i l c k=>exact⟨C,_,_,aC,cl,⟨a,i,k⟩,z86 (st:=st) l c k⟩
theorem MD.init{h:Heap}{C:Addr}{y q:Str}{st:Stmt}{fs:List Str}(X:K.In h)(G:h.Ns mainGlobals mg)(aC:PySem.W.nsIn K mainGlobals y=some (some (.ref C)))(cl:Cls K C)(mk:PySem.W.makesIn K C=true)(kc:PySem.W.keepIn K (.ref C)=true)(na:∀ x∈fs,NoAttr K C x)(d:MD K C "__init__" q st):IsI K mg y q st fs:=by
 cases d with
 | mk a i l c k=>exact⟨C,_,_,aC,PySem.W.mg_of X G aC,⟨mk,a,i,kc⟩,cl,na,z86 (st:=st) l c k⟩
def z0n:List D→Option (List D):=fun ds=>match ds with | [x1]=>some [x1,(.int 0),(.int 1)] | _=>none
theorem z2J:FnScope ["self","prime"] ["self","prime"] (defScope z05):=⟨rfl,rfl,rfl,by decide +kernel,rfl,by decide +kernel,by decide +kernel⟩
theorem z2K(hf:IsI K mg "PrimeField" "PrimeField.__init__" z05 ["prime","nought","unit"]):KCal P w K mg base "PrimeField" 1 ["prime","nought","unit"] z0n:=by
 obtain⟨C,f,fd,kC,hm,M,cl,na,F⟩:=hf
 refine initOk kC hm M F z2J (F.binds fun _ _ _ _ _ _ us hl=>by obtain⟨a0,a1,rfl⟩:=len2 (show us.length=2 from hl);rfl) (by decide) (fun xs hx=>match xs,hx with | [_,_,_],_=>by first | rfl | with_unfolding_all rfl | simp +decide [putAll,putF]) (fun ds fds e=>?_) (fun cdv A outer s H E=>(z7M cl (na "prime" (by simp)) (pv 0) (zek (pv 1)) (z7M cl (na "nought" (by simp)) (pv 0) zc6 (z7M cl (na "unit" (by simp)) (pv 0) zc6 zel)))) (fun Z H A p ws ds fds rs e=>?_)
 ·unfold z0n at e
  split at e
  ·rfl
  ·cases e
 ·unfold z0n at e
  split at e
  ·cases e
   cases rs with
   | @cons v1 _ _ _ r1 rs =>
    cases rs
    exact⟨[v1,(.int 0),(.int 1)],rfl,rfl,(.cons r1 (.cons (.int _) (.cons (.int _) .nil)))⟩
  ·cases e
theorem sc_PrimeField_added:FnScope ["self","one","other"] ["self","one","other"] (defScope z12):=⟨rfl,rfl,rfl,by decide +kernel,rfl,by decide +kernel,by decide +kernel⟩
def z0y:GS:=(sRet (f2 gModI (f2 gAdd (fVar 1) (fVar 2)) (f1 (gFld ["PrimeField"] "prime") (fVar 0))))
def zx:GF:=mkFn 3 0 z0y
theorem z3E(hf:IsM K "PrimeField" "added" "PrimeField.added" z12)(f_prime:∀ c∈(["PrimeField"]:List Str),FCal K c "prime"):MCal P w K mg base "PrimeField" "added" 1 zx:=by
 obtain⟨C,f,fd,kC,cl,me,F⟩:=hf
 have nd:=sc_PrimeField_added.nd
 exact⟨C,f,fd,["self","one","other"],kC,cl,me,fnD F sc_PrimeField_added rfl (fun cdv A outer s H E hr=>(zh (zC (de_op dmod_int (de_op dadd (dv 1).w (dv 2).w).w (z20 (cs:=["PrimeField"]) f_prime (dv 0).w).w)))),F.binds fun _ _ _ _ _ _ us hl=>by obtain⟨a0,a1,a2,rfl⟩:=len3 (show us.length=3 from hl);rfl⟩
theorem sc_PrimeField_lessened:FnScope ["self","one","other"] ["self","one","other"] (defScope z0B):=⟨rfl,rfl,rfl,by decide +kernel,rfl,by decide +kernel,by decide +kernel⟩
def z06:GS:=(sRet (f2 gModI (f2 gSubI (fVar 1) (fVar 2)) (f1 (gFld ["PrimeField"] "prime") (fVar 0))))
def zt:GF:=mkFn 3 0 z06
theorem z2L(hf:IsM K "PrimeField" "lessened" "PrimeField.lessened" z0B)(f_prime:∀ c∈(["PrimeField"]:List Str),FCal K c "prime"):MCal P w K mg base "PrimeField" "lessened" 1 zt:=by
 obtain⟨C,f,fd,kC,cl,me,F⟩:=hf
 have nd:=sc_PrimeField_lessened.nd
 exact⟨C,f,fd,["self","one","other"],kC,cl,me,fnD F sc_PrimeField_lessened rfl (fun cdv A outer s H E hr=>(zh (zC (de_op dmod_int (de_op zM (dv 1).w (dv 2).w).w (z20 (cs:=["PrimeField"]) f_prime (dv 0).w).w)))),F.binds fun _ _ _ _ _ _ us hl=>by obtain⟨a0,a1,a2,rfl⟩:=len3 (show us.length=3 from hl);rfl⟩
theorem sc_PrimeField_multiplied:FnScope ["self","one","other"] ["self","one","other"] (defScope z0m):=⟨rfl,rfl,rfl,by decide +kernel,rfl,by decide +kernel,by decide +kernel⟩
def zX:GS:=(sRet (f2 gModI (f2 gMulI (fVar 1) (fVar 2)) (f1 (gFld ["PrimeField"] "prime") (fVar 0))))
def zg:GF:=mkFn 3 0 zX
theorem z2o(hf:IsM K "PrimeField" "multiplied" "PrimeField.multiplied" z0m)(f_prime:∀ c∈(["PrimeField"]:List Str),FCal K c "prime"):MCal P w K mg base "PrimeField" "multiplied" 1 zg:=by
 obtain⟨C,f,fd,kC,cl,me,F⟩:=hf
 have nd:=sc_PrimeField_multiplied.nd
 exact⟨C,f,fd,["self","one","other"],kC,cl,me,fnD F sc_PrimeField_multiplied rfl (fun cdv A outer s H E hr=>(zh (zC (de_op dmod_int (de_op dmul_int (dv 1).w (dv 2).w).w (z20 (cs:=["PrimeField"]) f_prime (dv 0).w).w)))),F.binds fun _ _ _ _ _ _ us hl=>by obtain⟨a0,a1,a2,rfl⟩:=len3 (show us.length=3 from hl);rfl⟩
theorem sc_inverse_by:FnScope ["prime","one","high","low","far","near","often"] ["prime","one"] (defScope z2T):=⟨rfl,rfl,rfl,by decide +kernel,rfl,by decide +kernel,by decide +kernel⟩
def z3m:GS:=sWhile (asT (fVar 3)) (sSeq (sSet 6 (f2 gDivI (fVar 2) (fVar 3)))
 (sSeq (sPar 2 3 (aCons (fVar 3) (aCons (f2 gSubI (fVar 2) (f2 gMulI (fVar 6) (fVar 3))) aNil)))
 (sPar 4 5 (aCons (fVar 5) (aCons (f2 gSubI (fVar 4) (f2 gMulI (fVar 6) (fVar 5))) aNil)))))
def z21:GS:=(sSeq (sPar 2 3 (aCons (fVar 0) (aCons (fVar 1) aNil)))
 (sSeq (sUnp (.tup [4,5]) (eTup (aCons (fC (.int 0)) (aCons (fC (.int 1)) aNil))))
 (sSeq z3m
 (sRet (f2 gModI (fVar 4) (fVar 0))))))
def z1s:GF:=mkFn 2 5 z21
theorem z6k(hf:Is K mg "inverse_by" z2T):Cal P w K mg base "inverse_by" ["prime","one"] 1 z1s:=by
 obtain⟨f,fd,F,hm⟩:=hf
 have nd:=sc_inverse_by.nd
 exact⟨f,fd,fnD F sc_inverse_by rfl (fun cdv A outer s H E hr=>(dss_cons (z6X (i:=2) (j:=3) nd (by decide) (z0 (dv 0) (z0 (dv 1) zd)) (by first | rfl | with_unfolding_all rfl))
   (dss_cons (z6Y (z1p (z0 de_int (z0 de_int zd))) (z4p (z0c (i:=4) nd (z0c (i:=5) nd z2S))))
   (dss_cons (z1V (z1X (dv 3).w (fun _=>rfl)) (dss_cons (ds_set (i:=6) nd (de_op z3d (dv 2).w (dv 3).w))
   (dss_cons (z6X (i:=2) (j:=3) nd (by decide) (z0 (dv 3) (z0 (de_op zM (dv 2).w (de_op dmul_int (dv 6).w (dv 3).w).w) zd)) (by first | rfl | with_unfolding_all rfl))
   (zh (z6X (i:=4) (j:=5) nd (by decide) (z0 (dv 5) (z0 (de_op zM (dv 4).w (de_op dmul_int (dv 6).w (dv 5).w).w) zd)) (by first | rfl | with_unfolding_all rfl))))))
   (zh (zC (de_op dmod_int (dv 4).w (dv 0).w))))))),hm,F.kp,F.binds fun _ _ _ _ _ _ us hl=>by obtain⟨a0,a1,rfl⟩:=len2 (show us.length=2 from hl);rfl⟩
theorem sc_PrimeField_divided:FnScope ["self","one","other"] ["self","one","other"] (defScope z0P):=⟨rfl,rfl,rfl,by decide +kernel,rfl,by decide +kernel,by decide +kernel⟩
def z0d:GS:=(sRet (f2 gModI (f2 gMulI (fVar 1) (fCall z1s (aCons (f1 (gFld ["PrimeField"] "prime") (fVar 0)) (aCons (fVar 2) aNil)))) (f1 (gFld ["PrimeField"] "prime") (fVar 0))))
def zf:GF:=mkFn 3 0 z0d
theorem z2W(hf:IsM K "PrimeField" "divided" "PrimeField.divided" z0P)(z35:Cal P w K mg base "inverse_by" ["prime","one"] 1 z1s)(f_prime:∀ c∈(["PrimeField"]:List Str),FCal K c "prime"):MCal P w K mg base "PrimeField" "divided" 2 zf:=by
 obtain⟨C,f,fd,kC,cl,me,F⟩:=hf
 have nd:=sc_PrimeField_divided.nd
 exact⟨C,f,fd,["self","one","other"],kC,cl,me,fnD F sc_PrimeField_divided rfl (fun cdv A outer s H E hr=>(zh (zC (de_op dmod_int (de_op dmul_int (dv 1).w (zw z35 hr (z0 (z20 (cs:=["PrimeField"]) f_prime (dv 0).w) (z0 (dv 2) zd))).w).w (z20 (cs:=["PrimeField"]) f_prime (dv 0).w).w)))),F.binds fun _ _ _ _ _ _ us hl=>by obtain⟨a0,a1,a2,rfl⟩:=len3 (show us.length=3 from hl);rfl⟩
def z6l:GF:=fun _ _=>none
theorem zbi(hf:Is K mg "_wall" za6):Cal P w K mg base "_wall" ["k"] 1 z6l:=by
  obtain⟨f,fd,F,hm⟩:=hf
  exact⟨f,fd,⟨fun _ _ _ _ h=>(z4M h).elim,fun _ _ _ _ _ _ _ _ _ _ _ _ _ h=>(z4M h).elim⟩,hm,F.kp,F.binds fun _ _ _ _ _ _ us hl=>by obtain⟨a0,rfl⟩:=len1 (show us.length=1 from hl);rfl⟩
theorem sc_PrimeField_simplest:FnScope ["self","numbers"] ["self","numbers"] (defScope z0C):=⟨rfl,rfl,rfl,by decide +kernel,rfl,by decide +kernel,by decide +kernel⟩
def z2X:GS:=(sDrop (fCall z6l (aCons (fC (.int 0)) aNil)))
def z1t:GF:=mkFn 2 0 z2X
theorem z2M(hf:IsM K "PrimeField" "simplest" "PrimeField.simplest" z0C)(z7W:Cal P w K mg base "_wall" ["k"] 1 z6l):MCal P w K mg base "PrimeField" "simplest" 2 z1t:=by
 obtain⟨C,f,fd,kC,cl,me,F⟩:=hf
 have nd:=sc_PrimeField_simplest.nd
 exact⟨C,f,fd,["self","numbers"],kC,cl,me,fnD F sc_PrimeField_simplest rfl (fun cdv A outer s H E hr=>(zh (z9P (zw z7W hr (z0 de_int zd))))),F.binds fun _ _ _ _ _ _ us hl=>by obtain⟨a0,a1,rfl⟩:=len2 (show us.length=2 from hl);rfl⟩
theorem sc_trimmed:FnScope ["nought","row","many"] ["nought","row"] (defScope z5c):=⟨rfl,rfl,rfl,by decide +kernel,rfl,by decide +kernel,by decide +kernel⟩
def z5f:GS:=sWhile (tAndF (asB (f2 gGt (fVar 2) (fC (.int 0)))) (asB (f2 gEq (f2 gIx (fVar 1) (f2 gSubI (fVar 2) (fC (.int 1)))) (fVar 0)))) (sAug 2 gSubI (fC (.int 1)))
def z3V:GS:=(sSeq (sSet 2 (f1 gLen (fVar 1)))
 (sSeq z5f
 (sRet (f1 gTuple (fSl (fVar 1) pNo (pInt (fVar 2)))))))
def z2Y:GF:=mkFn 2 1 z3V
theorem z91(hf:Is K mg "trimmed" z5c)(zK:mg "len"=none)(zQ:mg "tuple"=none):Cal P w K mg base "trimmed" ["nought","row"] 1 z2Y:=by
 obtain⟨f,fd,F,hm⟩:=hf
 have nd:=sc_trimmed.nd
 exact⟨f,fd,fnD F sc_trimmed rfl (fun cdv A outer s H E hr=>(dss_cons (ds_set (i:=2) nd (z0O z03 (by first | rfl | decide +kernel) zK (dv 1).w))
   (dss_cons (z1V (z5T (zP dgt (dv 2).w (de_int).w (nomark _)) (z4b (zP (deq hr.units) (zV (dv 1).w (de_op zM (dv 2).w (de_int).w).w (fun _ _=>rfl)).w (dv 0).w (nomark _)))).t (zh (zc5 (i:=2) nd zeh de_int)))
   (zh (zC (z6b z3e (by first | rfl | decide +kernel) zQ (z1Y (dv 1) z7L (z3U (dv 2).w)).w)))))),hm,F.kp,F.binds fun _ _ _ _ _ _ us hl=>by obtain⟨a0,a1,rfl⟩:=len2 (show us.length=2 from hl);rfl⟩
theorem sc_check_places:FnScope ["row","m","n"] ["row","m","n"] (defScope z1i):=⟨rfl,rfl,rfl,by decide +kernel,rfl,by decide +kernel,by decide +kernel⟩
def z3n:GS:=(sIf (asB (f2 gLt (f1 gLen (fVar 0)) (f2 gAdd (f2 gAdd (fVar 1) (fVar 2)) (fC (.int 1))))) (fun _ _=>none) sNext)
def z0R:GF:=mkFn 3 0 z3n
theorem z5g(hf:Is K mg "check_places" z1i)(zK:mg "len"=none):Cal P w K mg base "check_places" ["row","m","n"] 1 z0R:=by
 obtain⟨f,fd,F,hm⟩:=hf
 have nd:=sc_check_places.nd
 exact⟨f,fd,fnD F sc_check_places rfl (fun cdv A outer s H E hr=>(zh (z1K (zP dlt (z0O z03 (by first | rfl | decide +kernel) zK (dv 0).w).w (de_op dadd (de_op dadd (dv 1).w (dv 2).w).w (de_int).w).w (nomark _)) (zh zcW) zW))),hm,F.kp,F.binds fun _ _ _ _ _ _ us hl=>by obtain⟨a0,a1,a2,rfl⟩:=len3 (show us.length=3 from hl);rfl⟩
theorem sc_number_at:FnScope ["field","row","place"] ["field","row","place"] (defScope z3B):=⟨rfl,rfl,rfl,by decide +kernel,rfl,by decide +kernel,by decide +kernel⟩
def z1e:GS:=(sSeq (sIf (asB (fChain gLe gLt (fC (.int 0)) (fVar 2) (f1 gLen (fVar 1)))) (sRet (f2 gIx (fVar 1) (fVar 2))) sNext)
 (sRet (f1 (gFld ["PrimeField"] "nought") (fVar 0))))
def z0D:GF:=mkFn 3 0 z1e
theorem z76(hf:Is K mg "number_at" z3B)(zK:mg "len"=none)(f_nought:∀ c∈(["PrimeField"]:List Str),FCal K c "nought"):Cal P w K mg base "number_at" ["field","row","place"] 1 z0D:=by
 obtain⟨f,fd,F,hm⟩:=hf
 have nd:=sc_number_at.nd
 exact⟨f,fd,fnD F sc_number_at rfl (fun cdv A outer s H E hr=>(dss_cons (z1K (zbf dle dlt (de_int).w (dv 2).w (z0O z03 (by first | rfl | decide +kernel) zK (dv 1).w).w) (zh (zC (zV (dv 1).w (dv 2).w (fun _ _=>rfl)))) zW)
   (zh (zC (z20 (cs:=["PrimeField"]) f_nought (dv 0).w))))),hm,F.kp,F.binds fun _ _ _ _ _ _ us hl=>by obtain⟨a0,a1,a2,rfl⟩:=len3 (show us.length=3 from hl);rfl⟩
theorem sc_weighed:FnScope ["field","weights","row","place","total","step","weight"] ["field","weights","row","place"] (defScope z5d):=⟨rfl,rfl,rfl,by decide +kernel,rfl,by decide +kernel,by decide +kernel⟩
def z5h:GS:=(sSet 4 (fMeth [("PrimeField",zx)] "added" (fVar 0) (aCons (fVar 4) (aCons (fMeth [("PrimeField",zg)] "multiplied" (fVar 0) (aCons (fVar 6) (aCons (fCall z0D (aCons (fVar 0) (aCons (fVar 2) (aCons (f2 gSubI (fVar 3) (fVar 5)) aNil)))) aNil))) aNil))))
def z3F:GS:=sFor (iEnumF (fVar 1)) (.tup [5,6]) z5h
def z3W:GS:=(sSeq (sSet 4 (f1 (gFld ["PrimeField"] "nought") (fVar 0)))
 (sSeq z3F
 (sRet (fVar 4))))
def z2p:GF:=mkFn 4 3 z3W
theorem z92(hf:Is K mg "weighed" z5d)(z1h:Cal P w K mg base "number_at" ["field","row","place"] 1 z0D)(z3M:mg "enumerate"=none)(f_nought:∀ c∈(["PrimeField"]:List Str),FCal K c "nought")(m_added:∀ c g,([("PrimeField",zx)]:List (Str × GF)).lookup c=some g→∃ k,k≤1∧MCal P w K mg base c "added" k g)(m_multiplied:∀ c g,([("PrimeField",zg)]:List (Str × GF)).lookup c=some g→∃ k,k≤1∧MCal P w K mg base c "multiplied" k g):Cal P w K mg base "weighed" ["field","weights","row","place"] 2 z2p:=by
 obtain⟨f,fd,F,hm⟩:=hf
 have nd:=sc_weighed.nd
 exact⟨f,fd,fnD F sc_weighed rfl (fun cdv A outer s H E hr=>(dss_cons (ds_set (i:=4) nd (z20 (cs:=["PrimeField"]) f_nought (dv 0).w))
   (dss_cons (z1W (zcS z3M (dv 1)) (z4p (z0c (i:=5) nd (z0c (i:=6) nd z2S))) (zh (ds_set (i:=4) nd (z1y (tab:=[("PrimeField",zx)]) m_added (hr.mono (by decide)) (dv 0) (z0 (dv 4) (z0 (z1y (tab:=[("PrimeField",zg)]) m_multiplied (hr.mono (by decide)) (dv 0) (z0 (dv 6) (z0 (zw z1h hr (z0 (dv 0) (z0 (dv 2) (z0 (de_op zM (dv 3).w (dv 5).w) zd)))) zd))) zd))))))
   (zh (zC (dv 4)))))),hm,F.kp,F.binds fun _ _ _ _ _ _ us hl=>by obtain⟨a0,a1,a2,a3,rfl⟩:=len4 (show us.length=4 from hl);rfl⟩
theorem sc_leader:FnScope ["field","equations","column","at"] ["field","equations","column"] (defScope z6j):=⟨rfl,rfl,rfl,by decide +kernel,rfl,by decide +kernel,by decide +kernel⟩
def z1P:GS:=(sIf (asB (f2 gNe (f2 gIx (f2 gIx (fVar 1) (fVar 3)) (fVar 2)) (f1 (gFld ["PrimeField"] "nought") (fVar 0)))) (sRet (fVar 3)) sNext)
def z4e:GS:=sFor (iRange2 (fVar 2) (f1 gLen (fVar 1))) (.one 3) z1P
def z6m:GS:=(sSeq z4e
 (sRet (fC .none)))
def z0I:GF:=mkFn 3 1 z6m
theorem za7(hf:Is K mg "leader" z6j)(zK:mg "len"=none)(zA:mg "range"=none)(f_nought:∀ c∈(["PrimeField"]:List Str),FCal K c "nought"):Cal P w K mg base "leader" ["field","equations","column"] 1 z0I:=by
 obtain⟨f,fd,F,hm⟩:=hf
 have nd:=sc_leader.nd
 exact⟨f,fd,fnD F sc_leader rfl (fun cdv A outer s H E hr=>(dss_cons (z1W (z2R zA (dv 2) (z0O z03 (by first | rfl | decide +kernel) zK (dv 1).w)) (zS (i:=3) nd) (zh (z1K (zP (dne hr.units) (zV (zV (dv 1).w (dv 3).w (fun _ _=>rfl)).w (dv 2).w (fun _ _=>rfl)).w (z20 (cs:=["PrimeField"]) f_nought (dv 0).w).w (nomark _)) (zh (zC (dv 3))) zW)))
   (zh (zC z6U)))),hm,F.kp,F.binds fun _ _ _ _ _ _ us hl=>by obtain⟨a0,a1,a2,rfl⟩:=len3 (show us.length=3 from hl);rfl⟩
theorem sc_weights_back:FnScope ["field","equations","many","last","weights","at","behind","column"] ["field","equations","many","last"] (defScope z2c):=⟨rfl,rfl,rfl,by decide +kernel,rfl,by decide +kernel,by decide +kernel⟩
def z2F:GS:=(sSet 6 (fMeth [("PrimeField",zx)] "added" (fVar 0) (aCons (fVar 6) (aCons (fMeth [("PrimeField",zg)] "multiplied" (fVar 0) (aCons (f2 gIx (f2 gIx (fVar 1) (fVar 5)) (fVar 7)) (aCons (f2 gIx (fVarW 4) (fVar 7)) aNil))) aNil))))
def z1C:GS:=sFor (iRange2 (f2 gAdd (fVar 5) (fC (.int 1))) (f2 gAdd (fVar 2) (fC (.int 1)))) (.one 7) z2F
def z2G:GS:=(sSeq (sSet 6 (f1 (gFld ["PrimeField"] "nought") (fVar 0)))
 (sSeq z1C
 (sPut 4 (fVar 5) (fMeth [("PrimeField",zf)] "divided" (fVar 0) (aCons (fMeth [("PrimeField",zt)] "lessened" (fVar 0) (aCons (f1 (gFld ["PrimeField"] "nought") (fVar 0)) (aCons (fVar 6) aNil))) (aCons (f2 gIx (f2 gIx (fVar 1) (fVar 5)) (fVar 5)) aNil))))))
def z2H:GS:=sFor (iRevRange (fVar 2)) (.one 5) z2G
def z1k:GS:=(sSeq (sSetO 4 (o2 lCat (f2 gMulA (eLst (aCons (f1 (gFld ["PrimeField"] "nought") (fVar 0)) aNil)) (fVar 2)) (eLst (aCons (fVar 3) aNil))))
 (sSeq z2H
 (sSeq (sFrz 4) (sRet (fVar 4)))))
def z0S:GF:=mkFn 4 4 z1k
theorem z5i(hf:Is K mg "weights_back" z2c)(zA:mg "range"=none)(z4l:mg "reversed"=none)(f_nought:∀ c∈(["PrimeField"]:List Str),FCal K c "nought")(m_added:∀ c g,([("PrimeField",zx)]:List (Str × GF)).lookup c=some g→∃ k,k≤1∧MCal P w K mg base c "added" k g)(m_divided:∀ c g,([("PrimeField",zf)]:List (Str × GF)).lookup c=some g→∃ k,k≤2∧MCal P w K mg base c "divided" k g)(m_lessened:∀ c g,([("PrimeField",zt)]:List (Str × GF)).lookup c=some g→∃ k,k≤1∧MCal P w K mg base c "lessened" k g)(m_multiplied:∀ c g,([("PrimeField",zg)]:List (Str × GF)).lookup c=some g→∃ k,k≤1∧MCal P w K mg base c "multiplied" k g):Cal P w K mg base "weights_back" ["field","equations","many","last"] 3 z0S:=by
 obtain⟨f,fd,F,hm⟩:=hf
 have nd:=sc_weights_back.nd
 exact⟨f,fd,fnD F sc_weights_back rfl (fun cdv A outer s H E hr=>(dss_cons (z2x (i:=4) nd (zed (de_op dmula (z1R (z0 (z20 (cs:=["PrimeField"]) f_nought (dv 0).w) zd)).w (dv 2).w).w (z1R (z0 (dv 3) zd)).w))
   (dss_cons (z1W (zcT z4l zA (dv 2)) (zS (i:=5) nd) (dss_cons (ds_set (i:=6) nd (z20 (cs:=["PrimeField"]) f_nought (dv 0).w))
   (dss_cons (z1W (z2R zA (de_op dadd (dv 5).w (de_int).w) (de_op dadd (dv 2).w (de_int).w)) (zS (i:=7) nd) (zh (ds_set (i:=6) nd (z1y (tab:=[("PrimeField",zx)]) m_added (hr.mono (by decide)) (dv 0) (z0 (dv 6) (z0 (z1y (tab:=[("PrimeField",zg)]) m_multiplied (hr.mono (by decide)) (dv 0) (z0 (zV (zV (dv 1).w (dv 5).w (fun _ _=>rfl)).w (dv 7).w (fun _ _=>rfl)) (z0 (zV (dvw 4) (dv 7).w (fun _ _=>rfl)) zd))) zd))))))
   (zh (z8a (i:=4) (pv 4) (dv 5).w (z1y (tab:=[("PrimeField",zf)]) m_divided (hr.mono (by decide)) (dv 0) (z0 (z1y (tab:=[("PrimeField",zt)]) m_lessened (hr.mono (by decide)) (dv 0) (z0 (z20 (cs:=["PrimeField"]) f_nought (dv 0).w) (z0 (dv 6) zd))) (z0 (zV (zV (dv 1).w (dv 5).w (fun _ _=>rfl)).w (dv 5).w (fun _ _=>rfl)) zd))))))))
   (zh (z5b 4 (zC (dv 4))))))),hm,F.kp,F.binds fun _ _ _ _ _ _ us hl=>by obtain⟨a0,a1,a2,a3,rfl⟩:=len4 (show us.length=4 from hl);rfl⟩
theorem sc_cleared:FnScope ["field","first","other","column","share","row","one","each","grown"] ["field","first","other","column","share"] (defScope z5e):=⟨rfl,rfl,rfl,by decide +kernel,rfl,by decide +kernel,by decide +kernel⟩
def z5j:GS:=(sSeq (sSet 8 (fMeth [("PrimeField",zt)] "lessened" (fVar 0) (aCons (fMeth [("PrimeField",zg)] "multiplied" (fVar 0) (aCons (f2 gIx (fVar 1) (fVar 3)) (aCons (fVar 7) aNil))) (aCons (fMeth [("PrimeField",zg)] "multiplied" (fVar 0) (aCons (f2 gIx (fVar 2) (fVar 3)) (aCons (fVar 6) aNil))) aNil))))
 (sApp 5 (fMeth [("PrimeField",zf)] "divided" (fVar 0) (aCons (fVar 8) (aCons (fVar 4) aNil)))))
def z5k:GS:=sFor (iZipF (fVar 1) (fVar 2)) (.tup [6,7]) z5j
def z3X:GS:=(sSeq (sSetO 5 (oLst aNil))
 (sSeq z5k
 (sSeq (sFrz 5) (sRet (fVar 5)))))
def z2q:GF:=mkFn 5 4 z3X
theorem z93(hf:Is K mg "cleared" z5e)(z81:mg "zip"=none)(m_divided:∀ c g,([("PrimeField",zf)]:List (Str × GF)).lookup c=some g→∃ k,k≤2∧MCal P w K mg base c "divided" k g)(m_lessened:∀ c g,([("PrimeField",zt)]:List (Str × GF)).lookup c=some g→∃ k,k≤1∧MCal P w K mg base c "lessened" k g)(m_multiplied:∀ c g,([("PrimeField",zg)]:List (Str × GF)).lookup c=some g→∃ k,k≤1∧MCal P w K mg base c "multiplied" k g):Cal P w K mg base "cleared" ["field","first","other","column","share"] 3 z2q:=by
 obtain⟨f,fd,F,hm⟩:=hf
 have nd:=sc_cleared.nd
 exact⟨f,fd,fnD F sc_cleared rfl (fun cdv A outer s H E hr=>(dss_cons (z2x (i:=5) nd (z6e zd))
   (dss_cons (z1W (zc3 z81 (dv 1) (dv 2)) (z4p (z0c (i:=6) nd (z0c (i:=7) nd z2S))) (dss_cons (ds_set (i:=8) nd (z1y (tab:=[("PrimeField",zt)]) m_lessened (hr.mono (by decide)) (dv 0) (z0 (z1y (tab:=[("PrimeField",zg)]) m_multiplied (hr.mono (by decide)) (dv 0) (z0 (zV (dv 1).w (dv 3).w (fun _ _=>rfl)) (z0 (dv 7) zd))) (z0 (z1y (tab:=[("PrimeField",zg)]) m_multiplied (hr.mono (by decide)) (dv 0) (z0 (zV (dv 2).w (dv 3).w (fun _ _=>rfl)) (z0 (dv 6) zd))) zd))))
   (zh (z89 (i:=5) (pv 5) (z1y (tab:=[("PrimeField",zf)]) m_divided (hr.mono (by decide)) (dv 0) (z0 (dv 8) (z0 (dv 4) zd)))))))
   (zh (z5b 5 (zC (dv 5))))))),hm,F.kp,F.binds fun _ _ _ _ _ _ us hl=>by obtain⟨a0,a1,a2,a3,a4,rfl⟩:=len5 (show us.length=5 from hl);rfl⟩
theorem sc_least_answer:FnScope ["field","equations","column","share","at","ahead","behind","first"] ["field","equations"] (defScope z1j):=⟨rfl,rfl,rfl,by decide +kernel,rfl,by decide +kernel,by decide +kernel⟩
def z0s:FO:=fComp 1 [0,7,2,3] (iSeq (fVar 6)) (.one 0) fTrue (fCall z2q (aCons (fVar 1) (aCons (fVar 2) (aCons (fVar 0) (aCons (fVar 3) (aCons (fVar 4) aNil))))))
def z4x:GS:=sWhile (asB (f2 gIsNot (fVar 4) (fC .none))) (sSeq (sPar 5 6 (aCons (fSl (fVar 1) pNo (pInt (fVar 2))) (aCons (f2 gAddA (fSl (fVar 1) (pInt (fVar 2)) (pInt (fVar 4))) (fSl (fVar 1) (pInt (f2 gAdd (fVar 4) (fC (.int 1)))) pNo)) aNil)))
 (sSeq (sSet 7 (f2 gIx (fVar 1) (fVar 4)))
 (sSeq (sSet 1 (f2 gAdd (f2 gAdd (fVar 5) (eLst (aCons (fVar 7) aNil))) (asL z0s)))
 (sSeq (sUnp (.tup [2,3]) (eTup (aCons (f2 gAdd (fVar 2) (fC (.int 1))) (aCons (f2 gIx (fVar 7) (fVar 2)) aNil))))
 (sSet 4 (fCall z0I (aCons (fVar 0) (aCons (fVar 1) (aCons (fVar 2) aNil)))))))))
def z1l:GS:=(sSeq (sUnp (.tup [2,3]) (eTup (aCons (fC (.int 0)) (aCons (f1 (gFld ["PrimeField"] "unit") (fVar 0)) aNil))))
 (sSeq (sSet 4 (fCall z0I (aCons (fVar 0) (aCons (fVar 1) (aCons (fVar 2) aNil)))))
 (sSeq z4x
 (sRet (fCall z0S (aCons (fVar 0) (aCons (fVar 1) (aCons (fVar 2) (aCons (fVar 3) aNil)))))))))
def z0v:GF:=mkFn 2 6 z1l
theorem z5l(hf:Is K mg "least_answer" z1j)(z4U:Cal P w K mg base "leader" ["field","equations","column"] 1 z0I)(z2l:Cal P w K mg base "weights_back" ["field","equations","many","last"] 3 z0S)(z5A:Cal P w K mg base "cleared" ["field","first","other","column","share"] 3 z2q)(f_unit:∀ c∈(["PrimeField"]:List Str),FCal K c "unit"):Cal P w K mg base "least_answer" ["field","equations"] 4 z0v:=by
 obtain⟨f,fd,F,hm⟩:=hf
 have nd:=sc_least_answer.nd
 exact⟨f,fd,fnD F sc_least_answer rfl (fun cdv A outer s H E hr=>(dss_cons (z6Y (z1p (z0 de_int (z0 (z20 (cs:=["PrimeField"]) f_unit (dv 0).w) zd))) (z4p (z0c (i:=2) nd (z0c (i:=3) nd z2S))))
   (dss_cons (ds_set (i:=4) nd (zw z4U hr (z0 (dv 0) (z0 (dv 1) (z0 (dv 2) zd)))))
   (dss_cons (z1V (zP disnot (dv 4).w (z6U).w (nomark _)) (dss_cons (z6X (i:=5) (j:=6) nd (by decide) (z0 (z1Y (dv 1) z7L (z3U (dv 2).w)) (z0 (de_op dadda (z1Y (dv 1) (z3U (dv 2).w) (z3U (dv 4).w)).w (z1Y (dv 1) (z3U (de_op dadd (dv 4).w (de_int).w).w) z7L).w) zd)) (by first | rfl | with_unfolding_all rfl))
   (dss_cons (ds_set (i:=7) nd (zV (dv 1).w (dv 4).w (fun _ _=>rfl)))
   (dss_cons (ds_set (i:=1) nd (de_op dadd (de_op dadd (dv 5).w (z1R (z0 (dv 7) zd)).w).w (DF.de (z1S (N:=["each","field","first","column","share"]) (k:=1) (fr:=[0,7,2,3]) (compOkC (sc:=defScope z1j) (N0:=["field","equations","column","share","at","ahead","behind","first"]) (by rfl) (by rfl) (by decide +kernel) (fun _ h=>z0l h)) (by decide) (z5V (dv 6)) (fun _ _ _ _=>by exact(zS (i:=0) (show List.Nodup (α:=Str) ["each","field","first","column","share"] by decide +kernel))) (fun _ _ _ _=>z0H) (fun _ _ _ _=>by exact(zw z5A hr (z0 (dv 1) (z0 (dv 2) (z0 (dv 0) (z0 (dv 3) (z0 (dv 4) zd))))))))).w))
   (dss_cons (z6Y (z1p (z0 (de_op dadd (dv 2).w (de_int).w) (z0 (zV (dv 7).w (dv 2).w (fun _ _=>rfl)) zd))) (z4p (z0c (i:=2) nd (z0c (i:=3) nd z2S))))
   (zh (ds_set (i:=4) nd (zw z4U hr (z0 (dv 0) (z0 (dv 1) (z0 (dv 2) zd)))))))))))
   (zh (zC (zw z2l hr (z0 (dv 0) (z0 (dv 1) (z0 (dv 2) (z0 (dv 3) zd))))))))))),hm,F.kp,F.binds fun _ _ _ _ _ _ us hl=>by obtain⟨a0,a1,rfl⟩:=len2 (show us.length=2 from hl);rfl⟩
theorem sc_least_pair:FnScope ["field","row","m","n","equations","place","below","top"] ["field","row","m","n"] (defScope z1q):=⟨rfl,rfl,rfl,by decide +kernel,rfl,by decide +kernel,by decide +kernel⟩
def z3o:FO:=fComp 1 [0,1,5] (iRange1 (f2 gAdd (fVar 3) (fC (.int 1)))) (.one 0) fTrue (fCall z0D (aCons (fVar 1) (aCons (fVar 2) (aCons (f2 gSubI (fVar 3) (fVar 0)) aNil))))
def z3p:GS:=(sApp 4 (asL z3o))
def z3q:GS:=sFor (iRange2 (f2 gAdd (fVar 2) (fC (.int 1))) (f2 gAdd (f2 gAdd (fVar 2) (fVar 3)) (fC (.int 1)))) (.one 5) z3p
def z3r:FO:=fComp 1 [0,6,1] (iRange1 (f2 gAdd (fVar 2) (fC (.int 1)))) (.one 0) fTrue (fCall z2p (aCons (fVar 1) (aCons (fVar 2) (aCons (fVar 3) (aCons (fVar 0) aNil)))))
def z22:GS:=(sSeq (sSetO 4 (oLst aNil))
 (sSeq z3q
 (sSeq (sSeq (sFrz 4) (sSet 6 (fCall z0v (aCons (fVar 0) (aCons (fVar 4) aNil)))))
 (sSeq (sSetL 7 z3r)
 (sRet (eTup (aCons (fCall z2Y (aCons (f1 (gFld ["PrimeField"] "nought") (fVar 0)) (aCons (fVar 7) aNil))) (aCons (fVar 6) aNil))))))))
def z1u:GF:=mkFn 4 4 z22
theorem z6n(hf:Is K mg "least_pair" z1q)(z5B:Cal P w K mg base "trimmed" ["nought","row"] 1 z2Y)(z1h:Cal P w K mg base "number_at" ["field","row","place"] 1 z0D)(z5C:Cal P w K mg base "weighed" ["field","weights","row","place"] 2 z2p)(z2k:Cal P w K mg base "least_answer" ["field","equations"] 4 z0v)(zA:mg "range"=none)(f_nought:∀ c∈(["PrimeField"]:List Str),FCal K c "nought"):Cal P w K mg base "least_pair" ["field","row","m","n"] 5 z1u:=by
 obtain⟨f,fd,F,hm⟩:=hf
 have nd:=sc_least_pair.nd
 exact⟨f,fd,fnD F sc_least_pair rfl (fun cdv A outer s H E hr=>(dss_cons (z2x (i:=4) nd (z6e zd))
   (dss_cons (z1W (z2R zA (de_op dadd (dv 2).w (de_int).w) (de_op dadd (de_op dadd (dv 2).w (dv 3).w).w (de_int).w)) (zS (i:=5) nd) (zh (z89 (i:=4) (pv 4) (DF.de (z1S (N:=["step","field","row","place"]) (k:=1) (fr:=[0,1,5]) (compOkC (sc:=defScope z1q) (N0:=["field","row","m","n","equations","place","below","top"]) (by rfl) (by rfl) (by decide +kernel) (fun _ h=>z0l h)) (by decide) (z0f zA (de_op dadd (dv 3).w (de_int).w)) (fun _ _ _ _=>by exact(zS (i:=0) (show List.Nodup (α:=Str) ["step","field","row","place"] by decide +kernel))) (fun _ _ _ _=>z0H) (fun _ _ _ _=>by exact(zw z1h hr (z0 (dv 1) (z0 (dv 2) (z0 (de_op zM (dv 3).w (dv 0).w) zd))))))))))
   (dss_cons (z5b 4 (ds_set (i:=6) nd (zw z2k hr (z0 (dv 0) (z0 (dv 4) zd)))))
   (dss_cons (z7F (i:=7) nd (N:=["place","field","below","row"]) (k:=1) (fr:=[0,6,1]) (compOkC (sc:=defScope z1q) (N0:=["field","row","m","n","equations","place","below","top"]) (by rfl) (by rfl) (by decide +kernel) (fun _ h=>z0l h)) (by decide) (z0f zA (de_op dadd (dv 2).w (de_int).w)) (fun _ _ _ _=>by exact(zS (i:=0) (show List.Nodup (α:=Str) ["place","field","below","row"] by decide +kernel))) (fun _ _ _ _=>z0H) (fun _ _ _ _=>by exact(zw z5C hr (z0 (dv 1) (z0 (dv 2) (z0 (dv 3) (z0 (dv 0) zd)))))) (by first | rfl | with_unfolding_all rfl))
   (zh (zC (z1p (z0 (zw z5B hr (z0 (z20 (cs:=["PrimeField"]) f_nought (dv 0).w) (z0 (dv 7) zd))) (z0 (dv 6) zd)))))))))),hm,F.kp,F.binds fun _ _ _ _ _ _ us hl=>by obtain⟨a0,a1,a2,a3,rfl⟩:=len4 (show us.length=4 from hl);rfl⟩
theorem sc_settled_by:FnScope ["field","top","below","ahead","least"] ["field","top","below"] (defScope z1r):=⟨rfl,rfl,rfl,by decide +kernel,rfl,by decide +kernel,by decide +kernel⟩
def z3s:GS:=sWhile (asB (f2 gEq (f2 gIx (fVar 2) (fVar 3)) (f1 (gFld ["PrimeField"] "nought") (fVar 0)))) (sAug 3 gAddI (fC (.int 1)))
def z3t:FO:=fComp 1 [4,0] (iSeq (fSl (fVar 1) (pInt (fVar 3)) pNo)) (.one 0) fTrue (fMeth [("PrimeField",zf)] "divided" (fVar 2) (aCons (fVar 0) (aCons (fVar 1) aNil)))
def z3u:FO:=fComp 1 [4,0] (iSeq (fSl (fVar 2) (pInt (fVar 3)) pNo)) (.one 0) fTrue (fMeth [("PrimeField",zf)] "divided" (fVar 2) (aCons (fVar 0) (aCons (fVar 1) aNil)))
def z23:GS:=(sSeq (sSet 3 (fC (.int 0)))
 (sSeq z3s
 (sSeq (sSet 4 (f2 gIx (fVar 2) (fVar 3)))
 (sRet (eTup (aCons (f1 gTuple (asL z3t)) (aCons (f1 gTuple (asL z3u)) aNil)))))))
def z1v:GF:=mkFn 3 2 z23
theorem z6o(hf:Is K mg "settled_by" z1r)(zQ:mg "tuple"=none)(f_nought:∀ c∈(["PrimeField"]:List Str),FCal K c "nought")(m_divided:∀ c g,([("PrimeField",zf)]:List (Str × GF)).lookup c=some g→∃ k,k≤2∧MCal P w K mg base c "divided" k g):Cal P w K mg base "settled_by" ["field","top","below"] 3 z1v:=by
 obtain⟨f,fd,F,hm⟩:=hf
 have nd:=sc_settled_by.nd
 exact⟨f,fd,fnD F sc_settled_by rfl (fun cdv A outer s H E hr=>(dss_cons (ds_set (i:=3) nd de_int)
   (dss_cons (z1V (zP (deq hr.units) (zV (dv 2).w (dv 3).w (fun _ _=>rfl)).w (z20 (cs:=["PrimeField"]) f_nought (dv 0).w).w (nomark _)) (zh (zc5 (i:=3) nd zeg de_int)))
   (dss_cons (ds_set (i:=4) nd (zV (dv 2).w (dv 3).w (fun _ _=>rfl)))
   (zh (zC (z1p (z0 (z6b z3e (by first | rfl | decide +kernel) zQ (DF.de (z1S (N:=["each","least","field"]) (k:=1) (fr:=[4,0]) (compOkC (sc:=defScope z1r) (N0:=["field","top","below","ahead","least"]) (by rfl) (by rfl) (by decide +kernel) (fun _ h=>z0l h)) (by decide) (z5V (z1Y (dv 1) (z3U (dv 3).w) z7L)) (fun _ _ _ _=>by exact(zS (i:=0) (show List.Nodup (α:=Str) ["each","least","field"] by decide +kernel))) (fun _ _ _ _=>z0H) (fun _ _ _ _=>by exact(z1y (tab:=[("PrimeField",zf)]) m_divided (hr.mono (by decide)) (dv 2) (z0 (dv 0) (z0 (dv 1) zd)))))).w) (z0 (z6b z3e (by first | rfl | decide +kernel) zQ (DF.de (z1S (N:=["each","least","field"]) (k:=1) (fr:=[4,0]) (compOkC (sc:=defScope z1r) (N0:=["field","top","below","ahead","least"]) (by rfl) (by rfl) (by decide +kernel) (fun _ h=>z0l h)) (by decide) (z5V (z1Y (dv 2) (z3U (dv 3).w) z7L)) (fun _ _ _ _=>by exact(zS (i:=0) (show List.Nodup (α:=Str) ["each","least","field"] by decide +kernel))) (fun _ _ _ _=>z0H) (fun _ _ _ _=>by exact(z1y (tab:=[("PrimeField",zf)]) m_divided (hr.mono (by decide)) (dv 2) (z0 (dv 0) (z0 (dv 1) zd)))))).w) zd))))))))),hm,F.kp,F.binds fun _ _ _ _ _ _ us hl=>by obtain⟨a0,a1,a2,rfl⟩:=len3 (show us.length=3 from hl);rfl⟩
theorem sc_furthest_by:FnScope ["p","row","m","n","field","top","below"] ["p","row","m","n"] (defScope z1L):=⟨rfl,rfl,rfl,by decide +kernel,rfl,by decide +kernel,by decide +kernel⟩
def z1M:GS:=(sSeq (sDrop (fCall z0R (aCons (fVar 1) (aCons (fVar 2) (aCons (fVar 3) aNil)))))
 (sSeq (sSet 4 (fMake "PrimeField" ["prime","nought","unit"] z0n (aCons (fVar 0) aNil)))
 (sSeq (sUnp (.tup [5,6]) (fCall z1u (aCons (fVar 4) (aCons (fVar 1) (aCons (fVar 2) (aCons (fVar 3) aNil))))))
 (sRet (fCall z1v (aCons (fVar 4) (aCons (fVar 5) (aCons (fVar 6) aNil))))))))
def z0o:GF:=mkFn 4 3 z1M
theorem z5G(hf:Is K mg "furthest_by" z1L)(z2j:Cal P w K mg base "check_places" ["row","m","n"] 1 z0R)(z36:Cal P w K mg base "least_pair" ["field","row","m","n"] 5 z1u)(z37:Cal P w K mg base "settled_by" ["field","top","below"] 3 z1v)(k_PrimeField:KCal P w K mg base "PrimeField" 1 ["prime","nought","unit"] z0n):Cal P w K mg base "furthest_by" ["p","row","m","n"] 6 z0o:=by
 obtain⟨f,fd,F,hm⟩:=hf
 have nd:=sc_furthest_by.nd
 exact⟨f,fd,fnD F sc_furthest_by rfl (fun cdv A outer s H E hr=>(dss_cons (z9P (zw z2j hr (z0 (dv 1) (z0 (dv 2) (z0 (dv 3) zd)))))
   (dss_cons (ds_set (i:=4) nd (zcR k_PrimeField hr (z0 (dv 0) zd)))
   (dss_cons (z6Y (zw z36 hr (z0 (dv 4) (z0 (dv 1) (z0 (dv 2) (z0 (dv 3) zd))))) (z4p (z0c (i:=5) nd (z0c (i:=6) nd z2S))))
   (zh (zC (zw z37 hr (z0 (dv 4) (z0 (dv 5) (z0 (dv 6) zd)))))))))),hm,F.kp,F.binds fun _ _ _ _ _ _ us hl=>by obtain⟨a0,a1,a2,a3,rfl⟩:=len4 (show us.length=4 from hl);rfl⟩
theorem sc__law_begin:FnScope ["_law_script","_law_cells"] ["_law_script"] (defScope z2U):=⟨rfl,rfl,rfl,by decide +kernel,rfl,by decide +kernel,by decide +kernel⟩
theorem z6p(hf:Is K mg "_law_begin" z2U)(z1c:mg "list"=none):∃ f fd,FnOk P w K mg base CX0 1 f fd ["_law_script"] (spBegin K)∧mg "_law_begin"=some (.ref f)∧PySem.W.keepIn K (.ref f)=true∧Binds K fd ["_law_script"] []:=by
 obtain⟨f,fd,F,hm⟩:=hf
 refine⟨f,fd,?_,hm,F.kp,F.binds fun _ _ _ _ _ _ us hl=>by obtain⟨a0,rfl⟩:=len1 (show us.length=1 from hl);rfl⟩
 have nd:=sc__law_begin.nd
 refine F.ok sc__law_begin (fun vs H Q E zgb=>by obtain⟨a,ns,e,_⟩:=zgb;subst e;rfl) (fun cdv A outer s H vs Q E hr zgc=>?_)
 obtain⟨a,ns,e,sq,hl,q⟩:=zgc
 subst e
 refine⟨_,z0b (z2P (i:=1) nd rfl (Or.inl rfl) (z50 z2Q rfl z1c (by first | rfl | decide +kernel) (zy (z83 sl_list (pv 0) z9u (z9v z4V)) z0r)))
  (z0b (DS.at0 (z1K (zP (deq hr.units) (dv 1).w (z1R zd).w (nomark _)) (zh (ds_set (i:=1) nd (z1R (z0 de_int zd)))) zW:DS _ _ z7I))
  (z47 (z6J (zcC (z85 z4m (pv 1) (z85 z4m z4V zcB)) rfl rfl (by simp) (by decide))))),?_⟩
 refine⟨_,rfl,63,rfl,a,_,rfl,sq,fun p hp=>⟨p,_,rfl,.inl (SqL.of zq),fun l hl2=>?_⟩⟩
 have ecut:cutV (ns.map V.int) none (some 63)=ns.map V.int:=by
  have e63:HT.sIx (ns.map V.int).length (ns.map V.int).length (some ((63:Nat):Int))=min 63 (ns.map V.int).length:=HT.sIx_nat _ _ _
  unfold cutV
  rw[show(some (63:Int))=some ((63:Nat):Int) from rfl,e63,HT.sIx_none,List.drop_zero]
  exact List.take_of_length_le (by rw[List.length_map];omega)
 rw[ecut]at hl2 ⊢
 have hpl:p≠l:=fun z=>by rw[← z,zq]at hl2;cases hl2
 have hHl:H l=none:=by rw[zj (Ne.symm hpl)]at hl2;exact hl2
 generalize hH1:upd (upd H p (.lst (ns.map V.int))) l (.lst (ns.map V.int))=H1
 have X1:Ext none H H1:=fun b o eb nb=>by rw[← hH1,zj (zm eb hHl),zj (zm eb hp)];exact eb
 have L1:H1 l=some (.lst (ns.map V.int)):=by rw[← hH1];exact zq
 refine⟨[],[.non,.val (.list (ns.map PyData.int))],([],0),_,_,Al.repS (.non (.val (.lst L1 (fun z=>nomatch z) (fun a c z=>nomatch z) (z71 _ _ _ _ ns)) .nil)) (fun q hq=>nomatch hq) X1,(fun a c h=>nomatch h),z9W ns _ _,fun ow' σ' H2 R' S' fr=>?_⟩
 ·obtain⟨v,hv,rv⟩:=R'.val 1 _ rfl
  cases rv with
  | @lst c vs _ hc n1 n2 rs =>
   have evs:=z4r rs
   subst evs
   intro d hd
   refine⟨_,hv,(show(upd H2 d (.dK [])) d=some (.dK []) from zq),[(Sum.inr ("cells":Str),V.ref c),(Sum.inr ("turn":Str),V.int 0)],rfl,(by show 2≤15;decide),?_⟩
   have X2:∀ b o,H b=some o→H2 b=some o:=fun b o eb=>R'.ext b o eb (fun a c z=>nomatch z)
   have hHd:H d=none:=by
    cases e9:H d with
    | none=>rfl
    | some o=>rw[X2 d o e9]at hd;cases hd
   refine q d c _ (fun b o eb=>?_) ?_ ?_
   ·rw[zj (zm eb hHd),zj (zm eb hHd)];exact X2 b o eb
   ·rw[zq];rfl
   ·rw[zj (zm hc hd),zj (zm hc hd)];exact hc
theorem z8e{ds:List D}{st:Sx}{r:D × Sx}(e:z9 ds st=some r):∃ many,ds=[.dict [],.int many]∧takeOk st many=true∧takeF st many=r:=by
 unfold z9 at e
 split at e
 ·split at e
  ·next h=>exact⟨_,rfl,h,Option.some.inj e⟩
  ·cases e
 ·cases e
theorem zcZ{Z:Zt}{H:Hp}{A:List Addr}{v:V}{d:D}(r:Rep K Z H A v d):∀ {n:Int},d=.int n→v=.int n:=by
 cases r <;> intro n e <;> cases e
 rfl
theorem zew{Z:Zt}{H:Hp}{A:List Addr}{v:V}{d:D}(r:Rep K Z H A v d):d=.dict []→∃ a c,v=.ref a∧Z=some (a,c):=by
 cases r <;> intro e <;> cases e
 exact⟨_,_,rfl,by assumption⟩
theorem zd0{Z:Zt}{H:Hp}{A:List Addr}{vs:List V}{many:Int}(r:Reps K Z H A vs [.dict [],.int many]):∃ a c,vs=[.ref a,.int many]∧Z=some (a,c):=by
 obtain⟨v0,v1,rfl⟩:=len2 (show vs.length=2 from r.length)
 obtain⟨a,c,rfl,hZ⟩:=zew r.head rfl
 cases r with
 | cons _ r=>cases zcZ r.head rfl;exact⟨a,c,rfl,hZ⟩
section
variable {u A:TS} {E:Ends} {σ:L2.St} {H:Hp} {a c:Addr} {t:Int}
theorem zd1(h0:σ[0]?=some (some (.ref a)))(hA:H a=some (.dK (stDict c t)))(q:u E (σ.set 2 (some (.int (t + 1)))) H) :
  tSeq (tAsg (tOp (rI0 fun i j=>.int (i + j)) (tDGet (tVar 0) (tC (.str "turn"))) (tC (.int 1))) (gName 2)) u E σ H :=
 ⟨_,h0,a,_,rfl,(z9T c t ▸ DGet.k (k:=Sum.inr "turn") hA),_,_,rfl,rfl,q⟩
theorem zex{v:Int}(h0:σ[0]?=some (some (.ref a)))(h2:σ[2]?=some (some (.int v)))(hA:H a=some (.dK (stDict c t)))(q:u E σ (upd H a (.dK (stDict c v)))) :
  tSeq (sDPut (tVar 0) (tC (.str "turn")) (tVar 2)) u E σ H :=
 ⟨_,h2,_,h0,a,_,rfl,zea c t v ▸ DPut.k (k:=Sum.inr "turn") hA (small1000 (by show 2≤1000;decide)),q⟩
theorem zbj{v:Int}{xs:List V}(h0:σ[0]?=some (some (.ref a)))(h2:σ[2]?=some (some (.int v)))(hA:H a=some (.dK (stDict c t)))(hc:H c=some (.lst xs))(hn:(xs.length:Int)≠0)(q:u E (σ.set 3 (some (.int (v.fmod xs.length)))) H) :
  tSeq (tAsg (tOp (rI (fun _ j=>j≠0) fun i j=>.int (i.fmod j)) (tVar 2) (tCB (fun xs H Q=>∃ p ys,xs=[.ref p]∧(SqL K H p ys∨SqT K H p ys)∧Q (.int ys.length) H) (tCons (tDGet (tVar 0) (tC (.str "cells"))) tNil))) (gName 3)) u E σ H :=
 ⟨_,h2,_,h0,a,_,rfl,(z6c c t ▸ DGet.k (k:=Sum.inr "cells") hA),c,_,rfl,.inl (SqL.of hc),_,_,rfl,rfl,hn,q⟩
theorem zd2{v:Int}{xs:List V}{x:V}(h0:σ[0]?=some (some (.ref a)))(h3:σ[3]?=some (some (.int v)))(hA:H a=some (.dK (stDict c t)))(hc:H c=some (.lst xs))(hx:atI xs v=some x)(q:u E (σ.set 4 (some x)) H) :
  tSeq (tAsg (tOp (rIxL K) (tDGet (tVar 0) (tC (.str "cells"))) (tVar 3)) (gName 4)) u E σ H :=
 ⟨_,h0,a,_,rfl,(z6c c t ▸ DGet.k (k:=Sum.inr "cells") hA),_,h3,c,_,_,x,rfl,rfl,SqL.of hc,hx,q⟩
theorem ten18:((10:Int) ^ (18:Int).toNat)=1000000000000000000:=by decide
theorem zgJ{x:Int}(h4:σ[4]?=some (some (.int x)))(q1:1000000000000000000≤x→A {E with nx:=u E} σ H)(q2:¬ 1000000000000000000≤x→u E σ H) :
  tSeq (tIfS (tTest (tOp (rI0 fun i j=>.bl (decide (j≤i))) (tVar 4) (tOp (rI CPow fun i j=>.int (i ^ j.toNat)) (tC (.int 10)) (tC (.int 18))))) A tNext) u E σ H :=
 ⟨_,h4,_,_,rfl,rfl,⟨by decide,by decide,by decide⟩,_,_,rfl,rfl,_,rfl,ite2 (fun h=>q1 (ten18 ▸ of_decide_eq_true h)) (fun h=>q2 fun z=>h (decide_eq_true (ten18.symm ▸ z)))⟩
theorem zbk{x m v:Int}{xs:List V}{j:Nat}(h0:σ[0]?=some (some (.ref a)))(h1:σ[1]?=some (some (.int m)))(h3:σ[3]?=some (some (.int v)))(h4:σ[4]?=some (some (.int x)))(h5:5 < σ.length)(hA:H a=some (.dK (stDict c t)))(hc:H c=some (.lst xs))(hd:divOk x m=true)(hj:ixN xs.length v=some j)
  (q:∀ p,H p=none→E.rt (.int (x.fmod m)) (upd (upd H p (.tup [.int (x.fdiv m),.int (x.fmod m)])) c (.lst (xs.set j (.int (x.fdiv m)))))) :
  tSeq (tAsg (tCB (fun xs H Q=>∃ i j,xs=[.int i,.int j]∧divOk i j=true∧∀ p,H p=none→Q (.ref p) (upd H p (.tup [.int (i.fdiv j),.int (i.fmod j)]))) (tCons (tVar 4) (tCons (tVar 1) tNil))) (gTup K 2 (gCons (gSub (tDGet (tVar 0) (tC (.str "cells"))) (tVar 3) rSetL) (gCons (gName 5) gNil)))) (tRet (tVar 5)) E σ H :=
 ⟨_,h4,_,h1,_,_,rfl,hd,fun p hp=>⟨p,_,rfl,SqT.of zq,rfl,_,_,rfl,_,h0,a,_,rfl,(z6c c t ▸ DGet.k (k:=Sum.inr "cells") (by rw[zj (zm hA hp)];exact hA)),_,h3,c,_,_,j,rfl,rfl,(by rw[zj (zm hc hp)];exact hc),hj,_,_,rfl,rfl,_,List.getElem?_set_self h5,q p hp⟩⟩
end
theorem sc__law_take:FnScope ["_law_state","_law_many","_law_turn","_law_place","_law_cell","_law_digit","_law_mixed"] ["_law_state","_law_many"] (defScope z3C):=⟨rfl,rfl,rfl,by decide +kernel,rfl,by decide +kernel,by decide +kernel⟩
theorem z77(hf:Is K mg "_law_take" z3C)(zK:mg "len"=none)(z6H:mg "divmod"=none):Cal P w K mg base "_law_take" ["_law_state","_law_many"] 1 z9:=by
  obtain⟨f,fd,F,hm⟩:=hf
  refine⟨f,fd,?_,hm,F.kp,F.binds fun _ _ _ _ _ _ us hl=>by obtain⟨a0,a1,rfl⟩:=len2 (show us.length=2 from hl);rfl⟩
  have nd:=sc__law_take.nd
  refine F.ok sc__law_take (fun vs H Q E zgd=>?_) (fun cdv A outer s H vs Q E hr zge=>?_)
  · obtain⟨Z,A0,ds,st,d,st',r,_,_,e,_⟩:=zgd
    obtain⟨m,rfl,_⟩:=z8e e
    exact r.length
  · obtain⟨Z,A0,ds,st,d,st',r,hA,S,e,q⟩:=zge
    obtain⟨many,rfl,hok,e⟩:=z8e e
    obtain⟨a,c,rfl,hZ⟩:=zd0 r
    obtain⟨cells,turn⟩:=st
    obtain⟨S1,S2⟩:=S a c hZ
    have ac:a≠c:=zdG S1 S2 (by intro z;cases z)
    simp only[takeOk,Bool.and_eq_true,decide_eq_true_eq]at hok
    obtain⟨⟨⟨⟨⟨k1,k2⟩,k3⟩,k4⟩,k5⟩,k6⟩:=hok
    have hu:=zgE hr
    have pl0:0≤(turn + 1).fmod (cells.length:Int):=by rw[Int.fmod_eq_emod_of_nonneg _ (by omega)];exact Int.emod_nonneg _ (by omega)
    have pl1:(turn + 1).fmod (cells.length:Int) < (cells.length:Int):=by rw[Int.fmod_eq_emod_of_nonneg _ (by omega)];exact Int.emod_lt_of_pos _ (by omega)
    have plc:plcOf (cells,turn) < cells.length:=by unfold plcOf;dsimp only;omega
    have ecell:cells[plcOf (cells,turn)]?=some (celOf (cells,turn)):=by
      unfold celOf
      rw[List.getD_eq_getElem?_getD,List.getElem?_eq_getElem plc];rfl
    refine⟨_,z0b (z2P (i:=2) nd rfl (Or.inl rfl) (zaR zbS (z6a hu (pv 0) z4m (fun _ _=>rfl)) z4V))
      (z0b (zcA hu (pv 0) z4m (pv 2) rfl)
      (z0b (z2P (i:=3) nd rfl (Or.inl rfl) (zaR z9m (pv 2) (z0Z z4n rfl zK PySem.boot_len (zy (z6a hu (pv 0) z4m (fun _ _=>rfl)) z0r))))
      (z0b (z2P (i:=4) nd rfl (Or.inl rfl) (zdZ ix_list (z6a hu (pv 0) z4m (fun _ _=>rfl)) (pv 3) (fun _ _=>rfl)))
      (z0b (zcl (zcp zdR (pv 4) (zaR zdP z4V z4V) (nomark _))
        (z0b (z9h (z0Z z70 rfl z6H (by first | rfl | decide +kernel) (zy (pv 4) (zy (pv 1) z0r))) (zbQ rfl (z65 (zbR (z6a hu (pv 0) z4m (fun _ _=>rfl)) (pv 3) z84) (z65 (z7v (i:=5) nd rfl (Or.inl rfl)) z9g))))
        (z47 (z6J (pv 5)))) z4X)
      ((dss_cons (ds_set (i := 6) nd (de_op dmod_int (de_op dmul_int (de_op dadd_int (de_op dadd_int (de_op dmod_int (dv 4).w de_int.w).w (de_op dmul_int (de_op dmul_int (dv 2).w (dv 2).w).w de_int.w).w).w de_int.w).w de_int.w).w de_int.w))
        (dss_cons (ds_set (i:=6) nd (de_op dmod_int (de_op dmul_int (dv 6).w (dv 6).w).w de_int.w))
        (zh (zC (de_op dmod_int (de_op z3d (de_op dmod_int (de_op dmul_int (de_op dadd_int (dv 6).w (de_op dmul_int (dv 2).w de_int.w).w).w de_int.w).w de_int.w).w de_int.w).w (dv 1).w)))):DSs _ _ z7G) Z A0))))),?_⟩
    refine zd1 rfl S1 ?_
    refine zex rfl rfl S1 ?_
    have A1:(upd H a (.dK (stDict c (turn + 1)))) a=some (.dK (stDict c (turn + 1))):=zq
    have A2:(upd H a (.dK (stDict c (turn + 1)))) c=some (.lst (cells.map V.int)):=by rw[zj (Ne.symm ac)];exact S2
    have X1:Ext Z H (upd H a (.dK (stDict c (turn + 1)))):=fun b o eb nb=>by rw[zj (nb a c hZ).1];exact eb
    generalize upd H a (.dK (stDict c (turn + 1)))=H1 at *
    have el:((cells.map V.int).length:Int)=cells.length:=by rw[List.length_map]
    refine zbj (xs:=cells.map V.int) rfl rfl A1 A2 (by omega) ?_
    refine zd2 (x:=.int (celOf (cells,turn))) rfl rfl A1 A2 ?_ ?_
    rotate_left
    refine zgJ rfl (fun hc=>?_) (fun hc=>?_)
    rotate_left 2
    · rw[el,show(turn + 1).fmod (cells.length:Int)=((plcOf (cells,turn):Nat):Int) from by unfold plcOf;dsimp only;omega]
      exact atI_nat (by rw[List.getElem?_map,ecell];rfl)
    · have et:takeF (cells,turn) many=(.int ((celOf (cells,turn)).fmod many),(cells.set (plcOf (cells,turn)) ((celOf (cells,turn)).fdiv many),turn + 1)):=by unfold takeF;rw[if_pos hc]
      rw[et]at e
      cases e
      refine zbk (j:=plcOf (cells,turn)) rfl rfl rfl rfl (Nat.le_of_ble_eq_true rfl) A1 A2 (by unfold divOk;simp only[Bool.and_eq_true,decide_eq_true_eq];exact⟨by omega,k2⟩) ?_ fun p hp=>q _ _ (fun b o eb nb=>?_) (fun a' c' h'=>?_) (.int _)
      · rw[List.length_map]
        unfold ixN plcOf
        rw[if_pos pl0,if_pos pl1]
      · have eb1:=X1 b o eb nb
        rw[zj (nb a c hZ).2,zj (zm eb1 hp)];exact eb1
      · rw[hZ]at h'
        cases h'
        refine⟨?_,?_⟩
        · rw[zj ac,zj (zm A1 hp)];exact A1
        · rw[zq,List.map_set]
    · have et:takeF (cells,turn) many=(.int (mix (celOf (cells,turn)) (turn + 1) many),(cells,turn + 1)):=by unfold takeF;rw[if_neg hc]
      rw[et]at e
      cases e
      refine⟨[],[.non,.val (.int many),.val (.int (turn + 1)),.non,.val (.int (celOf (cells,turn))),.non,.non],(cells,turn + 1),.ret (.int (mix (celOf (cells,turn)) (turn + 1) many)),(cells,turn + 1),?_,fun a' c' h'=>by rw[hZ]at h';cases h';exact⟨A1,A2⟩,z9V (by omega) (by omega) k1,fun v H' x1 S1 r=>q v H' x1 S1 r⟩
      exact Al.repS (.non (.val (.int _) (.val (.int _) (.non (.val (.int _) (.non (.non .nil))))))) (fun q hq=>⟨let ⟨o,ho⟩:=(hA q hq).1;⟨o,X1 q o ho (hA q hq).2⟩,(hA q hq).2⟩) X1
theorem sc__law_same:FnScope ["_law_found","_law_due"] ["_law_found","_law_due"] (defScope z3D):=⟨rfl,rfl,rfl,by decide +kernel,rfl,by decide +kernel,by decide +kernel⟩
def z3G(g__law_same:GF):GS:=(sSeq (sIf (asB (f2 gIs (fVar 1) (fC .none))) (sRet (f2 gIs (fVar 0) (fC .none))) sNext)
 (sSeq (sIf (tOrF (asT (f1 (gInst "list") (fVar 1))) (asT (f1 (gInst "tuple") (fVar 1)))) (sSeq (sIf (asB (f2 gNe (f1 (gInst "list") (fVar 0)) (f1 (gInst "list") (fVar 1)))) (sRet (fC (.bool false))) sNext)
 (sSeq (sIf (tOrF (asB (f2 gNe (f1 (gInst "tuple") (fVar 0)) (f1 (gInst "tuple") (fVar 1)))) (asB (f2 gNe (f1 gLen (fVar 0)) (f1 gLen (fVar 1))))) (sRet (fC (.bool false))) sNext)
 (sRet (f1 gAll (asL (fComp 2 [] (iZipF (fVar 0) (fVar 1)) (.tup [0,1]) fTrue (fCall g__law_same (aCons (fVar 0) (aCons (fVar 1) aNil))))))))) sNext)
 (sSeq (sIf (asT (f1 (gInst "str") (fVar 1))) (sRet (eAnd (f1 (gInst "str") (fVar 0)) (f2 gEq (fVar 0) (fVar 1)))) sNext)
 (sRet (eAnd (f1 (gInst "int") (fVar 0)) (eAnd (f1 gNot (f1 (gInst "bool") (fVar 0))) (f2 gEq (fVar 0) (fVar 1))))))))
def z00:Nat→GF
 | 0=>fun _ _=>none
 | n + 1=>mkFn 2 0 (z3G (z00 n))
theorem z3Y(hf:Is K mg "_law_same" z3D)(z80:mg "all"=none)(z5E:mg "bool"=none)(z4k:mg "int"=none)(zn:mg "isinstance"=none)(zK:mg "len"=none)(z1c:mg "list"=none)(zaM:mg "str"=none)(zQ:mg "tuple"=none)(z81:mg "zip"=none):∀ n,Cal P w K mg base "_law_same" ["_law_found","_law_due"] (1 + n) (z00 n)
 | 0=>by
  obtain⟨f,fd,F,hm⟩:=hf
  exact⟨f,fd,⟨fun _ _ _ _ h=>(z4M h).elim,fun _ _ _ _ _ _ _ _ _ _ _ _ _ h=>(z4M h).elim⟩,hm,F.kp,F.binds fun _ _ _ _ _ _ us hl=>by obtain⟨a0,a1,rfl⟩:=len2 (show us.length=2 from hl);rfl⟩
 | n + 1=>by
  have ih:=z3Y hf z80 z5E z4k zn zK z1c zaM zQ z81 n
  obtain⟨f,fd,F,hm⟩:=hf
  have nd:=sc__law_same.nd
  exact⟨f,fd,fnD (k:=1 + n) F sc__law_same rfl (fun cdv A outer s H E hr=>(dss_cons (z1K (zP dis (dv 1).w (z6U).w (nomark _)) (zh (zC (z2E dis (dv 0).w (z6U).w (nomark _)))) zW)
   (dss_cons (z1K (z6V (z1X (z10 (T:="list") (by decide) (by first | rfl | decide +kernel) zn z1c (dv 1).w).w (fun _=>rfl)) (z56 (z1X (z10 (T:="tuple") (by decide) (by first | rfl | decide +kernel) zn zQ (dv 1).w).w (fun _=>rfl)))).t (dss_cons (z1K (zP (dne hr.units) (z10 (T:="list") (by decide) (by first | rfl | decide +kernel) zn z1c (dv 0).w).w (z10 (T:="list") (by decide) (by first | rfl | decide +kernel) zn z1c (dv 1).w).w (nomark _)) (zh (zC z4a)) zW)
   (dss_cons (z1K (z6V (zP (dne hr.units) (z10 (T:="tuple") (by decide) (by first | rfl | decide +kernel) zn zQ (dv 0).w).w (z10 (T:="tuple") (by decide) (by first | rfl | decide +kernel) zn zQ (dv 1).w).w (nomark _)) (z56 (zP (dne hr.units) (z0O z03 (by first | rfl | decide +kernel) zK (dv 0).w).w (z0O z03 (by first | rfl | decide +kernel) zK (dv 1).w).w (nomark _)))).t (zh (zC z4a)) zW)
   (zh (zC (z0O (zc2 rfl) (by first | rfl | decide +kernel) z80 (DF.de (z1S (N:=["_law_one","_law_other"]) (k:=2) (fr:=[]) (compOk0 rfl (by decide +kernel) (by decide +kernel) (by decide +kernel) rfl) (by decide) (zc3 z81 (dv 0) (dv 1)) (fun _ _ _ _=>by exact(z4p (z0c (i:=0) (show List.Nodup (α:=Str) ["_law_one","_law_other"] by decide +kernel) (z0c (i:=1) (show List.Nodup (α:=Str) ["_law_one","_law_other"] by decide +kernel) z2S)))) (fun _ _ _ _=>z0H) (fun _ _ _ _=>by exact(zw ih hr (z0 (dv 0) (z0 (dv 1) zd)) (Nat.le_refl _))))).w))))) zW)
   (dss_cons (z1K (z1X (z10 (T:="str") (by decide) (by first | rfl | decide +kernel) zn zaM (dv 1).w).w (fun _=>rfl)) (zh (zC (z57 (z10 (T:="str") (by decide) (by first | rfl | decide +kernel) zn zaM (dv 0).w) (z6W (z2E (deq hr.units) (dv 0).w (dv 1).w (nomark _)))))) zW)
   (zh (zC (z57 (z10 (T:="int") (by decide) (by first | rfl | decide +kernel) zn z4k (dv 0).w) (z57 (zc0 (z10 (T:="bool") (by decide) (by first | rfl | decide +kernel) zn z5E (dv 0).w)) (z6W (z2E (deq hr.units) (dv 0).w (dv 1).w (nomark _))))))))))),hm,F.kp,F.binds fun _ _ _ _ _ _ us hl=>by obtain⟨a0,a1,rfl⟩:=len2 (show us.length=2 from hl);rfl⟩
def g__law_same:GF:=z00 6
theorem sc__law_prime:FnScope ["_law_state"] ["_law_state"] (defScope z2V):=⟨rfl,rfl,rfl,by decide +kernel,rfl,by decide +kernel,by decide +kernel⟩
def z24:GS:=(sRet (f2 gIx (fC (.list [(.int 2),(.int 3),(.int 5),(.int 7),(.int 11),(.int 13),(.int 101),(.int 997)])) (fCall z9 (aCons (fVar 0) (aCons (fC (.int 8)) aNil)))))
def z1w:GF:=mkFn 1 0 z24
theorem z6q(hf:Is K mg "_law_prime" z2V)(zp:Cal P w K mg base "_law_take" ["_law_state","_law_many"] 1 z9):Cal P w K mg base "_law_prime" ["_law_state"] 2 z1w:=by
 obtain⟨f,fd,F,hm⟩:=hf
 have nd:=sc__law_prime.nd
 exact⟨f,fd,fnD F sc__law_prime rfl (fun cdv A outer s H E hr=>(zh (zC (zV (zei (.lst (by decide) (.cons .int (.cons .int (.cons .int (.cons .int (.cons .int (.cons .int (.cons .int (.cons .int .nil)))))))))).w (zw zp hr (z0 (dv 0) (z0 de_int zd))).w (fun _ _=>rfl))))),hm,F.kp,F.binds fun _ _ _ _ _ _ us hl=>by obtain⟨a0,rfl⟩:=len1 (show us.length=1 from hl);rfl⟩
theorem sc__law_inverse:FnScope ["_law_p","_law_one","_law_found","_law_base","_law_left"] ["_law_p","_law_one"] (defScope z2d):=⟨rfl,rfl,rfl,by decide +kernel,rfl,by decide +kernel,by decide +kernel⟩
def z4y:GS:=sWhile (asB (f2 gGt (fVar 4) (fC (.int 0)))) (sSeq (sIf (asB (f2 gEq (f2 gModI (fVar 4) (fC (.int 2))) (fC (.int 1)))) (sSet 2 (f2 gModI (f2 gMulI (fVar 2) (fVar 3)) (fVar 0))) sNext)
 (sSeq (sSet 3 (f2 gModI (f2 gMulI (fVar 3) (fVar 3)) (fVar 0)))
 (sSet 4 (f2 gDivI (fVar 4) (fC (.int 2))))))
def z3v:GS:=(sSeq (sPar3 2 3 4 (aCons (fC (.int 1)) (aCons (f2 gModI (fVar 1) (fVar 0)) (aCons (f2 gSubI (fVar 0) (fC (.int 2))) aNil))))
 (sSeq z4y
 (sRet (fVar 2))))
def z0a:GF:=mkFn 2 3 z3v
theorem z5m(hf:Is K mg "_law_inverse" z2d):Cal P w K mg base "_law_inverse" ["_law_p","_law_one"] 1 z0a:=by
 obtain⟨f,fd,F,hm⟩:=hf
 have nd:=sc__law_inverse.nd
 exact⟨f,fd,fnD F sc__law_inverse rfl (fun cdv A outer s H E hr=>(dss_cons (zcX (i:=2) (j:=3) (k:=4) nd (by decide) (by decide) (by decide) (z0 de_int (z0 (de_op dmod_int (dv 1).w (dv 0).w) (z0 (de_op zM (dv 0).w (de_int).w) zd))) (by first | rfl | with_unfolding_all rfl))
   (dss_cons (z1V (zP dgt (dv 4).w (de_int).w (nomark _)) (dss_cons (z1K (zP (deq hr.units) (de_op dmod_int (dv 4).w (de_int).w).w (de_int).w (nomark _)) (zh (ds_set (i:=2) nd (de_op dmod_int (de_op dmul_int (dv 2).w (dv 3).w).w (dv 0).w))) zW)
   (dss_cons (ds_set (i:=3) nd (de_op dmod_int (de_op dmul_int (dv 3).w (dv 3).w).w (dv 0).w))
   (zh (ds_set (i:=4) nd (de_op z3d (dv 4).w (de_int).w))))))
   (zh (zC (dv 2)))))),hm,F.kp,F.binds fun _ _ _ _ _ _ us hl=>by obtain⟨a0,a1,rfl⟩:=len2 (show us.length=2 from hl);rfl⟩
theorem sc__law_cut:FnScope ["_law_numbers","_law_found"] ["_law_numbers"] (defScope z4d):=⟨rfl,rfl,rfl,by decide +kernel,rfl,by decide +kernel,by decide +kernel⟩
def z4t:GS:=sWhile (tAndF (asB (f2 gNe (fVarW 1) (eLst aNil))) (asB (f2 gEq (f2 gIx (fVarW 1) (f1 gNeg (fC (.int 1)))) (fC (.int 0))))) (sPop 1)
def z3h:GS:=(sSeq (sSetO 1 (oList (fVar 0)))
 (sSeq z4t
 (sRet (f1 gTuple (fVarW 1)))))
def z01:GF:=mkFn 1 1 z3h
theorem z7P(hf:Is K mg "_law_cut" z4d)(z1c:mg "list"=none)(zQ:mg "tuple"=none):Cal P w K mg base "_law_cut" ["_law_numbers"] 1 z01:=by
 obtain⟨f,fd,F,hm⟩:=hf
 have nd:=sc__law_cut.nd
 exact⟨f,fd,fnD F sc__law_cut rfl (fun cdv A outer s H E hr=>(dss_cons (z2x (i:=1) nd (z7K (by first | rfl | decide +kernel) z1c (dv 0).w))
   (dss_cons (z1V (z5T (zP (dne hr.units) (dvw 1) (z1R zd).w (nomark _)) (z4b (zP (deq hr.units) (zV (dvw 1) (z3R (de_int).w).w (fun _ _=>rfl)).w (de_int).w (nomark _)))).t (zh (zef (i:=1) (pv 1))))
   (zh (zC (z6b z3e (by first | rfl | decide +kernel) zQ (dvw 1))))))),hm,F.kp,F.binds fun _ _ _ _ _ _ us hl=>by obtain⟨a0,rfl⟩:=len1 (show us.length=1 from hl);rfl⟩
theorem sc__law_left_by:FnScope ["_law_p","_law_one","_law_other","_law_found","_law_share","_law_k"] ["_law_p","_law_one","_law_other"] (defScope z2e):=⟨rfl,rfl,rfl,by decide +kernel,rfl,by decide +kernel,by decide +kernel⟩
def z2I:GS:=(sPut 3 (f1 gNeg (fVar 5)) (f2 gModI (f2 gSubI (f2 gIx (fVarW 3) (f1 gNeg (fVar 5))) (f2 gMulI (fVar 4) (f2 gIx (fVar 2) (f1 gNeg (fVar 5))))) (fVar 0)))
def z0t:GS:=sFor (iRange2 (fC (.int 1)) (f2 gAdd (f1 gLen (fVar 2)) (fC (.int 1)))) (.one 5) z2I
def z4z:GS:=sWhile (asB (f2 gGe (f1 gLen (fVarW 3)) (f1 gLen (fVar 2)))) (sSeq (sSet 4 (f2 gModI (f2 gMulI (f2 gIx (fVarW 3) (f1 gNeg (fC (.int 1)))) (fCall z0a (aCons (fVar 0) (aCons (f2 gIx (fVar 2) (f1 gNeg (fC (.int 1)))) aNil)))) (fVar 0)))
 (sSeq z0t
 (sSeq (sFrz 3) (sSetO 3 (oList (fCall z01 (aCons (fSl (fVar 3) pNo (pInt (f1 gNeg (fC (.int 1))))) aNil)))))))
def z3w:GS:=(sSeq (sSetO 3 (oList (fVar 1)))
 (sSeq z4z
 (sRet (f1 gTuple (fVarW 3)))))
def zN:GF:=mkFn 3 3 z3w
theorem z5n(hf:Is K mg "_law_left_by" z2e)(z2h:Cal P w K mg base "_law_inverse" ["_law_p","_law_one"] 1 z0a)(z0w:Cal P w K mg base "_law_cut" ["_law_numbers"] 1 z01)(zK:mg "len"=none)(z1c:mg "list"=none)(zA:mg "range"=none)(zQ:mg "tuple"=none):Cal P w K mg base "_law_left_by" ["_law_p","_law_one","_law_other"] 2 zN:=by
 obtain⟨f,fd,F,hm⟩:=hf
 have nd:=sc__law_left_by.nd
 exact⟨f,fd,fnD F sc__law_left_by rfl (fun cdv A outer s H E hr=>(dss_cons (z2x (i:=3) nd (z7K (by first | rfl | decide +kernel) z1c (dv 1).w))
   (dss_cons (z1V (zP dge (z0O z03 (by first | rfl | decide +kernel) zK (dvw 3)).w (z0O z03 (by first | rfl | decide +kernel) zK (dv 2).w).w (nomark _)) (dss_cons (ds_set (i:=4) nd (de_op dmod_int (de_op dmul_int (zV (dvw 3) (z3R (de_int).w).w (fun _ _=>rfl)).w (zw z2h hr (z0 (dv 0) (z0 (zV (dv 2).w (z3R (de_int).w).w (fun _ _=>rfl)) zd))).w).w (dv 0).w))
   (dss_cons (z1W (z2R zA de_int (de_op dadd (z0O z03 (by first | rfl | decide +kernel) zK (dv 2).w).w (de_int).w)) (zS (i:=5) nd) (zh (z8a (i:=3) (pv 3) (z3R (dv 5).w).w (de_op dmod_int (de_op zM (zV (dvw 3) (z3R (dv 5).w).w (fun _ _=>rfl)).w (de_op dmul_int (dv 4).w (zV (dv 2).w (z3R (dv 5).w).w (fun _ _=>rfl)).w).w).w (dv 0).w))))
   (zh (z5b 3 (z2x (i:=3) nd (z7K (by first | rfl | decide +kernel) z1c (zw z0w hr (z0 (z1Y (dv 3) z7L (z3U (z3R (de_int).w).w)) zd)).w)))))))
   (zh (zC (z6b z3e (by first | rfl | decide +kernel) zQ (dvw 3))))))),hm,F.kp,F.binds fun _ _ _ _ _ _ us hl=>by obtain⟨a0,a1,a2,rfl⟩:=len3 (show us.length=3 from hl);rfl⟩
theorem sc__law_factor_by:FnScope ["_law_p","_law_one","_law_other"] ["_law_p","_law_one","_law_other"] (defScope z1z):=⟨rfl,rfl,rfl,by decide +kernel,rfl,by decide +kernel,by decide +kernel⟩
def z3Z:GS:=sWhile (asB (f2 gNe (fVar 2) (eTup aNil))) (sPar 1 2 (aCons (fVar 2) (aCons (fCall zN (aCons (fVar 0) (aCons (fVar 1) (aCons (fVar 2) aNil)))) aNil)))
def z1D:GS:=(sSeq z3Z
 (sRet (fVar 1)))
def zD:GF:=mkFn 3 0 z1D
theorem z4f(hf:Is K mg "_law_factor_by" z1z)(z2i:Cal P w K mg base "_law_left_by" ["_law_p","_law_one","_law_other"] 2 zN):Cal P w K mg base "_law_factor_by" ["_law_p","_law_one","_law_other"] 3 zD:=by
 obtain⟨f,fd,F,hm⟩:=hf
 have nd:=sc__law_factor_by.nd
 exact⟨f,fd,fnD F sc__law_factor_by rfl (fun cdv A outer s H E hr=>(dss_cons (z1V (zP (dne hr.units) (dv 2).w (z1p zd).w (nomark _)) (zh (z6X (i:=1) (j:=2) nd (by decide) (z0 (dv 2) (z0 (zw z2i hr (z0 (dv 0) (z0 (dv 1) (z0 (dv 2) zd)))) zd)) (by first | rfl | with_unfolding_all rfl))))
   (zh (zC (dv 1))))),hm,F.kp,F.binds fun _ _ _ _ _ _ us hl=>by obtain⟨a0,a1,a2,rfl⟩:=len3 (show us.length=3 from hl);rfl⟩
theorem sc__law_series_by:FnScope ["_law_p","_law_one","_law_many","_law_found","_law_i","_law_here","_law_j"] ["_law_p","_law_one","_law_many"] (defScope z1A):=⟨rfl,rfl,rfl,by decide +kernel,rfl,by decide +kernel,by decide +kernel⟩
def z25:GS:=(sSet 5 (f2 gSubI (fVar 5) (f2 gMulI (f2 gIx (f2 gIx (fVar 1) (fC (.int 1))) (fVar 6)) (f2 gIx (fVarW 3) (f2 gSubI (fVar 4) (fVar 6))))))
def z13:GS:=sFor (iRange2 (fC (.int 1)) (f2 gMin (f2 gAdd (fVar 4) (fC (.int 1))) (f1 gLen (f2 gIx (fVar 1) (fC (.int 1)))))) (.one 6) z25
def z14:GS:=(sSeq (sSet 5 (eIf (asB (f2 gLt (fVar 4) (f1 gLen (f2 gIx (fVar 1) (fC (.int 0)))))) (f2 gIx (f2 gIx (fVar 1) (fC (.int 0))) (fVar 4)) (fC (.int 0))))
 (sSeq z13
 (sApp 3 (f2 gModI (fVar 5) (fVar 0)))))
def z15:GS:=sFor (iRange1 (fVar 2)) (.one 4) z14
def z0V:GS:=(sSeq (sSetO 3 (oLst aNil))
 (sSeq z15
 (sRetO 3)))
def zL:GC:=mkFnC 3 4 z0V
def z1E:GF:=gOf zL
theorem z4g(hf:Is K mg "_law_series_by" z1A)(zK:mg "len"=none)(z4H:mg "min"=none)(zA:mg "range"=none):CalC P w K mg base "_law_series_by" ["_law_p","_law_one","_law_many"] 1 zL:=by
 obtain⟨f,fd,F,hm⟩:=hf
 have nd:=sc__law_series_by.nd
 exact⟨f,fd,fnC F sc__law_series_by rfl (fun cdv A outer s H E hr=>(dss_cons (z2x (i:=3) nd (z6e zd))
   (dss_cons (z1W (z0f zA (dv 2)) (zS (i:=4) nd) (dss_cons (ds_set (i:=5) nd (ze8 (zP dlt (dv 4).w (z0O z03 (by first | rfl | decide +kernel) zK (zV (dv 1).w (de_int).w (fun _ _=>rfl)).w).w (nomark _)) (zV (zV (dv 1).w (de_int).w (fun _ _=>rfl)).w (dv 4).w (fun _ _=>rfl)) de_int))
   (dss_cons (z1W (z2R zA de_int (zcM (z9M rfl) (by first | rfl | decide +kernel) z4H (de_op dadd (dv 4).w (de_int).w).w (z0O z03 (by first | rfl | decide +kernel) zK (zV (dv 1).w (de_int).w (fun _ _=>rfl)).w).w)) (zS (i:=6) nd) (zh (ds_set (i:=5) nd (de_op zM (dv 5).w (de_op dmul_int (zV (zV (dv 1).w (de_int).w (fun _ _=>rfl)).w (dv 6).w (fun _ _=>rfl)).w (zV (dvw 3) (de_op zM (dv 4).w (dv 6).w).w (fun _ _=>rfl)).w).w))))
   (zh (z89 (i:=3) (pv 3) (de_op dmod_int (dv 5).w (dv 0).w))))))
   (zh (zcV (i:=3) (pv 3)))))),hm,F.kp,F.binds fun _ _ _ _ _ _ us hl=>by obtain⟨a0,a1,a2,rfl⟩:=len3 (show us.length=3 from hl);rfl⟩
theorem sc__law_poly_by:FnScope ["_law_state","_law_p","_law_most","_law_sparse","_law_numbers"] ["_law_state","_law_p","_law_most"] (defScope z0Q):=⟨rfl,rfl,rfl,by decide +kernel,rfl,by decide +kernel,by decide +kernel⟩
def z1F:FO:=fComp 1 [0,1] (iRange1 (fCall z9 (aCons (fVar 0) (aCons (f2 gAdd (fVar 2) (fC (.int 2))) aNil)))) (.one 0) fTrue (fCall z9 (aCons (fVar 1) (aCons (fVar 2) aNil)))
def z1G:FO:=fComp 1 [0] (iSeq (fVar 4)) (.one 0) fTrue (f2 gMulI (fVar 0) (f1 gInt (f2 gEq (fCall z9 (aCons (fVar 1) (aCons (fC (.int 3)) aNil))) (fC (.int 0)))))
def z1m:GS:=(sSeq (sSet 3 (f2 gEq (fCall z9 (aCons (fVar 0) (aCons (fC (.int 3)) aNil))) (fC (.int 0))))
 (sSeq (sSetL 4 z1F)
 (sSeq (sIf (asT (fVar 3)) (sSetL 4 z1G) sNext)
 (sRet (fCall z01 (aCons (fVar 4) aNil))))))
def zY:GF:=mkFn 3 2 z1m
theorem z5o(hf:Is K mg "_law_poly_by" z0Q)(zp:Cal P w K mg base "_law_take" ["_law_state","_law_many"] 1 z9)(z0w:Cal P w K mg base "_law_cut" ["_law_numbers"] 1 z01)(z4k:mg "int"=none)(zA:mg "range"=none):Cal P w K mg base "_law_poly_by" ["_law_state","_law_p","_law_most"] 2 zY:=by
 obtain⟨f,fd,F,hm⟩:=hf
 have nd:=sc__law_poly_by.nd
 exact⟨f,fd,fnD F sc__law_poly_by rfl (fun cdv A outer s H E hr=>(dss_cons (ds_set (i:=3) nd (z2E (deq hr.units) (zw zp hr (z0 (dv 0) (z0 de_int zd))).w (de_int).w (nomark _)))
   (dss_cons (z7F (i:=4) nd (N:=["_law_k","_law_state","_law_p"]) (k:=1) (fr:=[0,1]) (compOkC (sc:=defScope z0Q) (N0:=["_law_state","_law_p","_law_most","_law_sparse","_law_numbers"]) (by rfl) (by rfl) (by decide +kernel) (fun _ h=>z0l h)) (by decide) (z0f zA (zw zp hr (z0 (dv 0) (z0 (de_op dadd (dv 2).w (de_int).w) zd)))) (fun _ _ _ _=>by exact(zS (i:=0) (show List.Nodup (α:=Str) ["_law_k","_law_state","_law_p"] by decide +kernel))) (fun _ _ _ _=>z0H) (fun _ _ _ _=>by exact(zw zp hr (z0 (dv 1) (z0 (dv 2) zd)))) (by first | rfl | with_unfolding_all rfl))
   (dss_cons (z1K (z1X (dv 3).w (fun _=>rfl)) (zh (z7F (i:=4) nd (N:=["_law_one","_law_state"]) (k:=1) (fr:=[0]) (compOkC (sc:=defScope z0Q) (N0:=["_law_state","_law_p","_law_most","_law_sparse","_law_numbers"]) (by rfl) (by rfl) (by decide +kernel) (fun _ h=>z0l h)) (by decide) (z5V (dv 4)) (fun _ _ _ _=>by exact(zS (i:=0) (show List.Nodup (α:=Str) ["_law_one","_law_state"] by decide +kernel))) (fun _ _ _ _=>z0H) (fun _ _ _ _=>by exact(de_op dmul_int (dv 0).w (z6b zc1 (by first | rfl | decide +kernel) z4k (z2E (deq hr.units) (zw zp hr (z0 (dv 1) (z0 de_int zd))).w (de_int).w (nomark _)).w).w)) (by first | rfl | with_unfolding_all rfl))) zW)
   (zh (zC (zw z0w hr (z0 (dv 4) zd)))))))),hm,F.kp,F.binds fun _ _ _ _ _ _ us hl=>by obtain⟨a0,a1,a2,rfl⟩:=len3 (show us.length=3 from hl);rfl⟩
theorem sc__law_is_quotient_by:FnScope ["_law_p","_law_thing","_law_one"] ["_law_p","_law_thing"] (defScope z04):=⟨rfl,rfl,rfl,by decide +kernel,rfl,by decide +kernel,by decide +kernel⟩
def z16:FO:=fComp 1 [0] (iSeq (fVar 2)) (.one 0) fTrue (eAnd (f1 (gInst "int") (fVar 0)) (eAnd (f1 gNot (f1 (gInst "bool") (fVar 0))) (fChain gLe gLt (fC (.int 0)) (fVar 0) (fVar 1))))
def z17:GS:=(sSeq (sIf (tOrF (tNotF (asT (f1 (gInst "tuple") (fVar 2)))) (tAndF (asB (f2 gNe (fVar 2) (eTup aNil))) (asB (f2 gEq (f2 gIx (fVar 2) (f1 gNeg (fC (.int 1)))) (fC (.int 0)))))) (sRet (fC (.bool false))) sNext)
 (sIf (tNotF (asT (f1 gAll (asL z16)))) (sRet (fC (.bool false))) sNext))
def z2y:GS:=sFor (iSeq (fVar 1)) (.one 2) z17
def z1x:GS:=(sSeq (sIf (tOrF (tNotF (asT (f1 (gInst "tuple") (fVar 1)))) (asB (f2 gNe (f1 gLen (fVar 1)) (fC (.int 2))))) (sRet (fC (.bool false))) sNext)
 (sSeq z2y
 (sRet (eAnd (f2 gNe (f2 gIx (fVar 1) (fC (.int 1))) (eTup aNil)) (eAnd (f2 gEq (f2 gIx (f2 gIx (fVar 1) (fC (.int 1))) (fC (.int 0))) (fC (.int 1))) (f2 gEq (f1 gLen (fCall zD (aCons (fVar 0) (aCons (f2 gIx (fVar 1) (fC (.int 1))) (aCons (f2 gIx (fVar 1) (fC (.int 0))) aNil))))) (fC (.int 1))))))))
def zH:GF:=mkFn 2 1 z1x
theorem z2N(hf:Is K mg "_law_is_quotient_by" z04)(z02:Cal P w K mg base "_law_factor_by" ["_law_p","_law_one","_law_other"] 3 zD)(z80:mg "all"=none)(z5E:mg "bool"=none)(z4k:mg "int"=none)(zn:mg "isinstance"=none)(zK:mg "len"=none)(zQ:mg "tuple"=none):Cal P w K mg base "_law_is_quotient_by" ["_law_p","_law_thing"] 4 zH:=by
 obtain⟨f,fd,F,hm⟩:=hf
 have nd:=sc__law_is_quotient_by.nd
 exact⟨f,fd,fnD F sc__law_is_quotient_by rfl (fun cdv A outer s H E hr=>(dss_cons (z1K (z6V (z3S (z1X (z10 (T:="tuple") (by decide) (by first | rfl | decide +kernel) zn zQ (dv 1).w).w (fun _=>rfl))) (z56 (zP (dne hr.units) (z0O z03 (by first | rfl | decide +kernel) zK (dv 1).w).w (de_int).w (nomark _)))).t (zh (zC z4a)) zW)
   (dss_cons (z1W (z5V (dv 1)) (zS (i:=2) nd) (dss_cons (z1K (z6V (z3S (z1X (z10 (T:="tuple") (by decide) (by first | rfl | decide +kernel) zn zQ (dv 2).w).w (fun _=>rfl))) (z56 (z5T (zP (dne hr.units) (dv 2).w (z1p zd).w (nomark _)) (z4b (zP (deq hr.units) (zV (dv 2).w (z3R (de_int).w).w (fun _ _=>rfl)).w (de_int).w (nomark _)))).t)).t (zh (zC z4a)) zW)
   (zh (z1K (z3S (z1X (z0O (zc2 rfl) (by first | rfl | decide +kernel) z80 (DF.de (z1S (N:=["_law_k","_law_p"]) (k:=1) (fr:=[0]) (compOkC (sc:=defScope z04) (N0:=["_law_p","_law_thing","_law_one"]) (by rfl) (by rfl) (by decide +kernel) (fun _ h=>z0l h)) (by decide) (z5V (dv 2)) (fun _ _ _ _=>by exact(zS (i:=0) (show List.Nodup (α:=Str) ["_law_k","_law_p"] by decide +kernel))) (fun _ _ _ _=>z0H) (fun _ _ _ _=>by exact(z57 (z10 (T:="int") (by decide) (by first | rfl | decide +kernel) zn z4k (dv 0).w) (z57 (zc0 (z10 (T:="bool") (by decide) (by first | rfl | decide +kernel) zn z5E (dv 0).w)) (z6W (zbe dle dlt (de_int).w (dv 0).w (dv 1).w))))))).w).w (fun _=>rfl))) (zh (zC z4a)) zW))))
   (zh (zC (z57 (z2E (dne hr.units) (zV (dv 1).w (de_int).w (fun _ _=>rfl)).w (z1p zd).w (nomark _)) (z57 (z2E (deq hr.units) (zV (zV (dv 1).w (de_int).w (fun _ _=>rfl)).w (de_int).w (fun _ _=>rfl)).w (de_int).w (nomark _)) (z6W (z2E (deq hr.units) (z0O z03 (by first | rfl | decide +kernel) zK (zw z02 hr (z0 (dv 0) (z0 (zV (dv 1).w (de_int).w (fun _ _=>rfl)) (z0 (zV (dv 1).w (de_int).w (fun _ _=>rfl)) zd)))).w).w (de_int).w (nomark _)))))))))),hm,F.kp,F.binds fun _ _ _ _ _ _ us hl=>by obtain⟨a0,a1,rfl⟩:=len2 (show us.length=2 from hl);rfl⟩
theorem sc__law_agreed_by:FnScope ["_law_p","_law_row","_law_one","_law_own"] ["_law_p","_law_row","_law_one"] (defScope z0U):=⟨rfl,rfl,rfl,by decide +kernel,rfl,by decide +kernel,by decide +kernel⟩
def z26:FO:=fComp 1 [3,1] (iRange1 (f1 gLen (fVar 1))) (.one 0) (asB (f2 gNe (f2 gIx (fVar 1) (fVar 0)) (f2 gIx (fVar 2) (fVar 0)))) (fVar 0)
def z0W:GS:=(sSeq (sSet 3 (fCall z1E (aCons (fVar 0) (aCons (fVar 2) (aCons (f1 gLen (fVar 1)) aNil)))))
 (sRet (f1 gMinL (f2 gAdd (asL z26) (eLst (aCons (f1 gLen (fVar 1)) aNil))))))
def zE:GF:=mkFn 3 1 z0W
theorem z4h(hf:Is K mg "_law_agreed_by" z0U)(z1H:Cal P w K mg base "_law_series_by" ["_law_p","_law_one","_law_many"] 1 z1E)(zK:mg "len"=none)(z4H:mg "min"=none)(zA:mg "range"=none):Cal P w K mg base "_law_agreed_by" ["_law_p","_law_row","_law_one"] 2 zE:=by
 obtain⟨f,fd,F,hm⟩:=hf
 have nd:=sc__law_agreed_by.nd
 exact⟨f,fd,fnD F sc__law_agreed_by rfl (fun cdv A outer s H E hr=>(dss_cons (ds_set (i:=3) nd (zw z1H hr (z0 (dv 0) (z0 (dv 2) (z0 (z0O z03 (by first | rfl | decide +kernel) zK (dv 1).w) zd)))))
   (zh (zC (z0O (zcY rfl) (by first | rfl | decide +kernel) z4H (de_op dadd (DF.de (z1S (N:=["_law_k","_law_own","_law_row"]) (k:=1) (fr:=[3,1]) (compOkC (sc:=defScope z0U) (N0:=["_law_p","_law_row","_law_one","_law_own"]) (by rfl) (by rfl) (by decide +kernel) (fun _ h=>z0l h)) (by decide) (z0f zA (z0O z03 (by first | rfl | decide +kernel) zK (dv 1).w)) (fun _ _ _ _=>by exact(zS (i:=0) (show List.Nodup (α:=Str) ["_law_k","_law_own","_law_row"] by decide +kernel))) (fun _ _ _ _=>by exact zba (zP (dne hr.units) (zV (dv 1).w (dv 0).w (fun _ _=>rfl)).w (zV (dv 2).w (dv 0).w (fun _ _=>rfl)).w (nomark _))) (fun _ _ _ _=>by exact(dv 0)))).w (z1R (z0 (z0O z03 (by first | rfl | decide +kernel) zK (dv 1).w) zd)).w).w))))),hm,F.kp,F.binds fun _ _ _ _ _ _ us hl=>by obtain⟨a0,a1,a2,rfl⟩:=len3 (show us.length=3 from hl);rfl⟩
theorem sc__law_row_by:FnScope ["_law_state","_law_p","_law_many","_law_way","_law_ahead","_law_row","_law_turn","_law_below","_law_spot"] ["_law_state","_law_p","_law_many"] (defScope z11):=⟨rfl,rfl,rfl,by decide +kernel,rfl,by decide +kernel,by decide +kernel⟩
def z5p:FO:=fComp 1 [0,1] (iRange1 (fVar 2)) (.one 0) fTrue (fCall z9 (aCons (fVar 1) (aCons (fVar 2) aNil)))
def z5q:FO:=fComp 1 [0,1] (iRange1 (f2 gSubI (fVar 2) (fVar 4))) (.one 0) fTrue (fCall z9 (aCons (fVar 1) (aCons (fVar 2) aNil)))
def z2Z:GS:=(sPut 5 (fCall z9 (aCons (fVar 0) (aCons (fVar 2) aNil))) (fCall z9 (aCons (fVar 0) (aCons (fVar 1) aNil))))
def z30:GS:=sFor (iRange1 (fCall z9 (aCons (fVar 0) (aCons (fC (.int 4)) aNil)))) (.one 6) z2Z
def z07:GS:=(sSeq (sSet 3 (fCall z9 (aCons (fVar 0) (aCons (fC (.int 6)) aNil))))
 (sSeq (sIf (asB (f2 gEq (fVar 3) (fC (.int 0)))) (sRet (asL z5p)) sNext)
 (sSeq (sIf (asB (f2 gEq (fVar 3) (fC (.int 1)))) (sSeq (sSet 4 (fCall z9 (aCons (fVar 0) (aCons (f2 gAdd (fVar 2) (fC (.int 1))) aNil))))
 (sRet (f2 gAdd (f2 gMulA (eLst (aCons (fC (.int 0)) aNil)) (fVar 4)) (asL z5q)))) sNext)
 (sSeq (sIf (asB (f2 gEq (fVar 3) (fC (.int 2)))) (sSeq (sSetO 5 (o2 lRep (eLst (aCons (fC (.int 0)) aNil)) (fVar 2)))
 (sSeq z30
 (sSeq (sFrz 5) (sRet (fVar 5))))) sNext)
 (sSeq (sSet 7 (f2 gAddA (eTup (aCons (fC (.int 1)) aNil)) (fCall zY (aCons (fVar 0) (aCons (fVar 1) (aCons (f2 gDivI (fVar 2) (fC (.int 3))) aNil))))))
 (sSeq (sSetC 5 (fCallC zL (aCons (fVar 1) (aCons (eTup (aCons (fCall zY (aCons (fVar 0) (aCons (fVar 1) (aCons (f2 gDivI (fVar 2) (fC (.int 2))) aNil)))) (aCons (fVar 7) aNil))) (aCons (fVar 2) aNil)))))
 (sSeq (sIf (asB (f2 gGt (fVar 3) (fC (.int 4)))) (sSeq (sSet 8 (fCall z9 (aCons (fVar 0) (aCons (fVar 2) aNil))))
 (sPut 5 (fVar 8) (f2 gModI (f2 gAdd (f2 gIx (fVarW 5) (fVar 8)) (fC (.int 1))) (fVar 1)))) sNext)
 (sSeq (sFrz 5) (sRet (fVar 5))))))))))
def z18:GF:=mkFn 3 6 z07
theorem z5H(hf:Is K mg "_law_row_by" z11)(zp:Cal P w K mg base "_law_take" ["_law_state","_law_many"] 1 z9)(z1o:Cal P w K mg base "_law_poly_by" ["_law_state","_law_p","_law_most"] 2 zY)(hC__law_series_by:CalC P w K mg base "_law_series_by" ["_law_p","_law_one","_law_many"] 1 zL)(zA:mg "range"=none):Cal P w K mg base "_law_row_by" ["_law_state","_law_p","_law_many"] 3 z18:=by
 obtain⟨f,fd,F,hm⟩:=hf
 have nd:=sc__law_row_by.nd
 exact⟨f,fd,fnD F sc__law_row_by rfl (fun cdv A outer s H E hr=>(dss_cons (ds_set (i:=3) nd (zw zp hr (z0 (dv 0) (z0 de_int zd))))
   (dss_cons (z1K (zP (deq hr.units) (dv 3).w (de_int).w (nomark _)) (zh (zC (DF.de (z1S (N:=["_law_k","_law_state","_law_p"]) (k:=1) (fr:=[0,1]) (compOkC (sc:=defScope z11) (N0:=["_law_state","_law_p","_law_many","_law_way","_law_ahead","_law_row","_law_turn","_law_below","_law_spot"]) (by rfl) (by rfl) (by decide +kernel) (fun _ h=>z0l h)) (by decide) (z0f zA (dv 2)) (fun _ _ _ _=>by exact(zS (i:=0) (show List.Nodup (α:=Str) ["_law_k","_law_state","_law_p"] by decide +kernel))) (fun _ _ _ _=>z0H) (fun _ _ _ _=>by exact(zw zp hr (z0 (dv 1) (z0 (dv 2) zd)))))))) zW)
   (dss_cons (z1K (zP (deq hr.units) (dv 3).w (de_int).w (nomark _)) (dss_cons (ds_set (i:=4) nd (zw zp hr (z0 (dv 0) (z0 (de_op dadd (dv 2).w (de_int).w) zd))))
   (zh (zC (de_op dadd (de_op dmula (z1R (z0 de_int zd)).w (dv 4).w).w (DF.de (z1S (N:=["_law_k","_law_state","_law_p"]) (k:=1) (fr:=[0,1]) (compOkC (sc:=defScope z11) (N0:=["_law_state","_law_p","_law_many","_law_way","_law_ahead","_law_row","_law_turn","_law_below","_law_spot"]) (by rfl) (by rfl) (by decide +kernel) (fun _ h=>z0l h)) (by decide) (z0f zA (de_op zM (dv 2).w (dv 4).w)) (fun _ _ _ _=>by exact(zS (i:=0) (show List.Nodup (α:=Str) ["_law_k","_law_state","_law_p"] by decide +kernel))) (fun _ _ _ _=>z0H) (fun _ _ _ _=>by exact(zw zp hr (z0 (dv 1) (z0 (dv 2) zd)))))).w)))) zW)
   (dss_cons (z1K (zP (deq hr.units) (dv 3).w (de_int).w (nomark _)) (dss_cons (z2x (i:=5) nd (zee (z1R (z0 de_int zd)).w (dv 2).w))
   (dss_cons (z1W (z0f zA (zw zp hr (z0 (dv 0) (z0 de_int zd)))) (zS (i:=6) nd) (zh (z8a (i:=5) (pv 5) (zw zp hr (z0 (dv 0) (z0 (dv 2) zd))).w (zw zp hr (z0 (dv 0) (z0 (dv 1) zd))))))
   (zh (z5b 5 (zC (dv 5)))))) zW)
   (dss_cons (ds_set (i:=7) nd (de_op dadda (z1p (z0 de_int zd)).w (zw z1o hr (z0 (dv 0) (z0 (dv 1) (z0 (de_op z3d (dv 2).w (de_int).w) zd)))).w))
   (dss_cons (zcU (i:=5) nd (zen hC__law_series_by hr (z0 (dv 1) (z0 (z1p (z0 (zw z1o hr (z0 (dv 0) (z0 (dv 1) (z0 (de_op z3d (dv 2).w (de_int).w) zd)))) (z0 (dv 7) zd))) (z0 (dv 2) zd)))))
   (dss_cons (z1K (zP dgt (dv 3).w (de_int).w (nomark _)) (dss_cons (ds_set (i:=8) nd (zw zp hr (z0 (dv 0) (z0 (dv 2) zd))))
   (zh (z8a (i:=5) (pv 5) (dv 8).w (de_op dmod_int (de_op dadd (zV (dvw 5) (dv 8).w (fun _ _=>rfl)).w (de_int).w).w (dv 1).w)))) zW)
   (zh (z5b 5 (zC (dv 5)))))))))))),hm,F.kp,F.binds fun _ _ _ _ _ _ us hl=>by obtain⟨a0,a1,a2,rfl⟩:=len3 (show us.length=3 from hl);rfl⟩
end
def z2f:RS:=rIf2 (asB (f2 gLt (f1 gLen (fVar 0)) (f2 gAdd (f2 gAdd (fVar 1) (fVar 2)) (fC (.int 1))))) (rFmt [f1 gLen (fVar 0),fVar 1,fVar 2]) rEnd
def z0E:List D→Sx→Option Sx:=mkX 3 0 z2f
def zG:List D→Sx→Option Sx:=mkX 4 3 (rCall z0E (aCons (fVar 1) (aCons (fVar 2) (aCons (fVar 3) aNil))))
section
variable {P:Program} {w:World} {K:PySem.W.Frag} {mg:Str→Option Value} {base:Heap}
theorem z4A{C:Addr}(hf:Is K mg "check_places" z1i)(zK:mg "len"=none)
  (z9a:PySem.W.excIn K C [.type "ValueError",.type "Exception",.type "BaseException",.type "object"] "ValueError.__new__"=true) (m_TooShort:mg "TooShort"=some (.ref C)) :
  ∃ f fd,FnOk P w K mg base (CX1 P w base) 1 f fd ["row","m","n"] (spX K C z0E)∧mg "check_places"=some (.ref f)∧PySem.W.keepIn K (.ref f)=true∧Binds K fd ["row","m","n"] []:=by
 obtain⟨f,fd,F,hm⟩:=hf
 have nd:=sc_check_places.nd
 refine⟨f,fd,fnX (m:=0) F sc_check_places rfl (fun cdv A outer s H E hr=>?_),hm,F.kp,F.binds fun _ _ _ _ _ _ us hl=>by obtain⟨a0,a1,a2,rfl⟩:=len3 (show us.length=3 from hl);rfl⟩
 exact zev (zP dlt (z0O z03 (by first | rfl | decide +kernel) zK (dv 0).w).w (de_op dadd (de_op dadd (dv 1).w (dv 2).w).w (de_int).w).w (nomark _))
  (za5 rfl PySem.F.excBase_ValueError z9a rfl m_TooShort (za4 (z0O z03 (by first | rfl | decide +kernel) zK (dv 0).w) (zc9 40 (za4 (dv 1) (zc9 10 (za4 (dv 2) zeu))))))
  (zep z4X)
theorem z5r{C:Addr}(hf:Is K mg "furthest_by" z1L)(hc:∃ f fd,FnOk P w K mg base (CX1 P w base) 1 f fd ["row","m","n"] (spX K C z0E)∧mg "check_places"=some (.ref f)∧PySem.W.keepIn K (.ref f)=true∧Binds K fd ["row","m","n"] []) :
  ∃ f fd,FnOk P w K mg base (CX1 P w base) 2 f fd ["p","row","m","n"] (spX K C zG)∧mg "furthest_by"=some (.ref f)∧PySem.W.keepIn K (.ref f)=true∧Binds K fd ["p","row","m","n"] []:=by
 obtain⟨f,fd,F,hm⟩:=hf
 obtain⟨f1,fd1,G,hm1,hk1,hb1⟩:=hc
 have nd:=sc_furthest_by.nd
 exact⟨f,fd,fnXC (m:=3) F sc_furthest_by rfl rfl G hm1 hk1 hb1 (by decide) (fun cdv A outer s H E hr=>⟨z0 (dv 1) (z0 (dv 2) (z0 (dv 3) zd)),rfl,⟨rfl,rfl⟩,rfl⟩),hm,F.kp,F.binds fun _ _ _ _ _ _ us hl=>by obtain⟨a0,a1,a2,a3,rfl⟩:=len4 (show us.length=4 from hl);rfl⟩
end
theorem sc__law_too_short:FnScope ["_law_p","_law_row","_law_m","_law_n","_law_caught","e","_law_others"] ["_law_p","_law_row","_law_m","_law_n"] (defScope z1B):=⟨rfl,rfl,rfl,by decide +kernel,rfl,by decide +kernel,by decide +kernel⟩
def z0J:GF:=fun ds s=>(zG ds s).map fun s'=>(.bool true,s')
section
variable {P:Program} {w:World} {K:PySem.W.Frag} {mg:Str→Option Value} {base:Heap}
theorem z40{C CF CS CP CB:Addr}(hf:Is K mg "_law_too_short" z1B)
  (hq:∃ f fd,FnOk P w K mg base (CX1 P w base) 2 f fd ["p","row","m","n"] (spX K C zG)∧mg "furthest_by"=some (.ref f)∧PySem.W.keepIn K (.ref f)=true∧Binds K fd ["p","row","m","n"] [])
  (ek:ExcK K C) (m_FarError:mg "FarError"=some (.ref CF)) (m_NoQuotient:mg "NoQuotient"=some (.ref CS)) (m_Pole:mg "Pole"=some (.ref CP)) (m_BadRow:mg "BadRow"=some (.ref CB)) (m_TooShort:mg "TooShort"=some (.ref C)) (z3a:mg "ValueError"=none) (zn:mg "isinstance"=none) (zdA:mg "any"=none)
  (xm:PySem.W.exmOne K (.ref C) (.ref CF)=some true) (k1:PySem.W.kitOne K (.ref C) (.ref CS)=some false) (k2:PySem.W.kitOne K (.ref C) (.ref CP)=some false) (k3:PySem.W.kitOne K (.ref C) (.ref CB)=some false) (k4:PySem.W.kitOne K (.ref C) (.ref C)=some true) (k5:PySem.W.kitOne K (.ref C) (.type "ValueError")=some true) :
  Cal P w K mg base "_law_too_short" ["_law_p","_law_row","_law_m","_law_n"] 3 z0J:=by
 obtain⟨f,fd,F,hm⟩:=hf
 obtain⟨fq,fdq,Fq,mq,kq,bq⟩:=hq
 refine⟨f,fd,?_,hm,F.kp,F.binds fun _ _ _ _ _ _ us hl=>by obtain⟨a0,a1,a2,a3,rfl⟩:=len4 (show us.length=4 from hl);rfl⟩
 have nd:=sc__law_too_short.nd
 have cut:∀ {ds:List D} {s:Sx} {r:D × Sx},z0J ds s=some r→∃ s',zG ds s=some s'∧r=(.bool true,s'):=fun{ds s r} e=>by
  unfold z0J at e
  cases e1:zG ds s with
  | none=>rw[e1]at e;cases e
  | some s'=>rw[e1]at e;cases e;exact⟨s',rfl,rfl⟩
 have ln:∀ {ds:List D} {s s':Sx},zG ds s=some s'→ds.length=4:=fun{ds s s'} e=>by
  unfold zG mkX at e
  split at e
  ·assumption
  ·cases e
 have rr:∀ {D:Addr} (u:Value),RelV (.ref D) u→u=.ref D:=fun u r=>r
 refine F.ok sc__law_too_short (fun vs H Q E zgf=>?_) (fun cdv A outer s H vs Q E hr zgg=>?_)
 ·obtain⟨Z,A0,ds,st,d,st',r,_,_,e,_⟩:=zgf
  obtain⟨s',e1,_⟩:=cut e
  rw[r.length];exact ln e1
 ·obtain⟨Z,A0,ds,st,d,st',r,hA,S,e,q⟩:=zgg
  obtain⟨s',e1,e2⟩:=cut e
  cases e2
  obtain⟨v0,v1,v2,v3,rfl⟩:=len4 (show vs.length=4 by rw[r.length];exact ln e1)
  refine⟨_,z0b (z2P (i:=4) nd rfl (Or.inl rfl) zbN)
   (z0b (ze6 (C:=C) (C':=CF) (ie:=5) (iy:=4) rfl rfl Fq (hr.mono (by decide)) rfl mq kq bq (zy (pv 0) (zy (pv 1) (zy (pv 2) (zy (pv 3) z0r)))) xm rfl m_FarError nd rfl rfl (Or.inl rfl) (Or.inl rfl) (fun a=>z2P (i:=4) nd rfl (Or.inl rfl) (pv 5)))
   (z0b (z2P (i:=6) nd rfl (Or.inl rfl) (z9r (zy (z0Z (z2n (C:=C) (v:=.ref CS) rfl rr ek k1) rfl zn (by first | rfl | decide +kernel) (zy (pv 4) (zy (z63 (v:=.ref CS) rfl m_NoQuotient rfl) z0r)))
    (zy (z0Z (z2n (C:=C) (v:=.ref CP) rfl rr ek k2) rfl zn (by first | rfl | decide +kernel) (zy (pv 4) (zy (z63 (v:=.ref CP) rfl m_Pole rfl) z0r)))
    (zy (z0Z (z2n (C:=C) (v:=.ref CB) rfl rr ek k3) rfl zn (by first | rfl | decide +kernel) (zy (pv 4) (zy (z63 (v:=.ref CB) rfl m_BadRow rfl) z0r))) z0r)))))
   (z47 (z6J (z9f (z0Z (z2n (C:=C) (v:=.ref C) rfl rr ek k4) rfl zn (by first | rfl | decide +kernel) (zy (pv 4) (zy (z63 (v:=.ref C) rfl m_TooShort rfl) z0r)))
    (z9f (z0Z (z2n (C:=C) (v:=.ty "ValueError") (c:=.type "ValueError") rfl (fun u r=>r) ek k5) rfl zn (by first | rfl | decide +kernel) (zy (pv 4) (zy (z9e (v:=.ty "ValueError") rfl z3a (by first | rfl | decide +kernel) rfl) z0r)))
    (zbO (zbP (z0Z (zem rfl) rfl zdA (by first | rfl | decide +kernel) (zy (pv 6) z0r)))))))))),?_⟩
  refine⟨_,rfl,_,rfl,_,rfl,_,rfl,?_⟩
  refine .mk Z A0 ds st st' r hA S e1 fun H' x S'=>⟨rfl,fun a ha=>?_⟩
  have h2:(upd H' a (.ext (IsExc C a))) a=some (.ext (IsExc C a)):=zq
  refine⟨_,rfl,a,rfl,h2,_,rfl,a,rfl,h2,_,rfl,a,rfl,h2,(by show 3≤sizeLine;decide),fun p hp=>?_⟩
  have pa:a≠p:=zm h2 hp
  have h3:(upd (upd H' a (.ext (IsExc C a))) p (.lst [.bl false,.bl false,.bl false])) a=some (.ext (IsExc C a)):=by rw[zj pa];exact h2
  have up:∀ b o,H' b=some o→(upd (upd H' a (.ext (IsExc C a))) p (.lst [.bl false,.bl false,.bl false])) b=some o:=fun b o eb=>by
   have b1:(upd H' a (.ext (IsExc C a))) b=some o:=by rw[zj (zm eb ha)];exact eb
   rw[zj (zm b1 hp)];exact b1
  refine⟨_,rfl,a,rfl,h3,true,rfl,?_⟩
  rw[if_pos rfl]
  refine⟨_,rfl,a,rfl,h3,true,rfl,?_⟩
  rw[if_pos rfl]
  refine⟨_,rfl,.mk none [] ([],0) _ (.list [.bool false,.bool false,.bool false]) (.bool false) rfl (fun a c z=>nomatch z) (fun q z=>nomatch z) (.inl (.lst zq (fun z=>nomatch z) (fun a c z=>nomatch z) (.cons (.bl _) (.cons (.bl _) (.cons (.bl _) .nil))))) rfl fun v' Hn xn _ rn=>?_⟩
  have ev:v'=.bl false:=by cases rn;rfl
  subst ev
  refine⟨false,rfl,q _ _ (fun b o eb nb=>xn b o (up b o (x b o eb nb)) (fun a c z=>nomatch z)) (fun a0 c0 z=>?_) (.bl true)⟩
  obtain⟨s1,s2⟩:=S' a0 c0 z
  exact⟨xn _ _ (up _ _ s1) (fun a c z=>nomatch z),xn _ _ (up _ _ s2) (fun a c z=>nomatch z)⟩
end
def z0u:GF:=z0J
section
variable {P:Program} {w:World} {K:PySem.W.Frag} {mg:Str→Option Value} {base:Heap}
theorem sc__law_is_furthest_by:FnScope ["_law_p","_law_row","_law_m","_law_n","_law_found","_law_less"] ["_law_p","_law_row","_law_m","_law_n","_law_found"] (defScope z0z):=⟨rfl,rfl,rfl,by decide +kernel,rfl,by decide +kernel,by decide +kernel⟩
def z08:GS:=(sSeq (sIf (tOrF (tNotF (asT (fCall zH (aCons (fVar 0) (aCons (fVar 4) aNil))))) (tOrF (asB (f2 gGt (f1 gLen (f2 gIx (fVar 4) (fC (.int 0)))) (f2 gAdd (fVar 2) (fC (.int 1))))) (asB (f2 gGt (f1 gLen (f2 gIx (fVar 4) (fC (.int 1)))) (f2 gAdd (fVar 3) (fC (.int 1))))))) (sRet (fC (.bool false))) sNext)
 (sSeq (sSet 5 (f2 gSubI (f2 gAdd (fVar 3) (fC (.int 1))) (f1 gLen (f2 gIx (fVar 4) (fC (.int 1))))))
 (sSeq (sIf (asB (f2 gNe (f2 gIx (fVar 4) (fC (.int 0))) (eTup aNil))) (sSet 5 (f2 gMin (fVar 5) (f2 gSubI (f2 gAdd (fVar 2) (fC (.int 1))) (f1 gLen (f2 gIx (fVar 4) (fC (.int 0))))))) sNext)
 (sRet (f2 gGe (fCall zE (aCons (fVar 0) (aCons (fVar 1) (aCons (fVar 4) aNil)))) (f2 gSubI (f2 gAdd (f2 gAdd (fVar 2) (fVar 3)) (fC (.int 1))) (fVar 5)))))))
def zI:GF:=mkFn 5 1 z08
theorem z2O(hf:Is K mg "_law_is_furthest_by" z0z)(z0G:Cal P w K mg base "_law_is_quotient_by" ["_law_p","_law_thing"] 4 zH)(zU:Cal P w K mg base "_law_agreed_by" ["_law_p","_law_row","_law_one"] 2 zE)(zK:mg "len"=none)(z4H:mg "min"=none):Cal P w K mg base "_law_is_furthest_by" ["_law_p","_law_row","_law_m","_law_n","_law_found"] 5 zI:=by
 obtain⟨f,fd,F,hm⟩:=hf
 have nd:=sc__law_is_furthest_by.nd
 exact⟨f,fd,fnD F sc__law_is_furthest_by rfl (fun cdv A outer s H E hr=>(dss_cons (z1K (z6V (z3S (z1X (zw z0G hr (z0 (dv 0) (z0 (dv 4) zd))).w (fun _=>rfl))) (z6V (zP dgt (z0O z03 (by first | rfl | decide +kernel) zK (zV (dv 4).w (de_int).w (fun _ _=>rfl)).w).w (de_op dadd (dv 2).w (de_int).w).w (nomark _)) (z56 (zP dgt (z0O z03 (by first | rfl | decide +kernel) zK (zV (dv 4).w (de_int).w (fun _ _=>rfl)).w).w (de_op dadd (dv 3).w (de_int).w).w (nomark _))))).t (zh (zC z4a)) zW)
   (dss_cons (ds_set (i:=5) nd (de_op zM (de_op dadd (dv 3).w (de_int).w).w (z0O z03 (by first | rfl | decide +kernel) zK (zV (dv 4).w (de_int).w (fun _ _=>rfl)).w).w))
   (dss_cons (z1K (zP (dne hr.units) (zV (dv 4).w (de_int).w (fun _ _=>rfl)).w (z1p zd).w (nomark _)) (zh (ds_set (i:=5) nd (zcM (z9M rfl) (by first | rfl | decide +kernel) z4H (dv 5).w (de_op zM (de_op dadd (dv 2).w (de_int).w).w (z0O z03 (by first | rfl | decide +kernel) zK (zV (dv 4).w (de_int).w (fun _ _=>rfl)).w).w).w))) zW)
   (zh (zC (z2E dge (zw zU hr (z0 (dv 0) (z0 (dv 1) (z0 (dv 4) zd)))).w (de_op zM (de_op dadd (de_op dadd (dv 2).w (dv 3).w).w (de_int).w).w (dv 5).w).w (nomark _)))))))),hm,F.kp,F.binds fun _ _ _ _ _ _ us hl=>by obtain⟨a0,a1,a2,a3,a4,rfl⟩:=len5 (show us.length=5 from hl);rfl⟩
theorem sc__law_no_other:FnScope ["_law_p","_law_row","_law_m","_law_n","_law_found","_law_best","_law_k","_law_below","_law_top","_law_i","_law_other","_law_same_here"] ["_law_p","_law_row","_law_m","_law_n","_law_found"] (defScope z0A):=⟨rfl,rfl,rfl,by decide +kernel,rfl,by decide +kernel,by decide +kernel⟩
def z0K:FO:=fComp 1 [0,6] (iRange1 (fVar 3)) (.one 0) fTrue (f2 gModI (f2 gDivI (fVar 2) (f2 gIx (eLst (aCons (fC (.int 1)) (aCons (fVar 1) (aCons (f2 gMulI (fVar 1) (fVar 1)) aNil)))) (fVar 0))) (fVar 1))
def z2r:FO:=fComp 1 [7,1,9] (iRange1 (f2 gAdd (f2 gMin (fVar 9) (fVar 3)) (fC (.int 1)))) (.one 0) fTrue (f2 gMulI (f2 gIx (fVar 1) (fVar 0)) (f2 gIx (fVar 2) (f2 gSubI (fVar 3) (fVar 0))))
def z2s:GS:=(sApp 8 (f2 gModI (f1 gSum (asL z2r)) (fVar 0)))
def z1f:GS:=sFor (iRange1 (f2 gAdd (fVar 2) (fC (.int 1)))) (.one 9) z2s
def z0L:GS:=(sSeq (sSet 7 (f2 gAdd (eLst (aCons (fC (.int 1)) aNil)) (asL z0K)))
 (sSeq (sSetO 8 (oLst aNil))
 (sSeq z1f
 (sSeq (sSeq (sFrz 8) (sSet 10 (eTup (aCons (fCall z01 (aCons (fVar 8) aNil)) (aCons (fCall z01 (aCons (fVar 7) aNil)) aNil)))))
 (sSeq (sSet 11 (eOr (f2 gGt (f1 gLen (fCall zD (aCons (fVar 0) (aCons (f2 gIx (fVar 10) (fC (.int 1))) (aCons (f2 gIx (fVar 10) (fC (.int 0))) aNil))))) (fC (.int 1))) (f2 gEq (fVar 10) (fVar 4))))
 (sIf (tAndF (tNotF (asT (fVar 11))) (asB (f2 gGe (fCall zE (aCons (fVar 0) (aCons (fVar 1) (aCons (fVar 10) aNil)))) (fVar 5)))) (sRet (fC (.bool false))) sNext))))))
def z1g:GS:=sFor (iRange1 (eIf (tAndF (asB (f2 gLt (fVar 0) (fC (.int 4)))) (asB (f2 gLt (fVar 3) (fC (.int 4))))) (f2 gIx (eLst (aCons (fC (.int 1)) (aCons (fVar 0) (aCons (f2 gMulI (fVar 0) (fVar 0)) (aCons (f2 gMulI (f2 gMulI (fVar 0) (fVar 0)) (fVar 0)) aNil))))) (fVar 3)) (fC (.int 0)))) (.one 6) z0L
def z19:GS:=(sSeq (sSet 5 (fCall zE (aCons (fVar 0) (aCons (fVar 1) (aCons (fVar 4) aNil)))))
 (sSeq z1g
 (sRet (fC (.bool true)))))
def z0g:GF:=mkFn 5 7 z19
theorem z4B(hf:Is K mg "_law_no_other" z0A)(z0w:Cal P w K mg base "_law_cut" ["_law_numbers"] 1 z01)(z02:Cal P w K mg base "_law_factor_by" ["_law_p","_law_one","_law_other"] 3 zD)(zU:Cal P w K mg base "_law_agreed_by" ["_law_p","_law_row","_law_one"] 2 zE)(zK:mg "len"=none)(z4H:mg "min"=none)(zA:mg "range"=none)(zdB:mg "sum"=none):Cal P w K mg base "_law_no_other" ["_law_p","_law_row","_law_m","_law_n","_law_found"] 4 z0g:=by
 obtain⟨f,fd,F,hm⟩:=hf
 have nd:=sc__law_no_other.nd
 exact⟨f,fd,fnD F sc__law_no_other rfl (fun cdv A outer s H E hr=>(dss_cons (ds_set (i:=5) nd (zw zU hr (z0 (dv 0) (z0 (dv 1) (z0 (dv 4) zd)))))
   (dss_cons (z1W (z0f zA (ze8 (z5T (zP dlt (dv 0).w (de_int).w (nomark _)) (z4b (zP dlt (dv 3).w (de_int).w (nomark _)))).t (zV (z1R (z0 de_int (z0 (dv 0) (z0 (de_op dmul_int (dv 0).w (dv 0).w) (z0 (de_op dmul_int (de_op dmul_int (dv 0).w (dv 0).w).w (dv 0).w) zd))))).w (dv 3).w (fun _ _=>rfl)) de_int)) (zS (i:=6) nd) (dss_cons (ds_set (i:=7) nd (de_op dadd (z1R (z0 de_int zd)).w (DF.de (z1S (N:=["_law_j","_law_p","_law_k"]) (k:=1) (fr:=[0,6]) (compOkC (sc:=defScope z0A) (N0:=["_law_p","_law_row","_law_m","_law_n","_law_found","_law_best","_law_k","_law_below","_law_top","_law_i","_law_other","_law_same_here"]) (by rfl) (by rfl) (by decide +kernel) (fun _ h=>z0l h)) (by decide) (z0f zA (dv 3)) (fun _ _ _ _=>by exact(zS (i:=0) (show List.Nodup (α:=Str) ["_law_j","_law_p","_law_k"] by decide +kernel))) (fun _ _ _ _=>z0H) (fun _ _ _ _=>by exact(de_op dmod_int (de_op z3d (dv 2).w (zV (z1R (z0 de_int (z0 (dv 1) (z0 (de_op dmul_int (dv 1).w (dv 1).w) zd)))).w (dv 0).w (fun _ _=>rfl)).w).w (dv 1).w)))).w))
   (dss_cons (z2x (i:=8) nd (z6e zd))
   (dss_cons (z1W (z0f zA (de_op dadd (dv 2).w (de_int).w)) (zS (i:=9) nd) (zh (z89 (i:=8) (pv 8) (de_op dmod_int (z0O (zeo rfl) (by first | rfl | decide +kernel) zdB (DF.de (z1S (N:=["_law_j","_law_below","_law_row","_law_i"]) (k:=1) (fr:=[7,1,9]) (compOkC (sc:=defScope z0A) (N0:=["_law_p","_law_row","_law_m","_law_n","_law_found","_law_best","_law_k","_law_below","_law_top","_law_i","_law_other","_law_same_here"]) (by rfl) (by rfl) (by decide +kernel) (fun _ h=>z0l h)) (by decide) (z0f zA (de_op dadd (zcM (z9M rfl) (by first | rfl | decide +kernel) z4H (dv 9).w (dv 3).w).w (de_int).w)) (fun _ _ _ _=>by exact(zS (i:=0) (show List.Nodup (α:=Str) ["_law_j","_law_below","_law_row","_law_i"] by decide +kernel))) (fun _ _ _ _=>z0H) (fun _ _ _ _=>by exact(de_op dmul_int (zV (dv 1).w (dv 0).w (fun _ _=>rfl)).w (zV (dv 2).w (de_op zM (dv 3).w (dv 0).w).w (fun _ _=>rfl)).w)))).w).w (dv 0).w))))
   (dss_cons (z5b 8 (ds_set (i:=10) nd (z1p (z0 (zw z0w hr (z0 (dv 8) zd)) (z0 (zw z0w hr (z0 (dv 7) zd)) zd)))))
   (dss_cons (ds_set (i:=11) nd (zgG (z2E dgt (z0O z03 (by first | rfl | decide +kernel) zK (zw z02 hr (z0 (dv 0) (z0 (zV (dv 10).w (de_int).w (fun _ _=>rfl)) (z0 (zV (dv 10).w (de_int).w (fun _ _=>rfl)) zd)))).w).w (de_int).w (nomark _)) (z6W (z2E (deq hr.units) (dv 10).w (dv 4).w (nomark _)))))
   (zh (z1K (z5T (z3S (z1X (dv 11).w (fun _=>rfl))) (z4b (zP dge (zw zU hr (z0 (dv 0) (z0 (dv 1) (z0 (dv 10) zd)))).w (dv 5).w (nomark _)))).t (zh (zC z4a)) zW))))))))
   (zh (zC z4a))))),hm,F.kp,F.binds fun _ _ _ _ _ _ us hl=>by obtain⟨a0,a1,a2,a3,a4,rfl⟩:=len5 (show us.length=5 from hl);rfl⟩
theorem sc_law:FnScope ["_law_script","_law_state","_law_p","_law_row","_law_kept","_law_turn","_law_m","_law_n","_law_found"] ["_law_script"] (defScope z7O):=⟨rfl,rfl,rfl,by decide +kernel,rfl,by decide +kernel,by decide +kernel⟩
def z6r:GS:=(sSeq (sSet 6 (fCall z9 (aCons (fVar 1) (aCons (f1 gLen (fVar 3)) aNil))))
 (sSeq (sSet 7 (fCall z9 (aCons (fVar 1) (aCons (f2 gSubI (f1 gLen (fVar 3)) (fVar 6)) aNil))))
 (sSeq (sUnp (.tup [6,7]) (f2 gIx (eLst (aCons (eTup (aCons (fVar 6) (aCons (fVar 7) aNil))) (aCons (eTup (aCons (fVar 7) (aCons (fVar 6) aNil))) (aCons (eTup (aCons (fC (.int 0)) (aCons (f2 gSubI (f1 gLen (fVar 3)) (fC (.int 1))) aNil))) (aCons (eTup (aCons (fVar 6) (aCons (f2 gSubI (f2 gSubI (f1 gLen (fVar 3)) (fC (.int 1))) (fVar 6)) aNil))) aNil))))) (fCall z9 (aCons (fVar 1) (aCons (fC (.int 4)) aNil)))))
 (sSeq (sSet 8 (fCall z0o (aCons (fVar 2) (aCons (fVar 3) (aCons (fVar 6) (aCons (fVar 7) aNil))))))
 (sSeq (sIf (tOrF (tNotF (asT (fCall zI (aCons (fVar 2) (aCons (fVar 3) (aCons (fVar 6) (aCons (fVar 7) (aCons (fVar 8) aNil)))))))) (tNotF (asT (fCall z0g (aCons (fVar 2) (aCons (fVar 3) (aCons (fVar 6) (aCons (fVar 7) (aCons (fVar 8) aNil))))))))) (sRet (fC (.bool false))) sNext)
 (sSeq (sIf (tOrF (tNotF (asT (fCall g__law_same (aCons (fCall z0o (aCons (fVar 2) (aCons (f1 gTuple (fSl (fVar 3) pNo (pInt (f2 gAdd (f2 gAdd (fVar 6) (fVar 7)) (fC (.int 1)))))) (aCons (fVar 6) (aCons (fVar 7) aNil))))) (aCons (fVar 8) aNil))))) (asB (f2 gNe (fVar 3) (fVar 4)))) (sRet (fC (.bool false))) sNext)
 (sIf (tAndF (asB (f2 gLt (f2 gSubI (f1 gLen (fVar 3)) (fVar 6)) (fC (.int 22)))) (tNotF (asT (fCall z0u (aCons (fVar 2) (aCons (fVar 3) (aCons (fVar 6) (aCons (f2 gAdd (f2 gSubI (f1 gLen (fVar 3)) (fVar 6)) (fCall z9 (aCons (fVar 1) (aCons (fC (.int 3)) aNil)))) aNil)))))))) (sRet (fC (.bool false))) sNext)))))))
def za8:GS:=sFor (iRange1 (fC (.int 4))) (.one 5) z6r
def zd3:Sl:=[.non,.val (.dict []),.non,.non,.non,.non,.non,.non,.non]
def zbl:GS:=(sSeq (sSet 2 (fCall z1w (aCons (fVar 1) aNil)))
 (sSeq (sSet 3 (fCall z18 (aCons (fVar 1) (aCons (fVar 2) (aCons (f2 gIx (eLst (aCons (f2 gAdd (fC (.int 1)) (fCall z9 (aCons (fVar 1) (aCons (fC (.int 12)) aNil)))) (aCons (f2 gAdd (fC (.int 13)) (fCall z9 (aCons (fVar 1) (aCons (fC (.int 12)) aNil)))) aNil))) (f1 gInt (f2 gEq (fCall z9 (aCons (fVar 1) (aCons (fC (.int 8)) aNil))) (fC (.int 0))))) aNil)))))
 (sSeq (sSet 4 (f1 gList (fVar 3)))
 (sSeq za8
 (sRet (fC (.bool true)))))))
theorem draw{n:Nat}{s:Sx}(h:Good (n + 1) s)(many:Int)(h1:0 < many)(h2:many < 2 ^ 100):∃ r s',z9 [.dict [],.int many] s=some (.int r,s')∧0≤r∧r < many∧Good n s':=z9U h h1 h2
theorem zbm(n:Nat)(a:Int)(s:Sx):z00 (n + 1) [.int a,.int a] s=some (.bool true,s):=by
 simp[z00,mkFn,z3G,sSeq,sIf,asB,asT,tOrF,f1,f2,fVar,fC,gIs,sNext,gInst,tyN,tru,sRet,eAnd,gNot,z1d]
theorem z8f{z:Int}(h0:0≤z)(h1:z≤1000):rOk z=true:=by
 unfold rOk
 simp only[Bool.and_eq_true,decide_eq_true_eq]
 exact⟨by omega,by omega⟩
theorem za9{z:Int}{d:D}(h0:0≤z)(h1:z≤1000):lRep (.list [d]) (.int z)=some (List.replicate z.toNat d):=by
 have e:[d].length * z.toNat≤sizeLine:=by
  have:[d].length * z.toNat≤1000:=by simp;omega
  exact Nat.le_trans this (by decide)
 have c:(decide (-(2 ^ 63)≤z) && decide (z < 2 ^ 63) && decide ([d].length * z.toNat≤sizeLine))=true:=by
  simp only[Bool.and_eq_true,decide_eq_true_eq];exact⟨⟨by omega,by omega⟩,e⟩
 unfold lRep
 simp only
 rw[if_pos c]
 simp
theorem zca{g:D→D→Option (List D)}{Fa Fb:FE}{δ:Sl}{s s1 s2:Sx}{a b:D}{xs:List D}(h:Fa δ s=some (a,s1))(h':Fb δ s1=some (b,s2))(e:g a b=some xs):o2 g Fa Fb δ s=some (xs,s2):=by
 unfold o2;rw[h];simp only[Option.bind_some,h',Option.map_some,e]
theorem z1a{i:Nat}{F:FO}{δ:Sl}{s s1:Sx}{xs:List D}(h:F δ s=some (xs,s1)):sSetO i F δ s=some (.next (δ.set i (.own xs)),s1):=by
 unfold sSetO;rw[h];rfl
theorem z1n{FL:FA}{δ:Sl}{s s1:Sx}{ds:List D}(h:FL δ s=some (ds,s1))(hs:small ds=true):eLst FL δ s=some (.list ds,s1):=by
 unfold eLst;rw[h];simp only[Option.bind_some,hs,if_true]
theorem zd4{n:Nat}{d:D}(h:n≤1000):lRep (.list [d]) (.int (n:Int))=some (List.replicate n d):=by
 have r:=za9 (z:=(n:Int)) (d:=d) (Int.natCast_nonneg _) (by omega)
 rwa [Int.toNat_natCast]at r
theorem z4P{i:Nat}{F:FE}{δ:Sl}{s s1:Sx}{v:D}{xs:List D}(h:F δ s=some (v,s1))(hi:δ[i]?=some (.own xs))(hl:xs.length < 1000):sApp i F δ s=some (.next (δ.set i (.own (xs++[v]))),s1):=by
 unfold sApp
 rw[h]
 simp only[Option.bind_some,hi]
 rw[if_pos (decide_eq_true (Nat.lt_of_lt_of_le hl (by decide)))]
theorem z78{F:FE}{δ:Sl}{s s':Sx}{z:Int}(e:F δ s=some (.int z,s'))(h0:0≤z)(h1:z≤1000):iRange1 F δ s=some (rng 0 z.toNat,s'):=by
 have r1:=z8f h0 h1
 unfold iRange1
 rw[e]
 simp only[Option.bind_some,r1,if_true]
theorem zT{F:FE}{δ:Sl}{s s':Sx}{n:Nat}(e:F δ s=some (.int (n:Int),s'))(h1:n≤1000):iRange1 F δ s=some (rng 0 n,s'):=by
 have:=z78 e (Int.natCast_nonneg _) (by omega)
 rwa [Int.toNat_natCast]at this
theorem z1b(n:Nat):(rng 0 n).length=n:=by simp[rng]
theorem ze{g:GF}{FL:FA}{δ:Sl}{s s1:Sx}{ds:List D}{r:Option (D × Sx)}(h:FL δ s=some (ds,s1))(e:g ds s1=r):fCall g FL δ s=r:=by
 unfold fCall;rw[h];exact e
theorem z09{n m:Nat}{G:GS}{ds:List D}{s s':Sx}{d:D}(hl:ds.length=n)(h:G (ds.map .val++List.replicate m .non) s=some (.ret d,s')):mkFn n m G ds s=some (d,s'):=by
 unfold mkFn;rw[if_pos hl,h]
theorem catL{a b:List D}(h:a.length + b.length≤1000):gAdd (.list a) (.list b)=some (.list (a++b)):=by
 have sm:small (a++b)=true:=zJ (by rw[List.length_append];exact h)
 simp[gAdd,gAddI,gI,gCatL,sm]
theorem z4Q{FL:FA}{δ:Sl}{s s1:Sx}{ds:List D}(h:FL δ s=some (ds,s1))(hs:small ds=true):oLst FL δ s=some (ds,s1):=by
 unfold oLst;rw[h];simp only[Option.bind_some,hs,if_true]
theorem z8g{m:Nat}{d:D}(h:m≤1000):gMulA (.list [d]) (.int (m:Int))=some (.list (List.replicate m d)):=by
 simp only[gMulA,gMulI,gI,zd4 h,Option.map_some,Option.none_or]
theorem z0h(j:Nat):gAdd (.int (j:Int)) (.int 1)=some (.int ((j + 1:Nat):Int)):=by simp[gAdd,gAddI,gI]
theorem zd5{n:Nat}(h:1≤n):gSubI (.int (n:Int)) (.int 1)=some (.int ((n - 1:Nat):Int)):=by
 simp only[gSubI,gI,if_true];congr 2;omega
theorem z5I{Ft:FT}{G1 G2:GS}{δ:Sl}{s s':Sx}{r:Option (Out × Sx)}(h:Ft δ s=some (true,s'))(g:G1 δ s'=r):sIf Ft G1 G2 δ s=r:=by
 unfold sIf;rw[h];exact g
theorem zaa{Ft:FT}{G1 G2:GS}{δ:Sl}{s s':Sx}{r:Option (Out × Sx)}(h:Ft δ s=some (false,s'))(g:G2 δ s'=r):sIf Ft G1 G2 δ s=r:=by
 unfold sIf;rw[h];exact g
theorem z7Q{n:Nat}{s:Sx}{M:Int}(h:Good (n + 1) s)(h1:0 < M)(h2:M≤1000):∃ r s',z9 [.dict [],.int M] s=some (.int r,s')∧0≤r∧r < M∧Good n s':=draw h M h1 (by omega)
theorem z0e{n m:Nat}{s:Sx}(h:Good (n + 1) s)(h1:0 < m)(h2:m≤1000):∃ (j:Nat) (s':Sx),z9 [.dict [],.int (m:Int)] s=some (.int (j:Int),s')∧j < m∧Good n s':=by
 obtain⟨r,s',e,r0,r1,g⟩:=z7Q (M:=(m:Int)) h (by omega) (by omega)
 obtain⟨j,hj⟩:∃ j:Nat,r=(j:Int):=⟨r.toNat,by omega⟩
 subst hj
 exact⟨j,s',e,by omega,g⟩
theorem zab{xs:List D}{j:Nat}{v:D}(h:j < xs.length):L3.putAt xs (.int (j:Int)) v=some (xs.set j v):=by
 unfold L3.putAt ixN
 dsimp only
 rw[if_pos (by omega),if_pos (by omega)]
 simp
theorem zd6{n m:Nat}{G:GS}{ds:List D}{s s':Sx}{xs:List D}(hl:ds.length=n)(h:G (ds.map .val++List.replicate m .non) s=some (.own xs,s')):mkFnC n m G ds s=some (.own xs,s'):=by
 unfold mkFnC;rw[if_pos hl,h]
theorem zac{i:Nat}{F:FC}{δ:Sl}{s s1:Sx}{xs:List D}(h:F δ s=some (.own xs,s1)):sSetC i F δ s=some (.next (δ.set i (.own xs)),s1):=by
 unfold sSetC;rw[h];rfl
theorem z94{g:GC}{FL:FA}{δ:Sl}{s s1:Sx}{ds:List D}{r:Option (Ce × Sx)}(h:FL δ s=some (ds,s1))(e:g ds s1=r):fCallC g FL δ s=r:=by
 unfold fCallC;rw[h];exact e
theorem zd7{g:GC}{ds xs:List D}{s s1:Sx}(h:g ds s=some (.own xs,s1)):gOf g ds s=some (.list xs,s1):=by
 unfold gOf;rw[h];rfl
theorem z5s{T:Tgt}{G:GS}{d:D}{ds:List D}{δ δ1 δ2:Sl}{s s1:Sx}{r:Option (Out × Sx)}(h:T.run d δ=some δ1)(g:G δ1 s=some (.next δ2,s1))(w:forD T G ds δ2 s1=r):forD T G (d::ds) δ s=r:=by
 show((T.run d δ).bind fun δ1=>_)=_
 rw[h]
 simp only[Option.bind_some,g]
 exact w
theorem zad{m:Nat}:∀ d∈rng 0 m,∃ j:Nat,d=.int (j:Int)∧j < m:=fun d hd=>by
 obtain⟨j,hj⟩:=List.getElem?_of_mem hd
 obtain⟨h,rfl⟩:=z6h hj
 exact⟨j,rfl,h⟩
theorem z0p{Ft:FT}{G:GS}{δ δ':Sl}{s s':Sx}{k:Nat}{r:Option (Out × Sx)}(h:Ft δ s=some (true,s))(g:G δ s=some (.next δ',s'))(w:whileN Ft G k δ' s'=r):whileN Ft G (k + 1) δ s=r:=by
 rw[whileN.eq_2,h]
 simp only[Option.bind_some,if_true,g]
 exact w
theorem zR{Ft:FT}{G:GS}{δ:Sl}{s:Sx}{k:Nat}(h:Ft δ s=some (false,s)):whileN Ft G (k + 1) δ s=some (.next δ,s):=by
 rw[whileN.eq_2,h];rfl
theorem z0q{FL:FA}{δ:Sl}{s s1:Sx}{ds:List D}(h:FL δ s=some (ds,s1))(hs:small ds=true):eTup FL δ s=some (.tuple ds,s1):=by
 unfold eTup;rw[h];simp only[Option.bind_some,hs,if_true]
theorem zbn(i:Int):gNe (.int i) (.int i)=some (.bool false):=by rw[z7J];simp
theorem z5t{Ga Gb:FT}{δ:Sl}{s s1:Sx}{r:Option (Bool × Sx)}(h:Ga δ s=some (false,s1))(g:Gb δ s1=r):tOrF Ga Gb δ s=r:=by
 unfold tOrF;rw[h];exact g
theorem z3H{Ga Gb:FT}{δ:Sl}{s s1:Sx}{r:Option (Bool × Sx)}(h:Ga δ s=some (true,s1))(g:Gb δ s1=r):tAndF Ga Gb δ s=r:=by
 unfold tAndF;rw[h];exact g
theorem z31{Ga:FT}{δ:Sl}{s s1:Sx}{b:Bool}(h:Ga δ s=some (b,s1)):tNotF Ga δ s=some (!b,s1):=by
 unfold tNotF;rw[h];rfl
theorem z6s{F:FE}{δ:Sl}{s s1:Sx}{b:Bool}(h:F δ s=some (.bool b,s1)):asT F δ s=some (b,s1):=by
 unfold asT;rw[h];rfl
theorem z0j{F:FE}{δ:Sl}{s s1:Sx}{b:Bool}(h:F δ s=some (.bool b,s1)):asB F δ s=some (b,s1):=by
 unfold asB;rw[h];rfl
theorem zd8{g g':G2}{Fa Fb Fc:FE}{δ:Sl}{s s1 s2 s3:Sx}{a b c d:D}(h1:Fa δ s=some (a,s1))(h2:Fb δ s1=some (b,s2))(h3:g a b=some (.bool true))(h4:Fc δ s2=some (c,s3))(h5:g' b c=some d):fChain g g' Fa Fb Fc δ s=some (d,s3):=by
 unfold fChain
 rw[h1]
 simp only[Option.bind_some]
 rw[h2]
 simp only[Option.bind_some,h3,h4,h5,Option.map_some]
structure InvI(p a h l f n:Int):Prop where
 l0:0≤l
 lh:l < h
 hp:h≤p
 sg:∃ e:Int,(e=1∨e=-1)∧0≤n * e∧f * e≤0∧(n * e) * h - (f * e) * l=p
 cf:∃ k:Int,f * a=h + k * p
 cn:∃ k:Int,n * a=l + k * p
 gc:Int.gcd h l=Int.gcd p a
theorem InvI.step{p a h l f n:Int}(I:InvI p a h l f n)(hl:0 < l):InvI p a l (h - h.fdiv l * l) n (f - h.fdiv l * n) where
 l0:=by
  rw[Int.fdiv_eq_ediv_of_nonneg _ (by omega)]
  have:=Int.emod_nonneg h (show l≠0 by omega)
  rw[Int.emod_def,Int.mul_comm]at this
  omega
 lh:=by
  rw[Int.fdiv_eq_ediv_of_nonneg _ (by omega)]
  have:=Int.emod_lt_of_pos h hl
  rw[Int.emod_def,Int.mul_comm]at this
  omega
 hp:=by have:=I.lh;have:=I.hp;omega
 sg:=by
  obtain⟨e,he,h1,h2,h3⟩:=I.sg
  have q0:0≤h.fdiv l:=by
   rw[Int.fdiv_eq_ediv_of_nonneg _ (by omega)]
   exact Int.ediv_nonneg (by have:=I.lh;omega) (by omega)
  generalize h.fdiv l=q at q0
  have hq:0≤q * (n * e):=Int.mul_nonneg q0 h1
  refine⟨-e,by omega,?_,?_,?_⟩
  ·have:(f - q * n) * -e=-(f * e) + q * (n * e):=by grind
   omega
  ·have:n * -e=-(n * e):=by grind
   omega
  ·rw[← h3];grind
 cf:=I.cn
 cn:=by
  obtain⟨k1,h1⟩:=I.cf
  obtain⟨k2,h2⟩:=I.cn
  generalize h.fdiv l=q
  refine⟨k1 - q * k2,?_⟩
  have:(f - q * n) * a=f * a - q * (n * a):=by grind
  rw[this,h1,h2];grind
 gc:=by
  rw[← I.gc,Int.gcd_comm h l,Int.sub_eq_add_neg,← Int.neg_mul,Int.gcd_add_mul_right_right]
theorem InvI.nb{p a h l f n:Int}(I:InvI p a h l f n)(hl:0 < l):n.natAbs≤p.natAbs:=by
 obtain⟨e,he,h1,h2,h3⟩:=I.sg
 have hh:1≤h:=by have:=I.lh;omega
 have t2:(f * e) * l≤0:=Int.mul_nonpos_of_nonpos_of_nonneg h2 (by omega)
 have t1:(n * e) * 1≤(n * e) * h:=Int.mul_le_mul_of_nonneg_left hh h1
 rcases he with rfl | rfl <;> omega
theorem zbo{p a:Int}(hp:p≤1000):∀ (k:Nat) (h l f n:Int) (c6:Ce),l.toNat≤k→InvI p a h l f n →
  ∃ (h' f' n':Int) (c6':Ce),(∀ s,whileN (asT (fVar 3)) (sSeq (sSet 6 (f2 gDivI (fVar 2) (fVar 3))) (sSeq (sPar 2 3 (aCons (fVar 3) (aCons (f2 gSubI (fVar 2) (f2 gMulI (fVar 6) (fVar 3))) aNil))) (sPar 4 5 (aCons (fVar 5) (aCons (f2 gSubI (fVar 4) (f2 gMulI (fVar 6) (fVar 5))) aNil))))) (k + 1)
   [.val (.int p),.val (.int a),.val (.int h),.val (.int l),.val (.int f),.val (.int n),c6] s=some (.next [.val (.int p),.val (.int a),.val (.int h'),.val (.int 0),.val (.int f'),.val (.int n'),c6'],s))∧InvI p a h' 0 f' n':=by
 have test:∀ (h l f n:Int) (c6:Ce) (s:Sx),asT (fVar 3) [.val (.int p),.val (.int a),.val (.int h),.val (.int l),.val (.int f),.val (.int n),c6] s=some (l != 0,s):=fun h l f n c6 s=>rfl
 intro k
 induction k with
 | zero =>
  intro h l f n c6 hk I
  have:l=0:=by have:=I.l0;omega
  subst this
  exact⟨h,f,n,c6,fun s=>zR (test _ _ _ _ _ s),I⟩
 | succ k ih =>
  intro h l f n c6 hk I
  by_cases hl:l=0
  ·subst hl
   exact⟨h,f,n,c6,fun s=>zR (test _ _ _ _ _ s),I⟩
  ·have l0:0 < l:=by have:=I.l0;omega
   have I2:=I.step l0
   have d:=I2.lh
   have hq:(h.fdiv l).natAbs≤1000:=Nat.le_trans (PySem.natAbs_fdiv_le h l) (by have:=I.lh;have:=I.hp;omega)
   have hn:=I.nb l0
   have bq:Bt 10 (h.fdiv l):=Nat.lt_of_le_of_lt hq (by decide)
   have bl:Bt 10 l:=Nat.lt_of_le_of_lt (show l.natAbs≤1000 by have:=I.lh;have:=I.hp;omega) (by decide)
   have bn:Bt 10 n:=Nat.lt_of_le_of_lt (show n.natAbs≤1000 by have:=I.lh;have:=I.hp;omega) (by decide)
   have m1:mulOk (h.fdiv l) l=true:=bq.ok bl (by decide)
   have m2:mulOk (h.fdiv l) n=true:=bq.ok bn (by decide)
   have dv:divOk h l=true:=bl.div hl (by decide)
   obtain⟨h',f',n',c6',e,I'⟩:=ih l (h - h.fdiv l * l) n (f - h.fdiv l * n) (.val (.int (h.fdiv l))) (by have:=I2.l0;omega) I2
   refine⟨h',f',n',c6',fun s=>z0p (by rw[test];simp[hl]) ?_ (e s),I'⟩
   have a1:sSet 6 (f2 gDivI (fVar 2) (fVar 3)) [.val (.int p),.val (.int a),.val (.int h),.val (.int l),.val (.int f),.val (.int n),c6] s=some (.next [.val (.int p),.val (.int a),.val (.int h),.val (.int l),.val (.int f),.val (.int n),.val (.int (h.fdiv l))],s):=zu (z8 (a:=.int h) (b:=.int l) rfl rfl (by simp only[gDivI,gI,dv,if_true]))
   have a2:sPar 2 3 (aCons (fVar 3) (aCons (f2 gSubI (fVar 2) (f2 gMulI (fVar 6) (fVar 3))) aNil)) [.val (.int p),.val (.int a),.val (.int h),.val (.int l),.val (.int f),.val (.int n),.val (.int (h.fdiv l))] s=some (.next [.val (.int p),.val (.int a),.val (.int l),.val (.int (h - h.fdiv l * l)),.val (.int f),.val (.int n),.val (.int (h.fdiv l))],s):=by
    unfold sPar
    rw[z7 (F:=fVar 3) rfl (z7 (FL:=aNil) (z8 (a:=.int h) (b:=.int (h.fdiv l * l)) (d:=.int (h - h.fdiv l * l)) rfl (z8 (a:=.int (h.fdiv l)) (b:=.int l) rfl rfl (by simp only[gMulI,gI,m1,if_true])) (by simp only[gSubI,gI,if_true])) rfl)]
    rfl
   have a3:sPar 4 5 (aCons (fVar 5) (aCons (f2 gSubI (fVar 4) (f2 gMulI (fVar 6) (fVar 5))) aNil)) [.val (.int p),.val (.int a),.val (.int l),.val (.int (h - h.fdiv l * l)),.val (.int f),.val (.int n),.val (.int (h.fdiv l))] s=some (.next [.val (.int p),.val (.int a),.val (.int l),.val (.int (h - h.fdiv l * l)),.val (.int n),.val (.int (f - h.fdiv l * n)),.val (.int (h.fdiv l))],s):=by
    unfold sPar
    rw[z7 (F:=fVar 5) rfl (z7 (FL:=aNil) (z8 (a:=.int f) (b:=.int (h.fdiv l * n)) (d:=.int (f - h.fdiv l * n)) rfl (z8 (a:=.int (h.fdiv l)) (b:=.int n) rfl rfl (by simp only[gMulI,gI,m2,if_true])) (by simp only[gSubI,gI,if_true])) rfl)]
    rfl
   rw[zF a1,zF a2,a3]
theorem z41(x p:Int)(h:0 < p):0≤x.fmod p∧x.fmod p < p∧∃ k:Int,x.fmod p=x + k * p:=by
 rw[Int.fmod_eq_emod_of_nonneg _ (by omega)]
 exact⟨Int.emod_nonneg _ (by omega),Int.emod_lt_of_pos _ h,-(x / p),by rw[Int.emod_def,Int.mul_comm,Int.neg_mul];omega⟩
theorem z7R{p a:Int}(hp:p≤1000)(h0:0 < a)(h1:a < p)(hg:Int.gcd p a=1) :
  ∃ r:Int,(∀ s,z1s [.int p,.int a] s=some (.int r,s))∧0≤r∧r < p∧∃ k:Int,r * a=1 + k * p:=by
 have I0:InvI p a p a 0 1:=⟨by omega,h1,Int.le_refl _,⟨1,.inl rfl,by decide,by decide,by omega⟩,⟨-1,by omega⟩,⟨0,by omega⟩,rfl⟩
 obtain⟨h',f',n',c6',e,I'⟩:=zbo hp a.toNat p a 0 1 .non (Nat.le_refl _) I0
 have h1':h'=1:=by
  have h:=I'.gc
  rw[hg,Int.gcd_zero_right]at h
  have:=I'.lh
  omega
 subst h1'
 obtain⟨m0,m1,k1,m2⟩:=z41 f' p (by omega)
 obtain⟨k2,h2⟩:=I'.cf
 refine⟨f'.fmod p,fun s=>z09 (n:=2) (m:=5) (G:=z21) rfl ?_,m0,m1,k2 + k1 * a,?_⟩
 ·show z21 [.val (.int p),.val (.int a),.non,.non,.non,.non,.non] s=_
  have a1:sPar 2 3 (aCons (fVar 0) (aCons (fVar 1) aNil)) [.val (.int p),.val (.int a),.non,.non,.non,.non,.non] s=some (.next [.val (.int p),.val (.int a),.val (.int p),.val (.int a),.non,.non,.non],s):=rfl
  have a2:sUnp (.tup [4,5]) (eTup (aCons (fC (.int 0)) (aCons (fC (.int 1)) aNil))) [.val (.int p),.val (.int a),.val (.int p),.val (.int a),.non,.non,.non] s=some (.next [.val (.int p),.val (.int a),.val (.int p),.val (.int a),.val (.int 0),.val (.int 1),.non],s):=by
   unfold sUnp
   rw[z0q (ds:=[.int 0,.int 1]) rfl (small2 _ _)];rfl
  have a3:z3m [.val (.int p),.val (.int a),.val (.int p),.val (.int a),.val (.int 0),.val (.int 1),.non] s=_:=zZ (e s) (by unfold fuel;omega)
  unfold z21
  rw[zF a1,zF a2,zF a3]
  unfold sRet
  exact congrArg (Option.map _) (z8 (a:=.int f') (b:=.int p) rfl rfl (by simp only[gModI,gI,decide_eq_true (show p≠0 by omega),if_true]))
 ·rw[m2,Int.add_mul,h2];grind
theorem z95:∀ p∈([2,3,5,7,11,13,101,997]:List Nat),∀ a:Fin 1000,0 < a.val→a.val < p→Nat.gcd p a.val=1:=by decide +kernel
def Prm(p:Int):Prop:=∃ n∈([2,3,5,7,11,13,101,997]:List Nat),p=(n:Int)
theorem Prm.two{p:Int}(h:Prm p):2≤p∧p≤997:=by
 obtain⟨n,hn,rfl⟩:=h
 simp only[List.mem_cons,List.not_mem_nil,or_false]at hn
 omega
theorem Prm.gcd{p a:Int}(h:Prm p)(h0:0 < a)(h1:a < p):Int.gcd p a=1:=by
 have ht:=h.two
 obtain⟨n,hn,rfl⟩:=h
 have:=z95 n hn ⟨a.toNat,by omega⟩ (by show 0 < a.toNat;omega) (by show a.toNat < n;omega)
 unfold Int.gcd
 rw[show a.natAbs=a.toNat by omega]
 exact this
theorem Prm.dvd{p x b:Int}(h:Prm p)(hx:p∣x * b)(hb:¬ p∣b):p∣x:=by
 have ht:=h.two
 have hm:0 < b % p:=by
  have h1:=Int.emod_nonneg b (show p≠0 by omega)
  have:b % p≠0:=fun z=>hb (Int.dvd_of_emod_eq_zero z)
  omega
 have hg:Int.gcd p (b % p)=1:=h.gcd hm (Int.emod_lt_of_pos _ (by omega))
 have hg2:Nat.Coprime p.natAbs b.natAbs:=by
  rw[Int.emod_def,Int.gcd_sub_mul_left_right]at hg
  exact hg
 have hx2:p.natAbs∣x.natAbs * b.natAbs:=by rw[← Int.natAbs_mul];exact Int.natAbs_dvd_natAbs.mpr hx
 exact Int.natAbs_dvd_natAbs.mp (Nat.Coprime.dvd_of_dvd_mul_right hg2 hx2)
def zc(l:List Int)(k:Nat):Int:=l.getD k 0
theorem zbp{l:List Int}{k:Nat}(h:k < l.length):zc l k=l[k]:=by unfold zc;rw[List.getD_eq_getElem?_getD,List.getElem?_eq_getElem h];rfl
theorem z0N{l:List Int}{k:Nat}(h:l.length≤k):zc l k=0:=by unfold zc;rw[List.getD_eq_getElem?_getD,List.getElem?_eq_none h];rfl
theorem z5Z{l:List Int}{k:Nat}(h:k < l.length):(l.map PyData.int)[k]?=some (.int (zc l k)):=by rw[zbp h,List.getElem?_map,List.getElem?_eq_getElem h];rfl
theorem z79{l:List Int}{j k:Nat}{v:Int}(h:j < l.length):zc (l.set j v) k=if k=j then v else zc l k:=by
 unfold zc
 rw[List.getD_eq_getElem?_getD,List.getD_eq_getElem?_getD,List.getElem?_set]
 by_cases hk:j=k
 ·subst hk;rw[if_pos rfl,if_pos h,if_pos rfl];rfl
 ·rw[if_neg hk,if_neg (Ne.symm hk)]
def Rs(p:Int)(l:List Int):Prop:=∀ x∈l,0≤x∧x < p
theorem Rs.zc{p:Int}{l:List Int}(h:Rs p l)(hp:0 < p)(k:Nat):0≤zc l k∧zc l k < p:=by
 by_cases hk:k < l.length
 ·rw[zbp hk];exact h _ (List.getElem_mem hk)
 ·rw[z0N (by omega)];omega
theorem Rs.set{p:Int}{l:List Int}{j:Nat}{v:Int}(h:Rs p l)(h0:0≤v)(h1:v < p):Rs p (l.set j v):=fun x hx=>by
 rcases List.mem_or_eq_of_mem_set hx with hx | rfl
 ·exact h x hx
 ·exact⟨h0,h1⟩
def fieldP(p:Int):D:=.dict [(.str "",.str "PrimeField"),(.str "prime",.int p),(.str "nought",.int 0),(.str "unit",.int 1)]
theorem fldN(p:Int):gFld ["PrimeField"] "nought" (fieldP p)=some (.int 0):=by
 simp[gFld,fieldP,lookF]
 intro h
 exact absurd h (by decide)
theorem fldP(p:Int):gFld ["PrimeField"] "prime" (fieldP p)=some (.int p):=by simp[gFld,fieldP,lookF]
theorem makeP{F:FE}{δ:Sl}{s:Sx}{p:Int}(h:F δ s=some (.int p,s)):fMake "PrimeField" ["prime","nought","unit"] z0n (aCons F aNil) δ s=some (fieldP p,s):=by
 unfold fMake
 rw[z7 (FL:=aNil) h rfl];rfl
theorem methP{p:Int}{m:Str}{g:GF}{Fo:FE}{FL:FA}{δ:Sl}{s s1:Sx}{ds:List D}{r:Option (D × Sx)}(h0:Fo δ s=some (fieldP p,s))(h1:FL δ s=some (ds,s1))(e:g (fieldP p::ds) s1=r)
  (hm:lookF m [(.str "prime",.int p),(.str "nought",.int 0),(.str "unit",.int 1)]=none):fMeth [("PrimeField",g)] m Fo FL δ s=r:=by
 unfold fMeth
 rw[h0]
 simp only[Option.bind_some,fieldP]
 rw[if_pos (by rw[hm];rfl)]
 simp only[List.lookup,beq_self_eq_true,Option.bind_some,h1]
 exact e
theorem z4C{p:Int}(h:0 < p)(x:Int):gModI (.int x) (.int p)=some (.int (x.fmod p)):=by simp only[gModI,gI,decide_eq_true (show p≠0 by omega),if_true]
theorem subP{p a b:Int}(s:Sx)(h:0 < p):zt [fieldP p,.int a,.int b] s=some (.int ((a - b).fmod p),s):=by
 refine z09 (n:=3) (m:=0) (G:=z06) rfl ?_
 show z06 [.val (fieldP p),.val (.int a),.val (.int b)] s=_
 unfold z06 sRet
 exact congrArg (Option.map _) (z8 (a:=.int (a - b)) (b:=.int p) (z8 (a:=.int a) (b:=.int b) rfl rfl (by simp only[gSubI,gI,if_true])) (zB (a:=fieldP p) rfl (fldP p)) (z4C h _))
theorem bt10{p a:Int}(hp:p≤1000)(h:0≤a∧a < p):Bt 10 a:=Nat.lt_of_lt_of_le (show a.natAbs < 1000 by omega) (by decide)
theorem mulP{p a b:Int}(s:Sx)(h:0 < p)(hp:p≤1000)(ha:0≤a∧a < p)(hb:0≤b∧b < p):zg [fieldP p,.int a,.int b] s=some (.int ((a * b).fmod p),s):=by
 have mk:mulOk a b=true:=(bt10 hp ha).ok (bt10 hp hb) (by decide)
 refine z09 (n:=3) (m:=0) (G:=zX) rfl ?_
 show zX [.val (fieldP p),.val (.int a),.val (.int b)] s=_
 unfold zX sRet
 exact congrArg (Option.map _) (z8 (a:=.int (a * b)) (b:=.int p) (z8 (a:=.int a) (b:=.int b) rfl rfl (by simp only[gMulI,gI,mk,if_true])) (zB (a:=fieldP p) rfl (fldP p)) (z4C h _))
theorem divP{p a b:Int}(hp:Prm p)(ha:0≤a∧a < p)(hb:0 < b∧b < p):∃ q:Int,(∀ s,zf [fieldP p,.int a,.int b] s=some (.int q,s))∧(0≤q∧q < p)∧p∣q * b - a:=by
 have ht:=hp.two
 obtain⟨v,ev,v0,v1,k1,hv⟩:=z7R (p:=p) (by omega) hb.1 hb.2 (hp.gcd hb.1 hb.2)
 obtain⟨n0,n1,k2,n2⟩:=z41 (a * v) p (by omega)
 have mk:mulOk a v=true:=(bt10 (by omega) ha).ok (bt10 (p:=p) (by omega) ⟨v0,v1⟩) (by decide)
 refine⟨(a * v).fmod p,fun s=>z09 (n:=3) (m:=0) (G:=z0d) rfl ?_,⟨n0,n1⟩,a * k1 + k2 * b,?_⟩
 ·show z0d [.val (fieldP p),.val (.int a),.val (.int b)] s=_
  unfold z0d sRet
  exact congrArg (Option.map _) (z8 (a:=.int (a * v)) (b:=.int p) (z8 (a:=.int a) (b:=.int v) rfl (ze (ds:=[.int p,.int b]) (z7 (zB (a:=fieldP p) rfl (fldP p)) (z7 (F:=fVar 2) (FL:=aNil) rfl rfl)) (ev s)) (by simp only[gMulI,gI,mk,if_true])) (zB (a:=fieldP p) rfl (fldP p)) (z4C (by omega) _))
 ·rw[n2,show(a * v + k2 * p) * b - a=a * (v * b) + k2 * p * b - a by grind,hv];grind
def tzn(l:List Int):Nat→Nat
 | 0=>0
 | n + 1=>if zc l n=0 then tzn l n else n + 1
def tz(l:List Int):List Int:=l.take (tzn l l.length)
theorem z7a(l:List Int):∀ n,tzn l n≤n
 | 0=>Nat.le_refl _
 | n + 1=>by
  unfold tzn
  split
  ·exact Nat.le_succ_of_le (z7a l n)
  ·exact Nat.le_refl _
theorem z8h(l:List Int):∀ n k,tzn l n≤k→k < n→zc l k=0
 | 0,k,_,h=>absurd h (Nat.not_lt_zero _)
 | n + 1,k,h1,h2=>by
  unfold tzn at h1
  split at h1
  ·rename_i hz
   by_cases hk:k=n
   ·subst hk;exact hz
   ·exact z8h l n k h1 (by omega)
  ·omega
theorem z8i(l:List Int):∀ n,0 < tzn l n→zc l (tzn l n - 1)≠0
 | 0,h=>absurd h (Nat.lt_irrefl _)
 | n + 1,h=>by
  by_cases hz:zc l n=0
  ·rw[tzn,if_pos hz]at h ⊢
   exact z8i l n h
  ·rw[tzn,if_neg hz]
   exact hz
theorem zbq(l:List Int)(k:Nat):zc (tz l) k=zc l k:=by
 unfold tz
 have hle:=z7a l l.length
 by_cases h:k < tzn l l.length
 ·unfold zc
  rw[List.getD_eq_getElem?_getD,List.getD_eq_getElem?_getD,List.getElem?_take,if_pos h]
 ·rw[z0N (by rw[List.length_take];omega)]
  by_cases hk:k < l.length
  ·exact(z8h l _ k (by omega) hk).symm
  ·exact(z0N (by omega)).symm
theorem zae(l:List Int):(tz l).length=tzn l l.length:=by unfold tz;rw[List.length_take];exact Nat.min_eq_left (z7a l _)
theorem zaf(l:List Int):(tz l).length≤l.length:=by rw[zae];exact z7a l _
theorem z5u{l:List Int}(h:0 < (tz l).length):zc (tz l) ((tz l).length - 1)≠0:=by
 rw[zbq,zae]
 rw[zae]at h
 exact z8i l _ h
theorem Rs.tz{p:Int}{l:List Int}(h:Rs p l):Rs p (tz l):=fun x hx=>h x (List.mem_of_mem_take hx)
theorem z0x{d:D}{l:List Int}{k:Nat}(h:seqOf d=some (l.map .int))(hk:k < l.length):gIx d (.int (k:Int))=some (.int (zc l k)):=by
 rw[ix_seq h]
 exact L3.atI_nat (z5Z hk)
theorem z7b{row:D}{l:List Int}(s:Sx)(hl:seqOf row=some (l.map .int))(hb:l.length≤1000):z2Y [.int 0,row] s=some (.tuple ((tz l).map .int),s):=by
 have loop:∀ k:Nat,k≤l.length→whileN (tAndF (asB (f2 gGt (fVar 2) (fC (.int 0)))) (asB (f2 gEq (f2 gIx (fVar 1) (f2 gSubI (fVar 2) (fC (.int 1)))) (fVar 0)))) (sAug 2 gSubI (fC (.int 1))) (k + 1) [.val (.int 0),.val row,.val (.int (k:Int))] s=some (.next [.val (.int 0),.val row,.val (.int (tzn l k:Int))],s):=by
  intro k
  induction k with
  | zero=>intro _;exact zR rfl
  | succ k ih =>
   intro hk
   have t1:tAndF (asB (f2 gGt (fVar 2) (fC (.int 0)))) (asB (f2 gEq (f2 gIx (fVar 1) (f2 gSubI (fVar 2) (fC (.int 1)))) (fVar 0))) [.val (.int 0),.val row,.val (.int ((k + 1:Nat):Int))] s=some (decide (zc l k=0),s) :=
    z3H (z0j (b:=true) (z8 (a:=.int ((k + 1:Nat):Int)) (b:=.int 0) rfl rfl (by simp only[gGt,gI,if_true,decide_eq_true (show(0:Int) < ((k + 1:Nat):Int) by omega)]))) (z0j (z8 (a:=.int (zc l k)) (b:=.int 0) (z8 (a:=row) (b:=.int (k:Int)) rfl (z8 (a:=.int ((k + 1:Nat):Int)) (b:=.int 1) rfl rfl (by rw[show(k:Int)=((k + 1:Nat):Int) - 1 by omega];simp only[gSubI,gI,if_true])) (z0x hl (by omega))) rfl (z1d _ _)))
   by_cases hz:zc l k=0
   ·rw[decide_eq_true hz]at t1
    rw[tzn,if_pos hz]
    refine z0p t1 ?_ (ih (by omega))
    unfold sAug
    show some (Out.next [.val (.int 0),.val row,.val (.int (((k + 1:Nat):Int) - 1))],s)=_
    rw[show((k + 1:Nat):Int) - 1=(k:Int) by omega]
   ·rw[decide_eq_false hz]at t1
    rw[tzn,if_neg hz]
    exact zR t1
 refine z09 (n:=2) (m:=1) (G:=z3V) rfl ?_
 show z3V [.val (.int 0),.val row,.non] s=_
 have e1:sSet 2 (f1 gLen (fVar 1)) [.val (.int 0),.val row,.non] s=some (.next [.val (.int 0),.val row,.val (.int (l.length:Int))],s):=zu (zB (a:=row) rfl (by rw[z0Y hl,List.length_map]))
 have e2:z5f [.val (.int 0),.val row,.val (.int (l.length:Int))] s=some (.next [.val (.int 0),.val row,.val (.int (tzn l l.length:Int))],s):=zZ (loop l.length (Nat.le_refl _)) (by unfold fuel;omega)
 have hc:L3.cutD (l.map PyData.int) none (some (tzn l l.length:Int))=(tz l).map .int:=by
  unfold L3.cutD tz
  rw[HT.sIx_nat,HT.sIx_none,List.drop_zero,Nat.sub_zero,List.length_map,Nat.min_eq_left (z7a l _),List.map_take]
 obtain⟨d,e3,e4⟩:∃ d,gSlD row none (some (tzn l l.length:Int))=some d∧gTuple d=some (.tuple ((tz l).map .int)):=by
  cases row with
  | list xs=>cases hl;exact⟨.list ((tz l).map .int),by simp[gSlD,hc],rfl⟩
  | tuple xs=>cases hl;exact⟨.tuple ((tz l).map .int),by simp[gSlD,hc],rfl⟩
  | _=>cases hl
 unfold z3V
 rw[zF e1,zF e2]
 unfold sRet
 refine congrArg (Option.map _) (zB (a:=d) (s1:=s) ?_ e4)
 unfold fSl
 show((gSlD row none (some (tzn l l.length:Int))).map _)=_
 rw[e3];rfl
theorem addP{p a b:Int}(s:Sx)(h:0 < p):zx [fieldP p,.int a,.int b] s=some (.int ((a + b).fmod p),s):=by
 refine z09 (n:=3) (m:=0) (G:=z0y) rfl ?_
 show z0y [.val (fieldP p),.val (.int a),.val (.int b)] s=_
 unfold z0y sRet
 exact congrArg (Option.map _) (z8 (a:=.int (a + b)) (b:=.int p) (z8 (a:=.int a) (b:=.int b) rfl rfl (by simp[gAdd,gAddI,gI])) (zB (a:=fieldP p) rfl (fldP p)) (z4C h _))
def shz(s:Nat)(b:Nat→Int)(k:Nat):Int:=if s≤k then b (k - s) else 0
def cvz(a b:Nat→Int)(k:Nat):Nat→Int
 | 0=>0
 | n + 1=>cvz a b k n + a n * shz n b k
theorem zag{a b:Nat→Int}{k s:Nat}{w:Int}:∀ n,cvz (fun i=>if i=s then w else a i) b k n=cvz a b k n + (if s < n then (w - a s) * shz s b k else 0)
 | 0=>by simp[cvz]
 | n + 1=>by
  rw[cvz,cvz,zag n]
  by_cases h:n=s
  ·subst h
   rw[if_pos rfl,if_neg (Nat.lt_irrefl _),if_pos (Nat.lt_succ_self _)];grind
  ·rw[if_neg h]
   by_cases h2:s < n
   ·rw[if_pos h2,if_pos (by omega)];grind
   ·rw[if_neg h2,if_neg (by omega)];grind
theorem z6t{a b:Nat→Int}{k m:Nat}:∀ n,m≤n→(∀ i,m≤i→i < n→a i=0)→cvz a b k n=cvz a b k m
  | 0, h, _ => by have : m = 0 := by omega
                  rw[this]
  | n + 1,h,hz=>by
    by_cases hm:m=n + 1
    · rw[hm]
    · rw[cvz,hz n (by omega) (Nat.lt_succ_self _),Int.zero_mul,Int.add_zero]
      exact z6t n (by omega) fun i h1 h2=>hz i h1 (by omega)
theorem z5v{a a' b:Nat→Int}{k:Nat}:∀ n,(∀ i,i < n→a i=a' i)→cvz a b k n=cvz a' b k n
 | 0,_=>rfl
 | n + 1,h=>by rw[cvz,cvz,z5v n fun i hi=>h i (by omega),h n (Nat.lt_succ_self _)]
theorem z0T{p x:Int}(h0:0≤x)(h1:x < p)(h:p∣x):x=0:=by
 obtain⟨k,hk⟩:=h
 rcases Int.lt_trichotomy k 0 with h2 | h2 | h2
 ·have:=Int.mul_le_mul_of_nonneg_left (show k≤-1 by omega) (show 0≤p by omega)
  omega
 ·rw[h2]at hk;omega
 ·have:=Int.mul_le_mul_of_nonneg_left (show 1≤k by omega) (show 0≤p by omega)
  omega
theorem z0M{p x:Int}(h:0 < p):p∣x.fmod p - x:=by
 obtain⟨_,_,k,hk⟩:=z41 x p h
 exact⟨k,by rw[hk];grind⟩
theorem z1N{p x:Int}(h:0 < p):0≤x.fmod p∧x.fmod p < p:=⟨(z41 x p h).1,(z41 x p h).2.1⟩
theorem z42{l:List Int}{j:Nat}{v:Int}:(l.map PyData.int).set j (.int v)=(l.set j v).map .int:=by rw[List.map_set]
theorem ixw{l:List Int}{i j:Nat}{δ:Sl}{s:Sx}{F:FE}(hi:δ[i]?=some (.own (l.map .int)))(hF:F δ s=some (.int (j:Int),s))(hj:j < l.length):f2 gIx (fVarW i) F δ s=some (.int (zc l j),s) :=
 z8 (a:=.list (l.map .int)) (b:=.int (j:Int)) (by unfold fVarW;rw[hi]) hF (z0x (d:=.list (l.map .int)) rfl hj)
theorem zbr{F:FE}{δ:Sl}{s s':Sx}{z:Int}(e:F δ s=some (.int z,s'))(h0:0≤z)(h1:z≤1000):iRevRange F δ s=some (rngDn z.toNat,s'):=by
 have r1:=z8f h0 h1
 unfold iRevRange
 rw[e]
 simp only[Option.bind_some,r1,if_true]
theorem z6u{d:D}{l:List Int}(h:seqOf d=some (l.map .int))(h0:0 < l.length):gIx d (.int (-1))=some (.int (zc l (l.length - 1))):=by
 rw[ix_seq h]
 have e:=L3.atI_nat (z5Z (l:=l) (k:=l.length - 1) (by omega))
 unfold L2.atI ixN at e ⊢
 rw[List.length_map]at e ⊢
 rw[if_pos (by omega),if_pos (by omega)]at e
 rw[if_neg (by decide),if_pos (by omega)]
 simp only[Option.bind_some]at e ⊢
 rw[show(-1 + (l.length:Int)).toNat=(((l.length - 1:Nat):Int)).toNat by omega]
 exact e
theorem Prm.unit{p:Int}{l:List Int}{k:Nat}(hp:Prm p)(h:Rs p l)(h0:zc l k≠0):0 < zc l k∧zc l k < p∧¬ p∣zc l k:=by
 have ht:=hp.two
 have hz:=h.zc (by omega) k
 exact⟨by omega,hz.2,fun z=>h0 (z0T hz.1 hz.2 z)⟩
def DvF(p:Int)(g f:Nat→Int):Prop:=∃ (N:Nat) (q:Nat→Int),∀ k,p∣f k - cvz q g k N
theorem z6v{a a' b:Nat→Int}{k:Nat}:∀ n,cvz (fun i=>a i + a' i) b k n=cvz a b k n + cvz a' b k n
 | 0=>rfl
 | n + 1=>by rw[cvz,cvz,cvz,z6v n];grind
theorem z2t{a b:Nat→Int}{k:Nat}{w:Int}:∀ n,cvz (fun i=>w * a i) b k n=w * cvz a b k n
 | 0=>by rw[cvz,cvz,Int.mul_zero]
 | n + 1=>by rw[cvz,cvz,z2t n];grind
theorem z32{a b:Nat→Int}{k n m:Nat}(h:n≤m):cvz (fun i=>if i < n then a i else 0) b k m=cvz a b k n:=by
 rw[z6t m h fun i h1 h2=>if_neg (by omega)]
 exact z5v n fun i hi=>if_pos hi
theorem z43{q g:Nat→Int}{s k:Nat}:∀ N,cvz (shz s q) g k (N + s)=shz s (fun k=>cvz q g k N) k
 | 0=>by
  have h0:cvz (shz s q) g k s=cvz (shz s q) g k 0:=z6t (m:=0) s (Nat.zero_le _) fun i _ h=>by unfold shz;rw[if_neg (by omega)]
  rw[Nat.zero_add,h0]
  unfold shz
  show(0:Int)=if s≤k then 0 else 0
  split <;> rfl
 | N + 1=>by
  rw[show N + 1 + s=N + s + 1 by omega,cvz,z43 N]
  have e:shz s q (N + s)=q N:=by unfold shz;rw[if_pos (by omega),Nat.add_sub_cancel]
  rw[e]
  show(if s≤k then cvz q g (k - s) N else 0) + q N * (if N + s≤k then g (k - (N + s)) else 0)=if s≤k then cvz q g (k - s) N + q N * (if N≤k - s then g (k - s - N) else 0) else 0
  by_cases h:s≤k
  ·rw[if_pos h,if_pos h]
   by_cases h2:N≤k - s
   ·rw[if_pos (by omega),if_pos h2,show k - (N + s)=k - s - N by omega]
   ·rw[if_neg (by omega),if_neg h2]
  ·rw[if_neg h,if_neg h,if_neg (by omega)];omega
theorem DvF.zero{p:Int}{g:Nat→Int}:DvF p g (fun _=>0):=⟨0,fun _=>0,fun k=>⟨0,by show(0:Int) - 0=p * 0;omega⟩⟩
theorem DvF.congr{p:Int}{g f f':Nat→Int}(h:DvF p g f)(e:∀ k,p∣f' k - f k):DvF p g f':=by
 obtain⟨N,q,h⟩:=h
 refine⟨N,q,fun k=>?_⟩
 obtain⟨a,ha⟩:=h k
 obtain⟨b,hb⟩:=e k
 exact⟨a + b,by grind⟩
theorem DvF.add{p:Int}{g f f':Nat→Int}(h:DvF p g f)(h':DvF p g f'):DvF p g (fun k=>f k + f' k):=by
 obtain⟨N,q,h⟩:=h
 obtain⟨M,r,h'⟩:=h'
 refine⟨N + M,fun i=>(if i < N then q i else 0) + (if i < M then r i else 0),fun k=>?_⟩
 rw[z6v,z32 (by omega),z32 (by omega)]
 obtain⟨a,ha⟩:=h k
 obtain⟨b,hb⟩:=h' k
 exact⟨a + b,by grind⟩
theorem DvF.shift{p w:Int}{g f:Nat→Int}(s:Nat)(h:DvF p g f):DvF p g (fun k=>w * shz s f k):=by
 obtain⟨N,q,h⟩:=h
 refine⟨N + s,fun i=>w * shz s q i,fun k=>?_⟩
 rw[z2t,z43]
 show p∣w * (if s≤k then f (k - s) else 0) - w * (if s≤k then cvz q g (k - s) N else 0)
 by_cases hk:s≤k
 ·rw[if_pos hk,if_pos hk]
  obtain⟨a,ha⟩:=h (k - s)
  exact⟨w * a,by grind⟩
 ·rw[if_neg hk,if_neg hk];exact⟨0,by omega⟩
theorem DvF.conv{p:Int}{g f a:Nat→Int}(h:DvF p g f):∀ n,DvF p g (fun k=>cvz a f k n)
 | 0=>DvF.zero
 | n + 1=>(h.conv n).add (h.shift n)
theorem DvF.refl{p:Int}{g:Nat→Int}:DvF p g g:=⟨1,fun _=>1,fun k=>by
 rw[cvz,cvz]
 unfold shz
 rw[if_pos (Nat.zero_le _),Nat.sub_zero]
 exact⟨0,by omega⟩⟩
def Ends(l:List Int):Prop:=0 < l.length→zc l (l.length - 1)≠0
theorem z2g{p x:Int}(h0:0≤x)(h1:x < p)(h:x≠0):¬ p∣x:=fun z=>h (z0T h0 h1 z)
theorem z1T{k:Nat}{fr:List Nat}{Fi:FI}{T:Tgt}{Ft:FT}{F:FE}{δ:Sl}{s s1 s2:Sx}{ds xs:List D}(h:Fi δ s=some (ds,s1))(hs:ds.length≤1000)(hc:compD T Ft F (compDl k fr δ) ds s1=some (xs,s2)):asL (fComp k fr Fi T Ft F) δ s=some (.list xs,s2):=by
 unfold asL fComp
 rw[h]
 simp only[Option.bind_some]
 rw[if_pos (zJ hs),hc];rfl
theorem zah{p b:Int}{Fm:FE}(hp:Prm p)(hb:0 < b∧b < p)(δc:Sl)(s:Sx)
  (step:∀ a:Int,∃ δ1,(Tgt.one 0).run (.int a) δc=some δ1∧Fm δ1 s=zf [fieldP p,.int a,.int b] s) :
  ∀ l:List Int,Rs p l→∃ m:List Int,compD (.one 0) fTrue Fm δc (l.map .int) s=some (m.map .int,s)∧Rs p m∧m.length=l.length∧∀ k,p∣zc m k * b - zc l k
 | [],_=>⟨[],rfl,(fun _ z=>nomatch z),rfl,fun k=>by rw[z0N (Nat.zero_le _)];exact⟨0,by omega⟩⟩
 | a::l,h=>by
  obtain⟨m,e,hm,hl,hd⟩:=zah hp hb δc s step l fun x hx=>h x (List.mem_cons_of_mem _ hx)
  obtain⟨q,eq,hq,hqd⟩:=divP hp (h a List.mem_cons_self) hb
  obtain⟨δ1,e1,e2⟩:=step a
  refine⟨q::m,?_,fun x hx=>?_,by simp[hl],fun k=>?_⟩
  ·show compD _ _ _ _ (.int a::l.map .int) s=_
   unfold compD
   rw[e1]
   simp only[Option.bind_some,fTrue,if_true,e2,eq,e,Option.map_some]
   rfl
  ·rcases List.mem_cons.mp hx with rfl | hx
   ·exact hq
   ·exact hm x hx
  ·cases k with
   | zero=>exact hqd
   | succ k=>exact hd k
theorem DvF.to{p b:Int}{h:Nat→Int}{g m:Nat→Int}(d:DvF p h g)(hp:Prm p)(hb:0 < b∧b < p)(e:∀ k,p∣m k * b - g k):DvF p h m:=by
 have ht:=hp.two
 obtain⟨c,_,_,hc⟩:=divP (a:=1) hp ⟨by decide,by omega⟩ hb
 obtain⟨N,q,d⟩:=d
 refine⟨N,fun i=>c * q i,fun k=>?_⟩
 obtain⟨x,hx⟩:=d k
 obtain⟨y,hy⟩:=e k
 obtain⟨z,hz⟩:=hc
 rw[z2t]
 exact⟨c * y + c * x - m k * z,by grind⟩
theorem z0i{Ft:FT}{G:GS}{δ:Sl}{s:Sx}(h:Ft δ s=some (false,s)):sIf Ft G sNext δ s=some (.next δ,s):=by
 unfold sIf;rw[h];rfl
theorem z6w{a b:Nat→Int}{k:Nat}(h:∀ i,a i=0):∀ n,cvz a b k n=0
 | 0=>rfl
 | n + 1=>by rw[cvz,z6w h n,h];omega
theorem zai{s k:Nat}{b b':Nat→Int}:shz s (fun i=>b i + b' i) k=shz s b k + shz s b' k:=by
 unfold shz;split
 ·rfl
 ·rfl
theorem z7c{s k:Nat}{b:Nat→Int}{w:Int}:shz s (fun i=>w * b i) k=w * shz s b k:=by
 unfold shz;split
 ·rfl
 ·rw[Int.mul_zero]
theorem zd9{s t k:Nat}{b:Nat→Int}:shz s (shz t b) k=shz t (shz s b) k:=by
 unfold shz
 by_cases h1:s≤k <;> by_cases h2:t≤k
 ·rw[if_pos h1,if_pos h2]
  by_cases h3:t≤k - s
  ·rw[if_pos h3,if_pos (by omega),show k - s - t=k - t - s by omega]
  ·rw[if_neg h3,if_neg (by omega)]
 ·rw[if_pos h1,if_neg h2,if_neg (by omega)]
 ·rw[if_neg h1,if_pos h2,if_neg (by omega)]
 ·rw[if_neg h1,if_neg h2]
theorem z4R{a b b':Nat→Int}{k:Nat}:∀ n,cvz a (fun i=>b i + b' i) k n=cvz a b k n + cvz a b' k n
 | 0=>rfl
 | n + 1=>by rw[cvz,cvz,cvz,z4R n,zai,Int.mul_add];omega
theorem z3i{a b:Nat→Int}{k:Nat}{w:Int}:∀ n,cvz a (fun i=>w * b i) k n=w * cvz a b k n
 | 0=>by rw[cvz,cvz,Int.mul_zero]
 | n + 1=>by rw[cvz,cvz,z3i n,z7c];grind
theorem z4i{a b:Nat→Int}{s k:Nat}:∀ n,cvz a (shz s b) k n=shz s (fun k=>cvz a b k n) k
 | 0=>by unfold shz;show(0:Int)=if s≤k then 0 else 0;split <;> rfl
 | n + 1=>by
  rw[cvz,z4i n,zd9,← z7c,← zai];rfl
def Pl(N:Nat)(f:Nat→Int):Prop:=∀ k,N≤k→f k=0
theorem z2z{a b:Nat→Int}{k N L:Nat}(h:Pl N a)(hl:N≤L):cvz a b k L=cvz a b k N:=z6t L hl fun i h1 _=>h i h1
theorem z7d{a b c:Nat→Int}{M k L:Nat}(hb:Pl M b):∀ N,N + M≤L→cvz a (fun k=>cvz b c k M) k N=cvz (fun k=>cvz a b k N) c k L
 | 0,_=>by rw[z6w (a:=fun k=>cvz a b k 0) (fun i=>rfl)];rfl
 | n + 1,h=>by
  have e:cvz (shz n b) c k L=shz n (fun k=>cvz b c k M) k:=by
   rw[z2z (N:=M + n) (fun i hi=>by unfold shz;rw[if_pos (by omega)];exact hb _ (by omega)) (by omega),z43]
  show cvz a (fun k=>cvz b c k M) k n + a n * shz n (fun k=>cvz b c k M) k=cvz (fun k=>cvz a b k n + a n * shz n b k) c k L
  rw[z7d (L:=L) hb n (by omega),z6v,z2t,e]
def one1(i:Nat):Int:=if i=0 then 1 else 0
theorem zaj{b:Nat→Int}{k:Nat}:∀ n,cvz b one1 k n=if k < n then b k else 0
 | 0=>by rw[if_neg (Nat.not_lt_zero _)];rfl
 | n + 1=>by
  rw[cvz,zaj n]
  unfold shz one1
  by_cases h:n≤k
  ·rw[if_pos h,if_neg (by omega)]
   by_cases h2:k=n
   ·subst h2;rw[if_pos (by omega),if_pos (by omega)];omega
   ·rw[if_neg (by omega),if_neg (by omega)];omega
  ·rw[if_neg h,if_pos (by omega),if_pos (by omega)];omega
theorem zak{a b:Nat→Int}{M k:Nat}(hb:Pl M b):∀ n,cvz a b k n=cvz b (fun i=>if i < n then a i else 0) k M
 | 0=>by
  have e:(fun i=>if i < 0 then a i else (0:Int))=fun i=>0 * a i:=funext fun i=>by rw[if_neg (Nat.not_lt_zero _),Int.zero_mul]
  rw[e,z3i,Int.zero_mul];rfl
 | n + 1=>by
  have e:(fun i=>if i < n + 1 then a i else (0:Int))=fun i=>(if i < n then a i else 0) + a n * shz n one1 i:=funext fun i=>by
   unfold shz one1
   by_cases h:i < n
   ·rw[if_pos (by omega),if_pos h,if_neg (by omega)];omega
   ·by_cases h2:i=n
    ·subst h2;rw[if_pos (by omega),if_neg h,if_pos (by omega),if_pos (by omega)];omega
    ·rw[if_neg (by omega),if_neg h,if_pos (by omega),if_neg (by omega)];omega
  have e1:(fun k=>cvz b one1 k M)=b:=funext fun k=>by
   rw[zaj]
   by_cases h:k < M
   ·rw[if_pos h]
   ·rw[if_neg h,hb k (by omega)]
  rw[e,z4R,← zak hb n,z3i,z4i,e1];rfl
theorem z27{a b:Nat→Int}{N M k:Nat}(ha:Pl N a)(hb:Pl M b):cvz a b k N=cvz b a k M:=by
 rw[zak hb N]
 congr 1
 funext i
 by_cases h:i < N
 ·rw[if_pos h]
 ·rw[if_neg h,ha i (by omega)]
theorem z3I{p:Int}{a a' b b':Nat→Int}{k:Nat}(ha:∀ i,p∣a i - a' i)(hb:∀ i,p∣b i - b' i):∀ n,p∣cvz a b k n - cvz a' b' k n
 | 0=>⟨0,by rw[cvz,cvz];omega⟩
 | n + 1=>by
  obtain⟨x,hx⟩:=z3I ha hb (k:=k) n
  obtain⟨y,hy⟩:=ha n
  obtain⟨z,hz⟩:p∣shz n b k - shz n b' k:=by
   unfold shz
   split
   ·exact hb _
   ·exact⟨0,by omega⟩
  rw[cvz,cvz]
  exact⟨x + y * shz n b k + a' n * z,by grind⟩
theorem z2A(l:List Int):Pl l.length (zc l):=fun _ h=>z0N h
theorem DvF.ends{p:Int}{g f:Nat→Int}(h:DvF p g f):∃ (N:Nat) (q:Nat→Int),Pl N q∧∀ k,p∣f k - cvz q g k N:=by
 obtain⟨N,q,h⟩:=h
 refine⟨N,fun i=>if i < N then q i else 0,fun k hk=>if_neg (by omega),fun k=>?_⟩
 rw[z32 (Nat.le_refl _)];exact h k
theorem z5w{a b:Nat→Int}{M n k:Nat}(hb:Pl (M + 1) b)(hk:n + M≤k):∀ j,j≤n→cvz a b k j=0
 | 0,_=>rfl
 | j + 1,h=>by
  rw[cvz,z5w hb hk j (by omega)]
  unfold shz
  rw[if_pos (by omega),hb (k - j) (by omega)];omega
theorem zbs{a b:Nat→Int}{N M:Nat}(hb:Pl (M + 1) b):cvz a b (N + M) (N + 1)=a N * b M:=by
 rw[cvz,z5w hb (Nat.le_refl _) N (Nat.le_refl _)]
 unfold shz
 rw[if_pos (by omega),Nat.add_sub_cancel_left];omega
theorem zk{G1 G2:GS}{δ δ1:Sl}{s s1:Sx}{r:Option (Out × Sx)}(h:G1 δ s=some (.next δ1,s1))(h2:G2 δ1 s1=r):sSeq G1 G2 δ s=r:=by
 rw[zF h];exact h2
theorem mulQ{p a b:Int}(hp:p≤1000)(ha:0≤a∧a < p)(hb:0≤b∧b < p):gMulI (.int a) (.int b)=some (.int (a * b)):=by
 simp only[gMulI,gI,(bt10 hp ha).ok (bt10 hp hb) (by decide),if_true]
def pwN(p:Nat):Nat→Nat→Nat→Nat→Nat
 | 0,f,_,_=>f
 | n + 1,f,b,l=>if l=0 then f else pwN p n (if l % 2=1 then f * b % p else f) (b * b % p) (l / 2)
theorem zgK:∀ p∈([2,3,5,7,11,13,101,997]:List Nat),((List.range p).all fun a=>decide (a=0∨(pwN p 10 1 a (p - 2) * a % p=1∧pwN p 10 1 a (p - 2) < p)))=true:=by decide +kernel
theorem zda{p:Nat}{one:D}(s:Sx)(h2:2≤p)(hp:p≤997):∀ (n f b l:Nat),l < 2 ^ n→f < p→b < p →
  ∃ c,whileN (asB (f2 gGt (fVar 4) (fC (.int 0)))) (sSeq (sIf (asB (f2 gEq (f2 gModI (fVar 4) (fC (.int 2))) (fC (.int 1)))) (sSet 2 (f2 gModI (f2 gMulI (fVar 2) (fVar 3)) (fVar 0))) sNext) (sSeq (sSet 3 (f2 gModI (f2 gMulI (fVar 3) (fVar 3)) (fVar 0))) (sSet 4 (f2 gDivI (fVar 4) (fC (.int 2)))))) (n + 1)
   [.val (.int (p:Int)),.val one,.val (.int (f:Int)),.val (.int (b:Int)),.val (.int (l:Int))] s=some (.next [.val (.int (p:Int)),.val one,.val (.int (pwN p n f b l:Int)),c,.val (.int 0)],s):=by
 intro n
 induction n with
 | zero =>
  intro f b l hl _ _
  have:l=0:=by omega
  subst this
  exact⟨_,zR (z0j (z8 rfl rfl rfl))⟩
 | succ n ih =>
  intro f b l hl hf hb
  by_cases h0:l=0
  ·subst h0
   rw[pwN,if_pos rfl]
   exact⟨_,zR (z0j (z8 rfl rfl rfl))⟩
  ·have md:∀ x y:Nat,gModI (.int ((x:Int) * (y:Int))) (.int (p:Int))=some (.int ((x * y % p:Nat):Int)):=fun x y=>by
    rw[z4C (by omega),Int.fmod_eq_emod_of_nonneg _ (by omega)];rfl
   have m2:gModI (.int (l:Int)) (.int 2)=some (.int ((l % 2:Nat):Int)):=by
    rw[z4C (by decide),Int.fmod_eq_emod_of_nonneg _ (by decide)];rfl
   have d2:gDivI (.int (l:Int)) (.int 2)=some (.int ((l / 2:Nat):Int)):=by
    simp only[gDivI,gI,show divOk (l:Int) 2=true from rfl,if_true,Int.fdiv_eq_ediv_of_nonneg _ (show(0:Int)≤2 by decide)];rfl
   have gt:gGt (.int (l:Int)) (.int 0)=some (.bool true):=by
    simp only[gGt,gI,if_true];rw[decide_eq_true (by omega)]
   obtain⟨c,e⟩:=ih (if l % 2=1 then f * b % p else f) (b * b % p) (l / 2) (by rw[Nat.pow_succ]at hl;omega) (by split;exact Nat.mod_lt _ (by omega);exact hf) (Nat.mod_lt _ (by omega))
   refine⟨c,z0p (z0j (z8 rfl rfl gt)) (zk (δ1:=[.val (.int (p:Int)),.val one,.val (.int ((if l % 2=1 then f * b % p else f:Nat):Int)),.val (.int (b:Int)),.val (.int (l:Int))]) (s1:=s) ?_ (zk (zu (z8 (z8 rfl rfl (mulQ (p:=(p:Int)) (by omega) ⟨by omega,by omega⟩ ⟨by omega,by omega⟩)) rfl (md b b))) (zu (z8 rfl rfl d2)))) ?_⟩
   ·by_cases h1:l % 2=1
    ·rw[if_pos h1]
     exact z5I (z0j (z8 (z8 rfl rfl m2) rfl (by rw[z1d,h1];rfl))) (zu (z8 (z8 rfl rfl (mulQ (p:=(p:Int)) (by omega) ⟨by omega,by omega⟩ ⟨by omega,by omega⟩)) rfl (md f b)))
    ·rw[if_neg h1]
     exact zaa (z0j (z8 (z8 rfl rfl m2) rfl (by rw[z1d,decide_eq_false (by omega)]))) rfl
   ·rw[pwN,if_neg h0];exact e
theorem zbt{p b:Int}(s:Sx)(hp:Prm p)(hb:0 < b∧b < p):∃ v,z0a [.int p,.int b] s=some (.int v,s)∧(0≤v∧v < p)∧p∣v * b - 1:=by
 have ht:=hp.two
 obtain⟨n,hn,rfl⟩:=hp
 obtain⟨a,rfl⟩:=Int.eq_ofNat_of_zero_le (show 0≤b by omega)
 have ok:=zgK n hn
 have oka:=of_decide_eq_true (List.all_eq_true.mp ok a (List.mem_range.mpr (by omega)))
 obtain⟨o1,o2⟩:=oka.resolve_left (by omega)
 obtain⟨c,e⟩:=zda (p:=n) (one:=.int (a:Int)) s (by omega) (by omega) 10 1 a (n - 2) (by omega) (by omega) (by omega)
 refine⟨_,z09 (n:=2) (m:=3) (G:=z3v) rfl (zk (δ1:=[.val (.int (n:Int)),.val (.int (a:Int)),.val (.int ((1:Nat):Int)),.val (.int (a:Int)),.val (.int ((n - 2:Nat):Int))]) (s1:=s) ?_ (zk (zZ e (by unfold fuel;omega)) rfl)),⟨by omega,by omega⟩,?_⟩
 ·have m1:gModI (.int (a:Int)) (.int (n:Int))=some (.int (a:Int)):=by
   rw[z4C (by omega),Int.fmod_eq_emod_of_nonneg _ (by omega),Int.emod_eq_of_lt (by omega) (by omega)]
  have s1:gSubI (.int (n:Int)) (.int 2)=some (.int ((n - 2:Nat):Int)):=by
   simp only[gSubI,gI,if_true];congr 2;omega
  unfold sPar3
  rw[z7 (d:=.int 1) rfl (z7 (z8 rfl rfl m1) (z7 (FL:=aNil) (z8 rfl rfl s1) rfl))]
  rfl
 ·refine Int.dvd_of_emod_eq_zero ?_
  have e2:((pwN n 10 1 a (n - 2):Int) * (a:Int)) % (n:Int)=1:=by exact_mod_cast o1
  rw[Int.sub_emod,e2,Int.emod_eq_of_lt (show(0:Int)≤1 by decide) (show(1:Int) < n by omega),Int.sub_self,Int.zero_emod]
theorem z28:∀ l:List Int,PyData.canLayAll0 (l.map .int)=true∧PyData.depthAll (l.map .int)≤1∧PyData.eqvAll (l.map .int) (l.map .int)=true
 | []=>by simp[PyData.canLayAll0,PyData.depthAll,PyData.eqvAll]
 | i::l=>by
  obtain⟨h1,h2,h3⟩:=z28 l
  refine⟨by simp[PyData.canLayAll0,PyData.canLay0,h1],?_,by simp[PyData.eqvAll,PyData.eqv,h3]⟩
  simp[PyData.depthAll,PyData.depth]
  omega
theorem zbu(l:List Int):gEq (.list (l.map .int)) (.list (l.map .int))=some (.bool true):=by
 obtain⟨h1,h2,h3⟩:=z28 l
 have:SeqAt.shaped (.list (l.map .int))=true:=by
  simp[SeqAt.shaped,PyData.canLay0,PyData.depth,h1]
  omega
 simp[gEq,this,PyData.eqv,h3]
theorem zbv(l:List Int):gNe (.list (l.map .int)) (.list (l.map .int))=some (.bool false):=by
 have:=zbu l
 unfold gEq at this
 unfold gNe
 split at this
 ·rename_i h
  rw[if_pos h]
  simp only[Option.some.injEq,PyData.bool.injEq]at this
  rw[this];rfl
 ·cases this
theorem zdb(l:List Int):gNe (.list (l.map .int)) (.list [])=some (.bool (!l.isEmpty)):=by
 obtain⟨h1,h2,h3⟩:=z28 l
 have:SeqAt.shaped (.list (l.map .int))=true:=by
  simp[SeqAt.shaped,PyData.canLay0,PyData.depth,h1]
  omega
 cases l with
 | nil=>rfl
 | cons a r =>
  have h0:SeqAt.shaped (.list [])=true:=by decide
  simp[gNe,PyData.eqv,PyData.eqvAll,h0]
  simpa using this
theorem zal{l:List Int}{k:Nat}(h:k < l.length):zc (l.take (k + 1)) ((l.take (k + 1)).length - 1)=zc l k:=by
 have:(l.take (k + 1)).length - 1=k:=by rw[List.length_take];omega
 rw[this]
 unfold zc
 rw[List.getD_eq_getElem?_getD,List.getD_eq_getElem?_getD,List.getElem?_take,if_pos (Nat.lt_succ_self _)]
theorem z6x{d:D}{l:List Int}(s:Sx)(hd:seqOf d=some (l.map .int))(hl:l.length≤1000):z01 [d] s=some (.tuple ((tz l).map .int),s):=by
 have loop:∀ k:Nat,k≤l.length→whileN (tAndF (asB (f2 gNe (fVarW 1) (eLst aNil))) (asB (f2 gEq (f2 gIx (fVarW 1) (f1 gNeg (fC (.int 1)))) (fC (.int 0))))) (sPop 1) (k + 1) [.val d,.own ((l.take k).map .int)] s=some (.next [.val d,.own ((l.take (tzn l k)).map .int)],s):=by
  intro k
  induction k with
  | zero=>intro _;exact zR rfl
  | succ k ih =>
   intro hk
   have ne:(l.take (k + 1)).isEmpty=false:=by
    cases l with
    | nil=>exact absurd hk (by simp)
    | cons a r=>rfl
   have lt:(l.take (k + 1)).length=k + 1:=by rw[List.length_take];omega
   have t1:tAndF (asB (f2 gNe (fVarW 1) (eLst aNil))) (asB (f2 gEq (f2 gIx (fVarW 1) (f1 gNeg (fC (.int 1)))) (fC (.int 0)))) [.val d,.own ((l.take (k + 1)).map .int)] s=some (decide (zc l k=0),s):=by
    refine z3H (s1:=s) (z0j (b:=true) (z8 (a:=.list ((l.take (k + 1)).map .int)) (b:=.list []) (s1:=s) rfl (z1n rfl (zJ (by simp))) (by rw[zdb,ne];rfl))) (z0j (z8 (a:=.int (zc l k)) (b:=.int 0) (z8 (a:=.list ((l.take (k + 1)).map .int)) (b:=.int (-1)) rfl rfl ?_) rfl (z1d _ _)))
    rw[z6u (l:=l.take (k + 1)) rfl (by omega),zal (by omega)]
   by_cases hz:zc l k=0
   ·rw[decide_eq_true hz]at t1
    rw[tzn,if_pos hz]
    refine z0p t1 ?_ (ih (by omega))
    have hd2:((l.take (k + 1)).map PyData.int).dropLast=(l.take k).map .int:=by
     rw[List.dropLast_eq_take,List.length_map,lt,← List.map_take,List.take_take,Nat.add_sub_cancel,Nat.min_eq_left (Nat.le_succ _)]
    show(if (((l.take (k + 1)).map PyData.int).isEmpty)=true then none else some (Out.next [.val d,.own ((l.take (k + 1)).map PyData.int).dropLast],s))=_
    rw[hd2,if_neg (by rw[List.isEmpty_iff,List.map_eq_nil_iff,← List.isEmpty_iff,ne];exact Bool.false_ne_true)]
   ·rw[decide_eq_false hz]at t1
    rw[tzn,if_neg hz]
    exact zR t1
 refine z09 (n:=1) (m:=1) (G:=z3h) rfl ?_
 show z3h [.val d,.non] s=_
 have a1:sSetO 1 (oList (fVar 0)) [.val d,.non] s=some (.next [.val d,.own (l.map .int)],s):=by
  refine z1a ?_
  cases d with
  | list xs=>cases hd;rfl
  | tuple xs=>cases hd;rfl
  | _=>cases hd
 have w:=loop l.length (Nat.le_refl _)
 rw[List.take_of_length_le (Nat.le_refl _)]at w
 have a2:z4t [.val d,.own (l.map .int)] s=some (.next [.val d,.own ((tz l).map .int)],s):=zZ w (by unfold fuel;omega)
 unfold z3h
 rw[zF a1,zF a2]
 rfl
theorem zey(n k:Nat):zc (List.replicate n 0) k=0:=by
 unfold zc
 rw[List.getD_eq_getElem?_getD,List.getElem?_replicate]
 split <;> rfl
theorem zbw{Fa Fb:FE}{δ:Sl}{s s1 s2:Sx}{z w:Int}(ha:Fa δ s=some (.int z,s1))(hb:Fb δ s1=some (.int w,s2))(h0:0≤z)(h1:z≤1000)(h2:0≤w)(h3:w≤1000):iRange2 Fa Fb δ s=some (rng z (w - z).toNat,s2):=by
 have r1:=z8f h0 h1
 have r2:=z8f h2 h3
 unfold iRange2
 rw[ha]
 simp only[Option.bind_some,hb,r1,r2,Bool.and_self,if_true]
theorem z2u{Fa Fb:FE}{δ:Sl}{s s1 s2:Sx}{a b:Nat}(ha:Fa δ s=some (.int (a:Int),s1))(hb:Fb δ s1=some (.int (b:Int),s2))(h1:a≤1000)(h2:b≤1000):iRange2 Fa Fb δ s=some (rng (a:Int) (b - a),s2):=by
 have e:=zbw ha hb (Int.natCast_nonneg _) (by omega) (Int.natCast_nonneg _) (by omega)
 rwa [show((b:Int) - (a:Int)).toNat=b - a by omega]at e
theorem z4S{a n j:Nat}{d:D}(h:(rng (a:Int) n)[j]?=some d):j < n∧d=.int ((a + j:Nat):Int):=by
 unfold rng at h
 rw[List.getElem?_map]at h
 by_cases hj:j < n
 ·rw[List.getElem?_range hj]at h
  simp only[Option.map_some,Option.some.injEq]at h
  refine⟨hj,?_⟩
  rw[← h]
  congr 1
 ·rw[List.getElem?_eq_none (by simpa using hj)]at h;simp at h
theorem z7S(a b:Nat):gMin (.int (a:Int)) (.int (b:Int))=some (.int ((min a b:Nat):Int)):=by
 simp only[gMin,gI,if_true];congr 2;split <;> omega
theorem z3J{a b:Nat}(h:b≤a):gSubI (.int (a:Int)) (.int (b:Int))=some (.int ((a - b:Nat):Int)):=by
 simp only[gSubI,gI,if_true];congr 2;omega
theorem z8j{n k:Nat}(h1:1≤k)(h2:k≤n):ixN n (-(k:Int))=some (n - k):=by
 unfold ixN
 rw[if_neg (by omega),if_pos (by omega)]
 congr 1;omega
theorem zam{d:D}{l:List Int}{k:Nat}(h:seqOf d=some (l.map .int))(h1:1≤k)(h2:k≤l.length):gIx d (.int (-(k:Int)))=some (.int (zc l (l.length - k))):=by
 rw[ix_seq h]
 unfold L2.atI
 rw[List.length_map,z8j h1 h2]
 exact z5Z (by omega)
theorem zbx{xs:List D}{k:Nat}{v:D}(h1:1≤k)(h2:k≤xs.length):L3.putAt xs (.int (-(k:Int))) v=some (xs.set (xs.length - k) v):=by
 unfold L3.putAt
 dsimp only
 rw[z8j h1 h2];rfl
theorem zby{p:Int}{od othd:D}{other found:List Int}{w:Int}{c5:Ce}(s:Sx)(hp:Prm p)(ho:seqOf othd=some (other.map .int))(hO:Rs p other)(hF:Rs p found)(hw:0≤w∧w < p)(hl:other.length≤found.length)(hm:found.length≤200) :
  ∃ (found':List Int) (c5':Ce),z0t [.val (.int p),.val od,.val othd,.own (found.map .int),.val (.int w),c5] s=some (.next [.val (.int p),.val od,.val othd,.own (found'.map .int),.val (.int w),c5'],s) ∧
   found'.length=found.length∧Rs p found'∧∀ k,p∣zc found' k - (zc found k - w * shz (found.length - other.length) (zc other) k):=by
 have ht:=hp.two
 obtain⟨δ',s',e,hs,r,x5,hδ,l1,hR',hc⟩:=z2b (T:=.one 5) (G:=z2I) (fun t δ s'=>s'=s∧∃ (r:List Int) (x5:Ce),δ=[.val (.int p),.val od,.val othd,.own (r.map .int),.val (.int w),x5]∧r.length=found.length∧Rs p r∧∀ k,p∣zc r k - (zc found k - (if found.length≤k + t∧k < found.length then w * zc other (k - (found.length - other.length)) else 0)))
  (rng ((1:Nat):Int) (other.length + 1 - 1)) [.val (.int p),.val od,.val othd,.own (found.map .int),.val (.int w),c5] s ⟨rfl,found,c5,rfl,rfl,hF,fun k=>by rw[if_neg (by omega)];exact⟨0,by omega⟩⟩ (fun t d δ s' hd zgh=>by
   obtain⟨hs,r,x5,hδ,l1,hR',hc⟩:=zgh
   subst hs hδ
   obtain⟨htl,rfl⟩:=z4S hd
   have hi:found.length - (1 + t)=r.length - (1 + t):=by rw[l1]
   have m2:=z1N (p:=p) (x:=zc r (r.length - (1 + t)) - w * zc other (other.length - (1 + t))) (by omega)
   refine⟨[.val (.int p),.val od,.val othd,.own (r.map .int),.val (.int w),.val (.int ((1 + t:Nat):Int))],_,s',rfl,?_,rfl,r.set (r.length - (1 + t)) ((zc r (r.length - (1 + t)) - w * zc other (other.length - (1 + t))).fmod p),.val (.int ((1 + t:Nat):Int)),rfl,by rw[List.length_set];exact l1,hR'.set m2.1 m2.2,fun k=>?_⟩
   ·have ng:f1 gNeg (fVar 5) [.val (.int p),.val od,.val othd,.own (r.map .int),.val (.int w),.val (.int ((1 + t:Nat):Int))] s'=some (.int (-((1 + t:Nat):Int)),s'):=zB (a:=.int ((1 + t:Nat):Int)) rfl rfl
    refine(z4O (v:=.int ((zc r (r.length - (1 + t)) - w * zc other (other.length - (1 + t))).fmod p)) (k:=.int (-((1 + t:Nat):Int))) (xs:=r.map .int) (ys:=(r.set (r.length - (1 + t)) ((zc r (r.length - (1 + t)) - w * zc other (other.length - (1 + t))).fmod p)).map .int) (s1:=s') ?_ ng rfl ?_).trans rfl
    ·exact z8 (a:=.int (zc r (r.length - (1 + t)) - w * zc other (other.length - (1 + t)))) (b:=.int p) (z8 (a:=.int (zc r (r.length - (1 + t)))) (b:=.int (w * zc other (other.length - (1 + t)))) (z8 (a:=.list (r.map .int)) rfl ng (zam rfl (by omega) (by omega))) (z8 rfl (z8 (a:=othd) rfl ng (zam ho (by omega) (by omega))) (mulQ (by omega) hw (hO.zc (by omega) _))) rfl) rfl (z4C (by omega) _)
    ·rw[zbx (by omega) (by rw[List.length_map];omega),List.length_map,z42]
   ·rw[z79 (by omega)]
    by_cases hk:k=r.length - (1 + t)
    ·subst hk
     rw[if_pos rfl,if_pos (by omega)]
     have c:=hc (r.length - (1 + t))
     rw[if_neg (by omega)]at c
     obtain⟨k1,h1⟩:=c
     obtain⟨k3,h3⟩:=z0M (p:=p) (x:=zc r (r.length - (1 + t)) - w * zc other (other.length - (1 + t))) (by omega)
     rw[show r.length - (1 + t) - (found.length - other.length)=other.length - (1 + t) by omega]
     exact⟨k1 + k3,by grind⟩
    ·rw[if_neg hk]
     have c:=hc k
     by_cases h2:found.length≤k + t∧k < found.length
     ·rw[if_pos h2]at c;rw[if_pos (by omega)];exact c
     ·rw[if_neg h2]at c;rw[if_neg (by omega)];exact c)
 subst hs hδ
 rw[show(rng ((1:Nat):Int) (other.length + 1 - 1)).length=other.length by unfold rng;rw[List.length_map,List.length_range];omega]at hc
 refine⟨r,x5,?_,l1,hR',fun k=>?_⟩
 ·unfold z0t sFor
  rw[z2u (a:=1) (b:=other.length + 1) (s1:=s') (s2:=s') rfl (z8 (a:=.int (other.length:Int)) (b:=.int ((1:Nat):Int)) (zB (a:=othd) rfl (by rw[z0Y ho,List.length_map])) rfl (add_int _ _)) (by decide) (by omega)]
  exact e
 ·have c:=hc k
  unfold shz
  by_cases h1:found.length - other.length≤k
  ·rw[if_pos h1]
   by_cases h2:k < found.length
   ·rw[if_pos (by omega)]at c;exact c
   ·rw[if_neg (by omega)]at c
    rw[z0N (l:=other) (show other.length≤k - (found.length - other.length) by omega),Int.mul_zero];exact c
  ·rw[if_neg (by omega)]at c
   rw[if_neg h1,Int.mul_zero];exact c
theorem zdc{l:List Int}{n:Nat}(h:∀ k,n≤k→zc l k=0)(k:Nat):zc (l.take n) k=zc l k:=by
 by_cases hk:k < n
 ·unfold zc
  rw[List.getD_eq_getElem?_getD,List.getD_eq_getElem?_getD,List.getElem?_take,if_pos hk]
 ·rw[z0N (by rw[List.length_take];omega),h k (by omega)]
structure Left(p:Int)(one other r:List Int):Prop where
 rs:Rs p r
 en:Ends r
 lt:r.length < other.length
 eq:∃ (N:Nat) (q:Nat→Int),∀ k,p∣zc one k - (zc r k + cvz q (zc other) k N)
theorem zdd{p:Int}{od othd:D}{other:List Int}(s:Sx)(hp:Prm p)(ho:seqOf othd=some (other.map .int))(hO:Rs p other)(h0:0 < other.length)(eO:Ends other):∀ (n:Nat) (found:List Int) (c4 c5:Ce),found.length≤n→n≤200→Rs p found→Ends found →
  ∃ (r:List Int) (c4' c5':Ce),whileN (asB (f2 gGe (f1 gLen (fVarW 3)) (f1 gLen (fVar 2)))) (sSeq (sSet 4 (f2 gModI (f2 gMulI (f2 gIx (fVarW 3) (f1 gNeg (fC (.int 1)))) (fCall z0a (aCons (fVar 0) (aCons (f2 gIx (fVar 2) (f1 gNeg (fC (.int 1)))) aNil)))) (fVar 0))) (sSeq z0t (sSeq (sFrz 3) (sSetO 3 (oList (fCall z01 (aCons (fSl (fVar 3) pNo (pInt (f1 gNeg (fC (.int 1))))) aNil))))))) (n + 1)
   [.val (.int p),.val od,.val othd,.own (found.map .int),c4,c5] s=some (.next [.val (.int p),.val od,.val othd,.own (r.map .int),c4',c5'],s)∧Left p found other r:=by
 have ht:=hp.two
 intro n
 have ge:∀ found:List Int,∀ c4 c5,f2 gGe (f1 gLen (fVarW 3)) (f1 gLen (fVar 2)) [.val (.int p),.val od,.val othd,.own (found.map .int),c4,c5] s=some (.bool (decide (other.length≤found.length)),s):=fun found c4 c5=>by
  refine z8 (a:=.int (found.length:Int)) (b:=.int (other.length:Int)) (zB (a:=.list (found.map .int)) rfl (by rw[z0Y (xs:=found.map .int) rfl,List.length_map])) (zB (a:=othd) rfl (by rw[z0Y ho,List.length_map])) ?_
  have:decide ((other.length:Int)≤(found.length:Int))=decide (other.length≤found.length):=decide_eq_decide.mpr (by omega)
  simp only[gGe,gI,if_true,this]
 have stop:∀ found c4 c5 m,found.length < other.length→Rs p found→Ends found→∃ (r:List Int) (c4' c5':Ce),whileN (asB (f2 gGe (f1 gLen (fVarW 3)) (f1 gLen (fVar 2)))) (sSeq (sSet 4 (f2 gModI (f2 gMulI (f2 gIx (fVarW 3) (f1 gNeg (fC (.int 1)))) (fCall z0a (aCons (fVar 0) (aCons (f2 gIx (fVar 2) (f1 gNeg (fC (.int 1)))) aNil)))) (fVar 0))) (sSeq z0t (sSeq (sFrz 3) (sSetO 3 (oList (fCall z01 (aCons (fSl (fVar 3) pNo (pInt (f1 gNeg (fC (.int 1))))) aNil))))))) (m + 1)
   [.val (.int p),.val od,.val othd,.own (found.map .int),c4,c5] s=some (.next [.val (.int p),.val od,.val othd,.own (r.map .int),c4',c5'],s)∧Left p found other r:=fun found c4 c5 m hl hR hE =>
  ⟨found,c4,c5,zR (z0j ((ge found c4 c5).trans (by rw[decide_eq_false (by omega)]))),hR,hE,hl,0,fun _=>0,fun k=>⟨0,by rw[cvz];omega⟩⟩
 induction n with
 | zero=>intro found c4 c5 hl _ hR hE;exact stop found c4 c5 0 (by omega) hR hE
 | succ n ih =>
  intro found c4 c5 hl hn hR hE
  by_cases hlt:found.length < other.length
  ·exact stop found c4 c5 (n + 1) hlt hR hE
  ·have hu:=hO.zc (by omega) (other.length - 1)
   have hne:=eO h0
   obtain⟨v,ev,hv,dv⟩:=zbt (b:=zc other (other.length - 1)) s hp ⟨by omega,hu.2⟩
   have m1:=z1N (p:=p) (x:=zc found (found.length - 1) * v) (by omega)
   obtain⟨f1',y5,e1,l1,hR1,hc1⟩:=zby (od:=od) (c5:=c5) (w:=(zc found (found.length - 1) * v).fmod p) s hp ho hO hR m1 (by omega) (by omega)
   have hlast:zc f1' (found.length - 1)=0:=by
    have hz:=hR1.zc (by omega) (found.length - 1)
    refine z0T hz.1 hz.2 ?_
    obtain⟨a,ha⟩:=hc1 (found.length - 1)
    obtain⟨b,hb⟩:=z0M (p:=p) (x:=zc found (found.length - 1) * v) (by omega)
    obtain⟨c,hc⟩:=dv
    have es:shz (found.length - other.length) (zc other) (found.length - 1)=zc other (other.length - 1):=by
     unfold shz;rw[if_pos (by omega),show found.length - 1 - (found.length - other.length)=other.length - 1 by omega]
    rw[es]at ha
    exact⟨a - b * zc other (other.length - 1) - zc found (found.length - 1) * c,by grind⟩
   have hz1:∀ k,found.length - 1≤k→zc f1' k=0:=fun k hk=>by
    by_cases h:k=found.length - 1
    ·rw[h];exact hlast
    ·exact z0N (by omega)
   have tl:(tz (f1'.take (found.length - 1))).length≤n:=by
    have:=zaf (f1'.take (found.length - 1))
    rw[List.length_take]at this;omega
   have hRt:Rs p (tz (f1'.take (found.length - 1))):=Rs.tz fun x hx=>hR1 x (List.mem_of_mem_take hx)
   obtain⟨r,d4,d5,e2,L⟩:=ih (tz (f1'.take (found.length - 1))) (.val (.int ((zc found (found.length - 1) * v).fmod p))) y5 tl (by omega) hRt fun h=>z5u h
   have ct:=z6x (d:=.list ((f1'.take (found.length - 1)).map .int)) (l:=f1'.take (found.length - 1)) s rfl (by rw[List.length_take];omega)
   have sl:fSl (fVar 3) pNo (pInt (f1 gNeg (fC (.int 1)))) [.val (.int p),.val od,.val othd,.val (.list (f1'.map .int)),.val (.int ((zc found (found.length - 1) * v).fmod p)),y5] s=some (.list ((f1'.take (found.length - 1)).map .int),s):=by
    show some (PyData.list (L3.cutD (f1'.map .int) none (some (-1))),s)=_
    have:L3.cutD (f1'.map PyData.int) none (some (-1))=(f1'.take (found.length - 1)).map .int:=by
     unfold L3.cutD
     rw[HT.sIx_none,List.drop_zero,Nat.sub_zero,List.length_map,List.map_take]
     congr 1
     show(if (-1:Int) < 0 then (-1 + (f1'.length:Int)).toNat else min (-1:Int).toNat f1'.length)=_
     rw[if_pos (by decide)];omega
    rw[this]
   refine⟨r,d4,d5,z0p (z0j ((ge found c4 c5).trans (by rw[decide_eq_true (by omega)]))) (zk (δ1:=[.val (.int p),.val od,.val othd,.own (found.map .int),.val (.int ((zc found (found.length - 1) * v).fmod p)),c5]) (s1:=s) ?_ (zk e1 (zk (δ1:=[.val (.int p),.val od,.val othd,.val (.list (f1'.map .int)),.val (.int ((zc found (found.length - 1) * v).fmod p)),y5]) (s1:=s) rfl (z1a (xs:=(tz (f1'.take (found.length - 1))).map .int) (s1:=s) ?_)))) e2,L.rs,L.en,L.lt,?_⟩
   ·exact zu (z8 (a:=.int (zc found (found.length - 1) * v)) (b:=.int p) (z8 (a:=.int (zc found (found.length - 1))) (b:=.int v) (z8 (a:=.list (found.map .int)) rfl rfl (z6u rfl (by omega))) (ze (ds:=[.int p,.int (zc other (other.length - 1))]) (z7 (F:=fVar 0) rfl (z7 (FL:=aNil) (z8 (a:=othd) (b:=.int (-1)) rfl rfl (z6u ho h0)) rfl)) ev) (mulQ (by omega) (hR.zc (by omega) _) hv)) rfl (z4C (by omega) _))
   ·unfold oList
    rw[ze (ds:=[.list ((f1'.take (found.length - 1)).map .int)]) (z7 (FL:=aNil) sl rfl) ct]
    rfl
   ·obtain⟨N,q,hq⟩:=L.eq
    refine⟨N + (found.length - other.length + 1),fun i=>(if i < N then q i else 0) + (if i < found.length - other.length + 1 then (if i=found.length - other.length then (zc found (found.length - 1) * v).fmod p else 0) else 0),fun k=>?_⟩
    rw[z6v,z32 (by omega),z32 (by omega),zag (a:=fun _=>0),z6w (a:=fun _=>(0:Int)) (fun _=>rfl),if_pos (Nat.lt_succ_self _)]
    obtain⟨a,ha⟩:=hq k
    obtain⟨b,hb⟩:=hc1 k
    rw[zbq,zdc hz1]at ha
    exact⟨a - b,by grind⟩
theorem zcb{p:Int}{od othd:D}{one other:List Int}(s:Sx)(hp:Prm p)(h1:seqOf od=some (one.map .int))(ho:seqOf othd=some (other.map .int))(rO:Rs p one)(hO:Rs p other)(h0:0 < other.length)(e1:Ends one)(eO:Ends other)(ll:one.length≤200) :
  ∃ r:List Int,zN [.int p,od,othd] s=some (.tuple (r.map .int),s)∧Left p one other r:=by
 obtain⟨r,c4,c5,e,L⟩:=zdd (od:=od) s hp ho hO h0 eO one.length one .non .non (Nat.le_refl _) ll rO e1
 refine⟨r,z09 (n:=3) (m:=3) (G:=z3w) rfl (zk (δ1:=[.val (.int p),.val od,.val othd,.own (one.map .int),.non,.non]) (s1:=s) ?_ (zk (zZ e (by unfold fuel;omega)) rfl)),L⟩
 refine z1a (xs:=one.map .int) (s1:=s) ?_
 unfold oList fVar
 show((seqOf od).map _)=_
 rw[h1];rfl
theorem z4u(l:List Int):SeqAt.shaped (.tuple (l.map .int))=true:=by
 obtain⟨h1,h2,h3⟩:=z28 l
 simp[SeqAt.shaped,PyData.canLay0,PyData.depth,h1]
 omega
theorem eqv_nil(l:List Int):PyData.eqvAll (l.map .int) []=decide (l=[]):=by
 cases l with
 | nil=>rfl
 | cons a r=>simp[PyData.eqvAll]
theorem z3j(l:List Int):gNe (.tuple (l.map .int)) (.tuple [])=some (.bool (decide (l≠[]))):=by
 simp only[gNe,z4u l,show SeqAt.shaped (.tuple [])=true from z4u [],Bool.and_self,if_true,PyData.eqv,eqv_nil]
 by_cases h:l=[] <;> simp[h]
theorem zan{p x y:Int}(hx:0≤x∧x < p)(hy:0≤y∧y < p)(h:p∣x - y):x=y:=by
 by_cases hxy:y≤x
 ·have:=z0T (p:=p) (x:=x - y) (by omega) (by omega) h;omega
 ·obtain⟨c,hc⟩:=h
  have:=z0T (p:=p) (x:=y - x) (by omega) (by omega) ⟨-c,by grind⟩;omega
theorem zao{p:Int}(hp:0 < p){a b:List Int}(ra:Rs p a)(rb:Rs p b)(ea:Ends a)(eb:Ends b)(h:∀ k,p∣zc a k - zc b k):a=b:=by
 have hz:∀ k,zc a k=zc b k:=fun k=>zan (ra.zc hp k) (rb.zc hp k) (h k)
 have hl:∀ {a b:List Int},Ends a→(∀ k,zc a k=zc b k)→a.length≤b.length:=fun{a b} ea hz=>by
  refine Decidable.byContradiction fun hn=>?_
  have:=ea (by omega)
  rw[hz,z0N (by omega)]at this
  exact this rfl
 have e:=Nat.le_antisymm (hl ea hz) (hl eb fun k=>(hz k).symm)
 refine List.ext_getElem e fun i h1 h2=>?_
 have:=hz i
 rwa [zbp h1,zbp h2]at this
def zi(l:List Int)(z:Int):Int:=if 0≤z then zc l z.toNat else 0
def wsum(w l:List Int)(z:Int):Nat→Int
 | 0=>0
 | n + 1=>wsum w l z n + zc w n * zi l (z - (n:Int))
theorem Rs.zi{p:Int}{l:List Int}(h:Rs p l)(hp:0 < p)(z:Int):0≤zi l z∧zi l z < p:=by
 unfold Law.zi
 split
 ·exact h.zc hp _
 ·exact⟨by omega,hp⟩
theorem zde{g g':G2}{Fa Fb Fc:FE}{δ:Sl}{s s1 s2:Sx}{a b:D}(h1:Fa δ s=some (a,s1))(h2:Fb δ s1=some (b,s2))(h3:g a b=some (.bool false)):fChain g g' Fa Fb Fc δ s=some (.bool false,s2):=by
 unfold fChain
 rw[h1]
 simp only[Option.bind_some]
 rw[h2]
 simp only[Option.bind_some,h3]
theorem zcc{p:Int}{l:List Int}{rd:D}{z:Int}(s:Sx)(hr:seqOf rd=some (l.map .int)):z0D [fieldP p,rd,.int z] s=some (.int (zi l z),s):=by
 have hl:gLen rd=some (.int (l.length:Int)):=by rw[z0Y hr,List.length_map]
 refine z09 (n:=3) (m:=0) (G:=z1e) rfl ?_
 show z1e [.val (fieldP p),.val rd,.val (.int z)] s=_
 by_cases h0:0≤z
 ·have t:asB (fChain gLe gLt (fC (.int 0)) (fVar 2) (f1 gLen (fVar 1))) [.val (fieldP p),.val rd,.val (.int z)] s=some (decide (z < (l.length:Int)),s) :=
   z0j (zd8 (a:=.int 0) (b:=.int z) (c:=.int (l.length:Int)) rfl rfl (by simp only[gLe,gI,if_true,decide_eq_true h0]) (zB (a:=rd) rfl hl) (by simp only[gLt,gI,if_true]))
  by_cases h1:z < (l.length:Int)
  ·rw[decide_eq_true h1]at t
   have e:gIx rd (.int z)=some (.int (zi l z)):=by
    unfold zi
    rw[if_pos h0]
    have:=z0x (k:=z.toNat) hr (by omega)
    rwa [Int.toNat_of_nonneg h0]at this
   unfold z1e sSeq
   rw[z5I t (r:=some (.ret (.int (zi l z)),s)) (by unfold sRet;exact congrArg (Option.map _) (z8 (a:=rd) (b:=.int z) rfl rfl e))]
  ·rw[decide_eq_false h1]at t
   unfold z1e
   rw[zF (zaa t rfl)]
   unfold sRet zi
   rw[if_pos h0,z0N (by omega)]
   exact congrArg (Option.map _) (zB (a:=fieldP p) rfl (fldN p))
 ·have t:asB (fChain gLe gLt (fC (.int 0)) (fVar 2) (f1 gLen (fVar 1))) [.val (fieldP p),.val rd,.val (.int z)] s=some (false,s) :=
   z0j (zde (a:=.int 0) (b:=.int z) rfl rfl (by simp only[gLe,gI,if_true,decide_eq_false h0]))
  unfold z1e
  rw[zF (zaa t rfl)]
  unfold sRet zi
  rw[if_neg h0]
  exact congrArg (Option.map _) (zB (a:=fieldP p) rfl (fldN p))
theorem zap{p x y:Int}(hp:0 < p)(h:p∣x - y):x.fmod p=y.fmod p:=by
 rw[Int.fmod_eq_emod_of_nonneg _ (by omega),Int.fmod_eq_emod_of_nonneg _ (by omega)]
 exact Int.emod_eq_emod_iff_emod_sub_eq_zero.mpr (Int.emod_eq_zero_of_dvd h)
theorem z7e{p x:Int}(h0:0≤x)(h1:x < p):x.fmod p=x:=by
 rw[Int.fmod_eq_emod_of_nonneg _ (by omega)]
 exact Int.emod_eq_of_lt h0 h1
theorem z7T{p:Int}{w l:List Int}{wd rd:D}{z:Int}(s:Sx)(hp:Prm p)(hw:seqOf wd=some (w.map .int))(hr:seqOf rd=some (l.map .int))(rw':Rs p w)(rl:Rs p l)(hl:w.length≤1000) :
  z2p [fieldP p,wd,rd,.int z] s=some (.int ((wsum w l z w.length).fmod p),s):=by
 have ht:=hp.two
 obtain⟨δ',s',e,hs,c5,c6,hδ⟩:=z2b (T:=.tup [5,6]) (G:=z5h) (fun t δ s'=>s'=s∧∃ c5 c6:Ce,δ=[.val (fieldP p),.val wd,.val rd,.val (.int z),.val (.int ((wsum w l z t).fmod p)),c5,c6])
  (enumD (w.map .int)) [.val (fieldP p),.val wd,.val rd,.val (.int z),.val (.int 0),.non,.non] s ⟨rfl,.non,.non,by rw[wsum,z7e (by omega) (by omega)]⟩
  (fun t d δ s' hd zgi=>by
   obtain⟨hs,c5,c6,hδ⟩:=zgi
   subst hs hδ
   obtain⟨x,hx,rfl⟩:=z9Y hd
   have htl:t < w.length:=by
    have:=(List.getElem?_eq_some_iff.mp hx).1
    rwa [List.length_map]at this
   rw[z5Z htl]at hx
   cases hx
   have hv:=rl.zi (by omega) (z - (t:Int))
   have hwt:=rw'.zc (by omega) t
   refine⟨[.val (fieldP p),.val wd,.val rd,.val (.int z),.val (.int ((wsum w l z t).fmod p)),.val (.int (t:Int)),.val (.int (zc w t))],[.val (fieldP p),.val wd,.val rd,.val (.int z),.val (.int ((wsum w l z (t + 1)).fmod p)),.val (.int (t:Int)),.val (.int (zc w t))],s',rfl,?_,rfl,_,_,rfl⟩
   have hv2:((wsum w l z t).fmod p + (zc w t * zi l (z - (t:Int))).fmod p).fmod p=(wsum w l z (t + 1)).fmod p:=by
    refine zap (by omega) ?_
    obtain⟨a,ha⟩:=z0M (p:=p) (x:=wsum w l z t) (by omega)
    obtain⟨b,hb⟩:=z0M (p:=p) (x:=zc w t * zi l (z - (t:Int))) (by omega)
    rw[wsum]
    exact⟨a + b,by grind⟩
   have a1:=addP (p:=p) (a:=(wsum w l z t).fmod p) (b:=(zc w t * zi l (z - (t:Int))).fmod p) s' (by omega)
   rw[hv2]at a1
   refine zu (methP (p:=p) (Fo:=fVar 0) rfl (z7 (F:=fVar 4) rfl (z7 (FL:=aNil) (methP (p:=p) (Fo:=fVar 0) rfl (z7 (F:=fVar 6) rfl (z7 (FL:=aNil) (ze (ds:=[fieldP p,rd,.int (z - (t:Int))]) (z7 (F:=fVar 0) rfl (z7 (F:=fVar 2) rfl (z7 (FL:=aNil) (z8 (a:=.int z) (b:=.int (t:Int)) rfl rfl (by simp only[gSubI,gI,if_true])) rfl))) (zcc s' hr)) rfl)) (mulP s' (by omega) (by omega) hwt hv) rfl) rfl)) a1 rfl))
 subst hs hδ
 rw[z9Z,List.length_map]at e
 refine z09 (n:=4) (m:=3) (G:=z3W) rfl ?_
 show z3W [.val (fieldP p),.val wd,.val rd,.val (.int z),.non,.non,.non] s'=_
 have a0:sSet 4 (f1 (gFld ["PrimeField"] "nought") (fVar 0)) [.val (fieldP p),.val wd,.val rd,.val (.int z),.non,.non,.non] s'=some (.next [.val (fieldP p),.val wd,.val rd,.val (.int z),.val (.int 0),.non,.non],s'):=zu (zB (a:=fieldP p) rfl (fldN p))
 have ei:iEnumF (fVar 1) [.val (fieldP p),.val wd,.val rd,.val (.int z),.val (.int 0),.non,.non] s'=some (enumD (w.map .int),s'):=by
  unfold iEnumF
  show((seqOf wd).map _)=_
  rw[hw];rfl
 have a1:z3F [.val (fieldP p),.val wd,.val rd,.val (.int z),.val (.int 0),.non,.non] s'=some (.next [.val (fieldP p),.val wd,.val rd,.val (.int z),.val (.int ((wsum w l z w.length).fmod p)),c5,c6],s'):=by
  unfold z3F sFor
  rw[ei]
  exact e
 unfold z3W
 rw[zF a0,zF a1]
 rfl
def ser(p:Int)(T B:List Int):Nat→List Int
 | 0=>[]
 | n + 1=>ser p T B n++[(zc T n - wsum (B.drop 1) (ser p T B n) ((n:Int) - 1) (B.length - 1)).fmod p]
theorem z3K(p:Int)(T B:List Int):∀ n,(ser p T B n).length=n
 | 0=>rfl
 | n + 1=>by rw[ser,List.length_append,z3K p T B n];rfl
theorem z8k{p:Int}(hp:0 < p)(T B:List Int):∀ n,Rs p (ser p T B n)
 | 0=>fun x hx=>nomatch hx
 | n + 1=>fun x hx=>by
  rw[ser]at hx
  rcases List.mem_append.mp hx with hx | hx
  ·exact z8k hp T B n x hx
  ·rw[List.mem_singleton.mp hx];exact z1N hp
theorem mulR{p a b:Int}(hp:p≤1000)(ha:0≤a∧a < p)(hb:0≤b∧b < p):gMulI (.int a) (.int b)=some (.int (a * b)):=by
 have mk:mulOk a b=true:=(bt10 hp ha).ok (bt10 hp hb) (by decide)
 simp only[gMulI,gI,mk,if_true]
def oneD(T B:List Int):D:=.tuple [.tuple (T.map .int),.tuple (B.map .int)]
theorem zez{Ga:FT}{Fa Fb:FE}{δ:Sl}{s s1:Sx}{r:Option (D × Sx)}(h:Ga δ s=some (true,s1))(e:Fa δ s1=r):eIf Ga Fa Fb δ s=r:=by
 unfold eIf;rw[h];exact e
theorem zdf{Ga:FT}{Fa Fb:FE}{δ:Sl}{s s1:Sx}{r:Option (D × Sx)}(h:Ga δ s=some (false,s1))(e:Fb δ s1=r):eIf Ga Fa Fb δ s=r:=by
 unfold eIf;rw[h];exact e
theorem zeA{δ:Sl}{s:Sx}{T B:List Int}{io ii i:Nat}(ho:δ[io]?=some (.val (oneD T B)))(hi:δ[ii]?=some (.val (.int (i:Int)))) :
  eIf (asB (f2 gLt (fVar ii) (f1 gLen (f2 gIx (fVar io) (fC (.int 0)))))) (f2 gIx (f2 gIx (fVar io) (fC (.int 0))) (fVar ii)) (fC (.int 0)) δ s=some (.int (zc T i),s):=by
 have v1:fVar io δ s=some (oneD T B,s):=by unfold fVar;rw[ho]
 have v2:fVar ii δ s=some (.int (i:Int),s):=by unfold fVar;rw[hi]
 have x1:f2 gIx (fVar io) (fC (.int 0)) δ s=some (.tuple (T.map .int),s):=z8 (a:=oneD T B) (b:=.int 0) v1 rfl rfl
 have t:asB (f2 gLt (fVar ii) (f1 gLen (f2 gIx (fVar io) (fC (.int 0))))) δ s=some (decide ((i:Int) < (T.length:Int)),s) :=
  z0j (z8 (a:=.int (i:Int)) (b:=.int (T.length:Int)) v2 (zB (a:=.tuple (T.map .int)) x1 (by rw[z0Y (xs:=T.map .int) rfl,List.length_map])) (by simp only[gLt,gI,if_true]))
 by_cases h:(i:Int) < (T.length:Int)
 ·rw[decide_eq_true h]at t
  exact zez t (z8 (a:=.tuple (T.map .int)) (b:=.int (i:Int)) x1 v2 (z0x (d:=.tuple (T.map .int)) rfl (by omega)))
 ·rw[decide_eq_false h]at t
  rw[z0N (by omega)]
  exact zdf t rfl
theorem z6y{l:List Int}{j k:Nat}:zc (l.drop j) k=zc l (j + k):=by
 unfold zc
 rw[List.getD_eq_getElem?_getD,List.getD_eq_getElem?_getD,List.getElem?_drop]
theorem z7f{l:List Int}{k:Nat}{z:Int}(h:z=(k:Int)):zi l z=zc l k:=by
 subst h;unfold zi;rw[if_pos (Int.natCast_nonneg _),Int.toNat_natCast]
theorem zaq{l:List Int}{z:Int}(h:z < 0):zi l z=0:=by unfold zi;rw[if_neg (by omega)]
theorem z5x{w l:List Int}{z:Int}{m:Nat}:∀ n,m≤n→(∀ t,m≤t→t < n→z - (t:Int) < 0)→wsum w l z n=wsum w l z m
 | 0,h,_=>by rw[show m=0 by omega]
 | n + 1,h,hz=>by
  by_cases hm:m=n + 1
  ·rw[hm]
  ·rw[wsum,zaq (hz n (by omega) (Nat.lt_succ_self _)),Int.mul_zero,Int.add_zero]
   exact z5x n (by omega) fun t h1 h2=>hz t h1 (by omega)
theorem zar{p:Int}{T B l:List Int}{many i:Nat}{c6:Ce}{h0:Int}(s:Sx)(hp:Prm p)(rB:Rs p B)(rl:Rs p l)(lB:B.length≤100)(hB:0 < B.length)(hl:l.length=i)(hi:i≤200) :
  ∃ c6',z13 [.val (.int p),.val (oneD T B),.val (.int (many:Int)),.own (l.map .int),.val (.int (i:Int)),.val (.int h0),c6] s=some (.next [.val (.int p),.val (oneD T B),.val (.int (many:Int)),.own (l.map .int),.val (.int (i:Int)),.val (.int (h0 - wsum (B.drop 1) l ((i:Int) - 1) (B.length - 1))),c6'],s):=by
 have ht:=hp.two
 obtain⟨δ',s',e,hs,c6',hδ⟩:=z2b (T:=.one 6) (G:=z25) (fun t δ s'=>s'=s∧∃ c6:Ce,δ=[.val (.int p),.val (oneD T B),.val (.int (many:Int)),.own (l.map .int),.val (.int (i:Int)),.val (.int (h0 - wsum (B.drop 1) l ((i:Int) - 1) t)),c6])
  (rng ((1:Nat):Int) (min (i + 1) B.length - 1)) [.val (.int p),.val (oneD T B),.val (.int (many:Int)),.own (l.map .int),.val (.int (i:Int)),.val (.int h0),c6] s ⟨rfl,c6,by rw[wsum,Int.sub_zero]⟩
  (fun t d δ s' hd zgj=>by
   obtain⟨hs,c6,hδ⟩:=zgj
   subst hs hδ
   obtain⟨htm,rfl⟩:=z4S hd
   refine⟨[.val (.int p),.val (oneD T B),.val (.int (many:Int)),.own (l.map .int),.val (.int (i:Int)),.val (.int (h0 - wsum (B.drop 1) l ((i:Int) - 1) t)),.val (.int ((1 + t:Nat):Int))],[.val (.int p),.val (oneD T B),.val (.int (many:Int)),.own (l.map .int),.val (.int (i:Int)),.val (.int (h0 - wsum (B.drop 1) l ((i:Int) - 1) (t + 1))),.val (.int ((1 + t:Nat):Int))],s',rfl,?_,rfl,_,rfl⟩
   have e1:wsum (B.drop 1) l ((i:Int) - 1) (t + 1)=wsum (B.drop 1) l ((i:Int) - 1) t + zc B (1 + t) * zc l (i - (1 + t)):=by
    rw[wsum,z6y,z7f (k:=i - (1 + t)) (by omega)]
   have e2:h0 - wsum (B.drop 1) l ((i:Int) - 1) (t + 1)=h0 - wsum (B.drop 1) l ((i:Int) - 1) t - zc B (1 + t) * zc l (i - (1 + t)):=by rw[e1];omega
   rw[e2]
   exact zu (z8 (a:=.int (h0 - wsum (B.drop 1) l ((i:Int) - 1) t)) (b:=.int (zc B (1 + t) * zc l (i - (1 + t)))) rfl (z8 (a:=.int (zc B (1 + t))) (b:=.int (zc l (i - (1 + t)))) (z8 (a:=.tuple (B.map .int)) (b:=.int ((1 + t:Nat):Int)) (z8 (a:=oneD T B) (b:=.int 1) rfl rfl rfl) rfl (z0x (d:=.tuple (B.map .int)) rfl (by omega))) (ixw (i:=3) rfl (z8 (a:=.int (i:Int)) (b:=.int ((1 + t:Nat):Int)) rfl rfl (z3J (by omega))) (by omega)) (mulR (by omega) (rB.zc (by omega) _) (rl.zc (by omega) _))) (by simp only[gSubI,gI,if_true])))
 subst hs hδ
 have hlen:(rng ((1:Nat):Int) (min (i + 1) B.length - 1)).length=min (i + 1) B.length - 1:=by unfold rng;rw[List.length_map,List.length_range]
 rw[hlen]at e
 rw[z5x (m:=min (i + 1) B.length - 1) (B.length - 1) (by omega) fun t h1 h2=>by omega]
 refine⟨c6',?_⟩
 unfold z13 sFor
 rw[z2u (a:=1) (b:=min (i + 1) B.length) rfl (z8 (a:=.int ((i + 1:Nat):Int)) (b:=.int (B.length:Int)) (z8 (a:=.int (i:Int)) (b:=.int 1) rfl rfl (z0h i)) (zB (a:=.tuple (B.map .int)) (z8 (a:=oneD T B) (b:=.int 1) rfl rfl rfl) (by rw[z0Y (xs:=B.map .int) rfl,List.length_map])) (z7S _ _)) (by decide) (by omega)]
 exact e
theorem z60{p:Int}{T B:List Int}{many:Nat}(s:Sx)(hp:Prm p)(rB:Rs p B)(lB:B.length≤100)(hB:0 < B.length)(hm:many≤200) :
  zL [.int p,oneD T B,.int (many:Int)] s=some (.own ((ser p T B many).map .int),s):=by
 have ht:=hp.two
 obtain⟨δ',s',e,hs,c4,c5,c6,hδ⟩:=z2b (T:=.one 4) (G:=z14) (fun t δ s'=>s'=s∧∃ c4 c5 c6:Ce,δ=[.val (.int p),.val (oneD T B),.val (.int (many:Int)),.own ((ser p T B t).map .int),c4,c5,c6])
  (rng 0 many) [.val (.int p),.val (oneD T B),.val (.int (many:Int)),.own [],.non,.non,.non] s ⟨rfl,.non,.non,.non,rfl⟩
  (fun t d δ s' hd zgk=>by
   obtain⟨hs,c4,c5,c6,hδ⟩:=zgk
   subst hs hδ
   obtain⟨htm,rfl⟩:=z6h hd
   obtain⟨c6',ei⟩:=zar (T:=T) (B:=B) (l:=ser p T B t) (many:=many) (i:=t) (c6:=c6) (h0:=zc T t) s' hp rB (z8k (by omega) T B t) lB hB (z3K p T B t) (by omega)
   have a1:sSet 5 (eIf (asB (f2 gLt (fVar 4) (f1 gLen (f2 gIx (fVar 1) (fC (.int 0)))))) (f2 gIx (f2 gIx (fVar 1) (fC (.int 0))) (fVar 4)) (fC (.int 0))) [.val (.int p),.val (oneD T B),.val (.int (many:Int)),.own ((ser p T B t).map .int),.val (.int (t:Int)),c5,c6] s'=some (.next [.val (.int p),.val (oneD T B),.val (.int (many:Int)),.own ((ser p T B t).map .int),.val (.int (t:Int)),.val (.int (zc T t)),c6],s'):=zu (zeA (io:=1) (ii:=4) rfl rfl)
   refine⟨[.val (.int p),.val (oneD T B),.val (.int (many:Int)),.own ((ser p T B t).map .int),.val (.int (t:Int)),c5,c6],[.val (.int p),.val (oneD T B),.val (.int (many:Int)),.own ((ser p T B (t + 1)).map .int),.val (.int (t:Int)),.val (.int (zc T t - wsum (B.drop 1) (ser p T B t) ((t:Int) - 1) (B.length - 1))),c6'],s',rfl,?_,rfl,_,_,_,rfl⟩
   unfold z14
   rw[zF a1,zF ei]
   refine(z4P (xs:=(ser p T B t).map .int) (z8 (a:=.int (zc T t - wsum (B.drop 1) (ser p T B t) ((t:Int) - 1) (B.length - 1))) (b:=.int p) rfl rfl (z4C (by omega) _)) rfl (by rw[List.length_map,z3K];omega)).trans ?_
   rw[ser,List.map_append];rfl)
 subst hs hδ
 rw[z1b]at e
 refine zd6 (n:=3) (m:=4) (G:=z0V) rfl ?_
 show z0V [.val (.int p),.val (oneD T B),.val (.int (many:Int)),.non,.non,.non,.non] s'=_
 have a1:sSetO 3 (oLst aNil) [.val (.int p),.val (oneD T B),.val (.int (many:Int)),.non,.non,.non,.non] s'=some (.next [.val (.int p),.val (oneD T B),.val (.int (many:Int)),.own [],.non,.non,.non],s'):=z1a (z4Q rfl (zJ (by simp)))
 have a2:z15 [.val (.int p),.val (oneD T B),.val (.int (many:Int)),.own [],.non,.non,.non] s'=some (.next [.val (.int p),.val (oneD T B),.val (.int (many:Int)),.own ((ser p T B many).map .int),c4,c5,c6],s'):=by
  unfold z15 sFor
  rw[zT (n:=many) rfl (by omega)]
  exact e
 unfold z0V
 rw[zF a1,zF a2]
 rfl
def tells(p:Int)(T B l:List Int)(i:Nat):Prop:=p∣wsum B l (i:Int) B.length - zc T i
theorem z6z{B l:List Int}{i:Nat}(h1:zc B 0=1):∀ n,wsum B l (i:Int) (n + 1)=zc l i + wsum (B.drop 1) l ((i:Int) - 1) n
 | 0=>by
  rw[wsum,wsum,wsum,h1,z7f (k:=i) (by omega)];omega
 | n + 1=>by
  rw[wsum,z6z h1 n,wsum,z6y,show 1 + n=n + 1 by omega,show(i:Int) - ((n + 1:Nat):Int)=(i:Int) - 1 - (n:Int) by omega];omega
theorem z2v{w l l':List Int}{z:Int}(h:∀ k:Nat,(k:Int)≤z→zc l k=zc l' k):∀ n,wsum w l z n=wsum w l' z n
 | 0=>rfl
 | n + 1=>by
  rw[wsum,wsum,z2v h n]
  congr 2
  unfold zi
  split
  ·exact h _ (by omega)
  ·rfl
theorem zas{l m:List Int}{k:Nat}(h:k < l.length):zc (l++m) k=zc l k:=by
 unfold zc
 rw[List.getD_eq_getElem?_getD,List.getD_eq_getElem?_getD,List.getElem?_append_left h]
theorem zat{l:List Int}{v:Int}{k:Nat}(h:k=l.length):zc (l++[v]) k=v:=by
 subst h
 unfold zc
 rw[List.getD_eq_getElem?_getD,List.getElem?_append_right (Nat.le_refl _),Nat.sub_self];rfl
theorem z8l{p:Int}{T B:List Int}{k:Nat}:∀ n,k < n→zc (ser p T B n) k=(zc T k - wsum (B.drop 1) (ser p T B k) ((k:Int) - 1) (B.length - 1)).fmod p
 | 0,h=>absurd h (Nat.not_lt_zero _)
 | n + 1,h=>by
  rw[ser]
  by_cases hk:k=n
  ·subst hk
   exact zat (z3K p T B k).symm
  ·rw[zas (by rw[z3K];omega)]
   exact z8l n (by omega)
theorem zbz{p:Int}{T B:List Int}{k n m:Nat}(h:k < n)(h':k < m):zc (ser p T B n) k=zc (ser p T B m) k:=by rw[z8l n h,z8l m h']
theorem z7g{p:Int}{T B:List Int}{n i:Nat}(hp:0 < p)(hB:0 < B.length)(h1:zc B 0=1)(hi:i < n):tells p T B (ser p T B n) i:=by
 unfold tells
 obtain⟨m,hm⟩:∃ m,B.length=m + 1:=⟨B.length - 1,by omega⟩
 rw[hm,z6z h1,z8l n hi,z2v (l':=ser p T B i) (fun k hk=>zbz (by omega) (by omega)) m,hm,Nat.add_sub_cancel]
 obtain⟨a,ha⟩:=z0M (p:=p) (x:=zc T i - wsum (B.drop 1) (ser p T B i) ((i:Int) - 1) m) hp
 exact⟨a,by grind⟩
theorem z8m(lo:Int)(n:Nat):rng lo (n + 1)=.int lo::rng (lo + 1) n:=by
 unfold rng
 rw[List.range_succ_eq_map,List.map_cons,List.map_map]
 congr 1
 ·simp
 ·refine List.map_congr_left fun i _=>?_
  show PyData.int (lo + ((i + 1:Nat):Int))=.int (lo + 1 + (i:Int))
  congr 1;omega
theorem zau{T:Tgt}{G:GS}{d x:D}{ds:List D}{δ δ1:Sl}{s s1:Sx}(h:T.run d δ=some δ1)(g:G δ1 s=some (.ret x,s1)):forD T G (d::ds) δ s=some (.ret x,s1):=by
 show((T.run d δ).bind fun δ1=>_)=_
 rw[h]
 simp only[Option.bind_some,g]
theorem z8n{B l:List Int}{i:Nat}:∀ m,m≤i + 1→((List.range m).map fun j=>zc B j * zc l (i - j)).sum=wsum B l (i:Int) m
 | 0,_=>rfl
 | m + 1,h=>by
  rw[List.range_succ,List.map_append,List.sum_append,z8n m (by omega),wsum,z7f (k:=i - m) (by omega)]
  simp
structure Low(p:Int)(top below T B:List Int):Prop where
 rT:Rs p T
 rB:Rs p B
 nT:Ends T
 nB:Ends B
 lT:T.length≤100
 lB:B.length≤100
 b0:0 < B.length
 one:zc B 0=1
 co:∀ f:List Int,Rs p f→Ends f→0 < f.length→DvF p (zc f) (zc B)→DvF p (zc f) (zc T)→f.length=1
 eq:∀ k,p∣cvz (zc T) (zc below) k T.length - cvz (zc B) (zc top) k B.length
theorem zbA{p:Int}(s:Sx)(hp:Prm p):∀ (n:Nat) (one other:List Int),other.length≤n→one.length≤200→other.length≤200→Rs p one→Rs p other→Ends one→Ends other →
  ∃ f:List Int,whileN (asB (f2 gNe (fVar 2) (eTup aNil))) (sPar 1 2 (aCons (fVar 2) (aCons (fCall zN (aCons (fVar 0) (aCons (fVar 1) (aCons (fVar 2) aNil)))) aNil))) (n + 1) [.val (.int p),.val (.tuple (one.map .int)),.val (.tuple (other.map .int))] s=some (.next [.val (.int p),.val (.tuple (f.map .int)),.val (.tuple [])],s) ∧
   Rs p f∧Ends f∧(0 < one.length∨0 < other.length→0 < f.length)∧DvF p (zc f) (zc one)∧DvF p (zc f) (zc other):=by
 intro n
 have ne:∀ one other:List Int,f2 gNe (fVar 2) (eTup aNil) [.val (.int p),.val (.tuple (one.map .int)),.val (.tuple (other.map .int))] s=some (.bool (decide (other≠[])),s):=fun one other =>
  z8 (a:=.tuple (other.map .int)) (b:=.tuple []) (s1:=s) rfl (z0q rfl (zJ (by simp))) (z3j other)
 have stop:∀ one m,Rs p one→Ends one→∃ f:List Int,whileN (asB (f2 gNe (fVar 2) (eTup aNil))) (sPar 1 2 (aCons (fVar 2) (aCons (fCall zN (aCons (fVar 0) (aCons (fVar 1) (aCons (fVar 2) aNil)))) aNil))) (m + 1) [.val (.int p),.val (.tuple (one.map .int)),.val (.tuple (([]:List Int).map .int))] s=some (.next [.val (.int p),.val (.tuple (f.map .int)),.val (.tuple [])],s) ∧
   Rs p f∧Ends f∧(0 < one.length∨0 < ([]:List Int).length→0 < f.length)∧DvF p (zc f) (zc one)∧DvF p (zc f) (zc []):=fun one m hR hE =>
  ⟨one,zR (z0j ((ne one []).trans (by rw[decide_eq_false (fun z=>z rfl)]))),hR,hE,fun h=>h.elim id fun z=>absurd z (Nat.lt_irrefl _),DvF.refl,DvF.zero⟩
 induction n with
 | zero =>
  intro one other hn _ _ r1 _ e1 _
  cases List.eq_nil_of_length_eq_zero (Nat.le_zero.mp hn)
  exact stop one 0 r1 e1
 | succ n ih =>
  intro one other hn l1 l2 r1 r2 e1 e2
  by_cases h0:other=[]
  ·subst h0;exact stop one (n + 1) r1 e1
  ·have lo:0 < other.length:=List.length_pos_iff.mpr h0
   obtain⟨r,er,L⟩:=zcb (od:=.tuple (one.map .int)) (othd:=.tuple (other.map .int)) s hp rfl rfl r1 r2 lo e1 e2 l1
   obtain⟨f,ef,h2,h3,h5,h6,h7⟩:=ih other r (by have:=L.lt;omega) l2 (by have:=L.lt;omega) r2 L.rs e2 L.en
   refine⟨f,z0p (z0j ((ne one other).trans (by rw[decide_eq_true h0]))) ?_ ef,h2,h3,fun _=>h5 (.inl lo),?_,h6⟩
   ·unfold sPar
    rw[z7 (F:=fVar 2) (d:=.tuple (other.map .int)) (s1:=s) rfl (z7 (d:=.tuple (r.map .int)) (FL:=aNil) (ze (ds:=[.int p,.tuple (one.map .int),.tuple (other.map .int)]) rfl er) rfl)]
    rfl
   ·obtain⟨N,q,hq⟩:=L.eq
    refine((h6.conv (a:=q) N).add h7).congr fun k=>?_
    obtain⟨a,ha⟩:=hq k
    exact⟨a,by grind⟩
theorem zdg{p:Int}{one other:List Int}(s:Sx)(hp:Prm p)(l1:one.length≤200)(l2:other.length≤200)(r1:Rs p one)(r2:Rs p other)(e1:Ends one)(e2:Ends other)(h0:0 < one.length) :
  ∃ f:List Int,zD [.int p,.tuple (one.map .int),.tuple (other.map .int)] s=some (.tuple (f.map .int),s)∧Rs p f∧Ends f∧0 < f.length∧DvF p (zc f) (zc one)∧DvF p (zc f) (zc other):=by
 obtain⟨f,e,h2,h3,h5,h6,h7⟩:=zbA s hp other.length one other (Nat.le_refl _) l1 l2 r1 r2 e1 e2
 exact⟨f,z09 (n:=3) (m:=0) (G:=z1D) rfl (zk (zZ e (by unfold fuel;omega)) rfl),h2,h3,h5 (.inl h0),h6,h7⟩
theorem z8o{Fa Fb:FE}{δ:Sl}{s s1:Sx}{r:Option (D × Sx)}(h:Fa δ s=some (.bool true,s1))(e:Fb δ s1=r):eAnd Fa Fb δ s=r:=by
 unfold eAnd;rw[h];exact e
theorem z6A{Ga Gb:FT}{δ:Sl}{s s1:Sx}(h:Ga δ s=some (false,s1)):tAndF Ga Gb δ s=some (false,s1):=by
 unfold tAndF;rw[h];rfl
theorem z0X{F:FE}{δ:Sl}{s s1:Sx}{d:D}(h:F δ s=some (d,s1)):sRet F δ s=some (.ret d,s1):=by
 unfold sRet;rw[h];rfl
theorem zbB{g g':G2}{Fa Fb Fc:FE}{δ:Sl}{s s1 s2 s3:Sx}{a b c d:D}(h:Fa δ s=some (a,s1))(h':Fb δ s1=some (b,s2))(e:g a b=some (.bool true))(h2:Fc δ s2=some (c,s3))(e':g' b c=some d):fChain g g' Fa Fb Fc δ s=some (d,s3):=by
 unfold fChain;rw[h];simp only[Option.bind_some,h',e,h2,e',Option.map_some]
theorem zbC{i:Nat}{T:Tgt}{G:GS}{d:D}{l:List D}{δ:Sl}{s:Sx}{r:Option (Out × Sx)}(hi:δ[i]?=some (.val d))(h:seqOf d=some l)(e:forD T G l δ s=r):sFor (iSeq (fVar i)) T G δ s=r:=by
 unfold sFor iSeq fVar;rw[hi];simp only[Option.bind_some,h,Option.map_some];exact e
theorem z8p{l:List D}:gAll (.list (l.map fun _=>PyData.bool true))=some (.bool true):=by
 have h:bools (l.map fun _=>PyData.bool true)=some (l.map fun _=>true):=by
  induction l with
  | nil=>rfl
  | cons a l ih=>rw[List.map_cons,List.map_cons,bools,ih];rfl
 unfold gAll
 dsimp only
 rw[h]
 show some (PyData.bool _)=_
 congr 2
 rw[List.all_eq_true]
 intro x hx
 obtain⟨_,_,rfl⟩:=List.mem_map.mp hx
 rfl
theorem z8q{p:Int}{thing c2:D}{l:List Int}(s:Sx)(hr:Rs p l)(he:Ends l)(hl:l.length≤1000) :
  z17 [.val (.int p),.val thing,.val (.tuple (l.map .int))] s=some (.next [.val (.int p),.val thing,.val (.tuple (l.map .int))],s):=by
 have al:asL z16 [.val (.int p),.val thing,.val (.tuple (l.map .int))] s=some (.list ((l.map PyData.int).map fun _=>PyData.bool true),s):=by
  refine z1T (ds:=l.map .int) (s1:=s) rfl (by rw[List.length_map];omega) (z3g (f:=fun _=>PyData.bool true) _ fun d hd=>?_)
  obtain⟨z,hz,rfl⟩:=List.mem_map.mp hd
  obtain⟨h0,h1⟩:=hr z hz
  refine⟨[.val (.int z),.val (.int p)],rfl,rfl,z8o (s1:=s) rfl (z8o (s1:=s) rfl ?_)⟩
  have a:gLe (.int 0) (.int z)=some (.bool true):=by simp only[gLe,gI,if_true];rw[decide_eq_true h0]
  have b:gLt (.int z) (.int p)=some (.bool true):=by simp only[gLt,gI,if_true];rw[decide_eq_true h1]
  exact zbB (s1:=s) (s2:=s) rfl rfl a rfl b
 refine zk (δ1:=[.val (.int p),.val thing,.val (.tuple (l.map .int))]) (s1:=s) (z0i (z5t (s1:=s) rfl ?_)) (z0i (z31 (b:=true) (z6s (zB al z8p))))
 by_cases h0:l=[]
 ·subst h0
  exact z6A (z0j (z8 (a:=.tuple []) (b:=.tuple []) (s1:=s) rfl rfl (z3j [])))
 ·have lp:0 < l.length:=List.length_pos_iff.mpr h0
  refine z3H (s1:=s) (z0j (z8 (a:=.tuple (l.map .int)) (b:=.tuple []) (s1:=s) rfl rfl ((z3j l).trans (by rw[decide_eq_true h0])))) (z0j (z8 (a:=.int (zc l (l.length - 1))) (b:=.int 0) (s1:=s) (z8 (a:=.tuple (l.map .int)) (b:=.int (-1)) rfl rfl (z6u rfl lp)) rfl ?_))
  rw[z1d,decide_eq_false (he lp)]
theorem zdh{p:Int}{top below T B:List Int}(s:Sx)(hp:Prm p)(L:Low p top below T B):zH [.int p,.tuple [.tuple (T.map .int),.tuple (B.map .int)]] s=some (.bool true,s):=by
 obtain⟨f,ef,rf,nf,f0,d1,d2⟩:=zdg s hp (by have:=L.lB;omega) (by have:=L.lT;omega) L.rB L.rT L.nB L.nT L.b0
 have hf:=L.co f rf nf f0 d1 d2
 refine z09 (n:=2) (m:=1) (G:=z1x) rfl (zk (δ1:=[.val (.int p),.val (.tuple [.tuple (T.map .int),.tuple (B.map .int)]),.non]) (s1:=s) (z0i (z5t (s1:=s) rfl (z0j (z8 (a:=.int 2) (b:=.int 2) (s1:=s) rfl rfl rfl)))) (zk (δ1:=[.val (.int p),.val (.tuple [.tuple (T.map .int),.tuple (B.map .int)]),.val (.tuple (B.map .int))]) (s1:=s) ?_ (z0X ?_)))
 ·exact zbC (i:=1) rfl rfl (z5s rfl (z8q (c2:=.none) s L.rT L.nT (by have:=L.lT;omega)) (z5s rfl (z8q (c2:=.none) s L.rB L.nB (by have:=L.lB;omega)) rfl))
 ·refine z8o (s1:=s) (z8 (a:=.tuple (B.map .int)) (b:=.tuple []) (s1:=s) (z8 (a:=.tuple [.tuple (T.map .int),.tuple (B.map .int)]) (b:=.int 1) rfl rfl rfl) rfl ((z3j B).trans (by rw[decide_eq_true (List.length_pos_iff.mp L.b0)]))) (z8o (s1:=s) (z8 (a:=.int (zc B 0)) (b:=.int 1) (s1:=s) (z8 (a:=.tuple (B.map .int)) (b:=.int 0) (s1:=s) (z8 (a:=.tuple [.tuple (T.map .int),.tuple (B.map .int)]) (b:=.int 1) rfl rfl rfl) rfl (z0x (k:=0) rfl L.b0)) rfl (by rw[z1d,L.one];rfl)) ?_)
  refine z8 (a:=.int (f.length:Int)) (b:=.int 1) (s1:=s) (zB (a:=.tuple (f.map .int)) (ze (ds:=[.int p,.tuple (B.map .int),.tuple (T.map .int)]) (z7 (F:=fVar 0) rfl (z7 (z8 (a:=.tuple [.tuple (T.map .int),.tuple (B.map .int)]) (b:=.int 1) rfl rfl rfl) (z7 (FL:=aNil) (z8 (a:=.tuple [.tuple (T.map .int),.tuple (B.map .int)]) (b:=.int 0) rfl rfl rfl) rfl))) ef) (by rw[z0Y (xs:=f.map .int) rfl,List.length_map])) rfl ?_
  rw[z1d,hf];rfl
theorem zav{P:Int→Prop}:∀ {xs:List D},(∀ x∈xs,∃ z,x=.int z∧P z)→∃ l:List Int,xs=l.map .int∧∀ z∈l,P z
 | [],_=>⟨[],rfl,fun _ z=>nomatch z⟩
 | x::xs,h=>by
  obtain⟨l,e,hl⟩:=zav (xs:=xs) fun y hy=>h y (List.mem_cons_of_mem _ hy)
  obtain⟨z,rfl,hz⟩:=h x List.mem_cons_self
  exact⟨z::l,by rw[e];rfl,fun y hy=>by
   rcases List.mem_cons.mp hy with rfl | hy
   ·exact hz
   ·exact hl y hy⟩
theorem z5y{p:Int}(hp:Prm p)(m n:Nat)(s:Sx)(h:Good (n + m) s):∃ (l:List Int) (s':Sx),compD (.one 0) fTrue (fCall z9 (aCons (fVar 1) (aCons (fVar 2) aNil))) [.non,.val (.dict []),.val (.int p)] (rng 0 m) s=some (l.map .int,s')∧Rs p l∧l.length=m∧Good n s':=by
 have ht:=hp.two
 obtain⟨xs,s',e,hx,hl,g⟩:=z74 (T:=.one 0) (Ft:=fTrue) (F:=fCall z9 (aCons (fVar 1) (aCons (fVar 2) aNil))) (δc:=[.non,.val (.dict []),.val (.int p)]) (fun d=>∃ z,d=.int z∧(0≤z∧z < p)) 1 (fun n s d hg=>by
  obtain⟨r,s1,e1,r0,r1,g1⟩:=z7Q (M:=p) hg (by omega) (by omega)
  exact⟨[.val d,.val (.dict []),.val (.int p)],.int r,s1,rfl,rfl,ze (ds:=[.dict [],.int p]) rfl e1,⟨r,rfl,r0,r1⟩,g1⟩) (rng 0 m) n s (by rw[z1b,Nat.one_mul];exact h)
 obtain⟨l,rfl,hr⟩:=zav hx
 rw[List.length_map,z1b]at hl
 exact⟨l,s',e,hr,hl,g⟩
theorem z8r{p:Int}(hp:Prm p):∀ (l:List Int) (n:Nat) (s:Sx),Rs p l→Good (n + l.length) s→∃ (l':List Int) (s':Sx),compD (.one 0) fTrue (f2 gMulI (fVar 0) (f1 gInt (f2 gEq (fCall z9 (aCons (fVar 1) (aCons (fC (.int 3)) aNil))) (fC (.int 0))))) [.non,.val (.dict [])] (l.map .int) s=some (l'.map .int,s')∧Rs p l'∧l'.length=l.length∧Good n s'
 | [],n,s,_,h=>⟨[],s,rfl,(fun _ z=>nomatch z),rfl,h⟩
 | a::l,n,s,hr,h=>by
  have ht:=hp.two
  have ha:=hr a List.mem_cons_self
  obtain⟨j,s1,e1,hj,g1⟩:=z0e (n:=n + l.length) (m:=3) (h.mono (by rw[List.length_cons];omega)) (by decide) (by decide)
  obtain⟨l',s2,e2,r2,n2,g2⟩:=z8r hp l n s1 (fun x hx=>hr x (List.mem_cons_of_mem _ hx)) g1
  have key:∀ b:Bool,decide ((j:Int)=0)=b→∃ v:Int,(0≤v∧v < p)∧f2 gMulI (fVar 0) (f1 gInt (f2 gEq (fCall z9 (aCons (fVar 1) (aCons (fC (.int 3)) aNil))) (fC (.int 0)))) [.val (.int a),.val (.dict [])] s=some (.int v,s1):=by
   intro b hb
   have hq:gEq (.int (j:Int)) (.int 0)=some (.bool b):=by rw[z1d,hb]
   have x1:=z8 (g:=gEq) (a:=.int (j:Int)) (b:=.int 0) (δ:=[.val (.int a),.val (.dict [])]) (s:=s) (s1:=s1) (s2:=s1) (Fa:=fCall z9 (aCons (fVar 1) (aCons (fC (.int 3)) aNil))) (Fb:=fC (.int 0)) (ze (ds:=[.dict [],.int 3]) rfl e1) rfl hq
   cases b with
   | true =>
    have:gMulI (.int a) (.int 1)=some (.int (a * 1)):=mulR (p:=p) (by omega) ha ⟨by omega,by omega⟩
    exact⟨a * 1,by omega,z8 (a:=.int a) (b:=.int 1) rfl (zB (a:=.bool true) x1 rfl) this⟩
   | false =>
    have:gMulI (.int a) (.int 0)=some (.int (a * 0)):=mulR (p:=p) (by omega) ha ⟨by omega,by omega⟩
    exact⟨a * 0,by omega,z8 (a:=.int a) (b:=.int 0) rfl (zB (a:=.bool false) x1 rfl) this⟩
  obtain⟨v,hv,ev⟩:=key _ rfl
  refine⟨v::l',s2,?_,fun x hx=>?_,by simp[n2],g2⟩
  ·rw[List.map_cons]
   unfold compD
   rw[show Tgt.run (.one 0) (.int a) [.non,.val (.dict [])]=some [.val (.int a),.val (.dict [])] from rfl]
   simp only[Option.bind_some,fTrue,if_true,ev,e2,Option.map_some]
   rfl
  ·rcases List.mem_cons.mp hx with rfl | hx
   ·exact hv
   ·exact r2 x hx
theorem z8s{p:Int}{most n:Nat}(hp:Prm p)(hm:most≤12)(s:Sx)(h:Good (n + 30) s):∃ (l:List Int) (s':Sx),zY [.dict [],.int p,.int (most:Int)] s=some (.tuple (l.map .int),s')∧Rs p l∧Ends l∧l.length≤13∧Good n s':=by
 have ht:=hp.two
 obtain⟨u,s1,e1,hu,g1⟩:=z0e (n:=n + 29) (m:=3) h (by decide) (by decide)
 obtain⟨m,s2,e2,hm2,g2⟩:=z0e (n:=n + 28) (m:=most + 2) g1 (by omega) (by omega)
 obtain⟨l,s3,e3,r3,l3,g3⟩:=z5y hp m (n + 13) s2 (g2.mono (by omega))
 have a1:sSet 3 (f2 gEq (fCall z9 (aCons (fVar 0) (aCons (fC (.int 3)) aNil))) (fC (.int 0))) [.val (.dict []),.val (.int p),.val (.int (most:Int)),.non,.non] s=some (.next [.val (.dict []),.val (.int p),.val (.int (most:Int)),.val (.bool (decide ((u:Int)=0))),.non],s1):=zu (z8 (a:=.int (u:Int)) (b:=.int 0) (ze (ds:=[.dict [],.int 3]) rfl e1) rfl (z1d _ _))
 have a2:sSetL 4 z1F [.val (.dict []),.val (.int p),.val (.int (most:Int)),.val (.bool (decide ((u:Int)=0))),.non] s1=some (.next [.val (.dict []),.val (.int p),.val (.int (most:Int)),.val (.bool (decide ((u:Int)=0))),.val (.list (l.map .int))],s3):=by
  unfold sSetL z1F fComp
  rw[zT (n:=m) (ze (ds:=[.dict [],.int ((most + 2:Nat):Int)]) (z7 (F:=fVar 0) rfl (z7 (FL:=aNil) (z8 (a:=.int (most:Int)) (b:=.int 2) rfl rfl (by simp[gAdd,gAddI,gI])) rfl)) e2) (by omega)]
  simp only[Option.bind_some]
  rw[if_pos (zJ (by rw[z1b];omega))]
  show((compD _ _ _ [.non,.val (.dict []),.val (.int p)] (rng 0 m) s2).map _)=_
  rw[e3];rfl
 obtain⟨l',s4,r4,l4,g4,a3⟩:∃ (l':List Int) (s4:Sx),Rs p l'∧l'.length≤13∧Good n s4∧sIf (asT (fVar 3)) (sSetL 4 z1G) sNext [.val (.dict []),.val (.int p),.val (.int (most:Int)),.val (.bool (decide ((u:Int)=0))),.val (.list (l.map .int))] s3=some (.next [.val (.dict []),.val (.int p),.val (.int (most:Int)),.val (.bool (decide ((u:Int)=0))),.val (.list (l'.map .int))],s4):=by
  have tu:asT (fVar 3) [.val (.dict []),.val (.int p),.val (.int (most:Int)),.val (.bool (decide ((u:Int)=0))),.val (.list (l.map .int))] s3=some (decide ((u:Int)=0),s3):=z6s rfl
  by_cases hz:(u:Int)=0
  ·rw[decide_eq_true hz]at tu ⊢
   obtain⟨l',s4,e4,r4,l4,g4⟩:=z8r hp l n s3 r3 (g3.mono (by omega))
   refine⟨l',s4,r4,by omega,g4,z5I tu ?_⟩
   unfold sSetL z1G fComp
   rw[show iSeq (fVar 4) [.val (.dict []),.val (.int p),.val (.int (most:Int)),.val (.bool true),.val (.list (l.map .int))] s3=some (l.map .int,s3) from rfl]
   simp only[Option.bind_some]
   rw[if_pos (zJ (by rw[List.length_map];omega))]
   show((compD _ _ _ [.non,.val (.dict [])] (l.map .int) s3).map _)=_
   rw[e4];rfl
  ·rw[decide_eq_false hz]at tu ⊢
   exact⟨l,s3,r3,by omega,g3.mono (by omega),zaa tu rfl⟩
 refine⟨tz l',s4,z09 (n:=3) (m:=2) (G:=z1m) rfl ?_,r4.tz,fun h=>z5u h,by have:=zaf l';omega,g4⟩
 show z1m [.val (.dict []),.val (.int p),.val (.int (most:Int)),.non,.non] s=_
 unfold z1m
 rw[zF a1,zF a2,zF a3]
 unfold sRet
 exact congrArg (Option.map _) (ze (ds:=[.list (l'.map .int)]) rfl (z6x s4 rfl (by omega)))
theorem zaw{n:Nat}{s:Sx}(h:Good (n + 1) s):∃ p s',z1w [.dict []] s=some (.int p,s')∧Prm p∧Good n s':=by
 obtain⟨j,s1,e1,hj,g1⟩:=z0e (n:=n) (m:=8) h (by decide) (by decide)
 obtain⟨p,hp,ei⟩:∃ p,Prm p∧gIx (.list [(.int 2),(.int 3),(.int 5),(.int 7),(.int 11),(.int 13),(.int 101),(.int 997)]) (.int (j:Int))=some (.int p):=by
  have:j=0∨j=1∨j=2∨j=3∨j=4∨j=5∨j=6∨j=7:=by omega
  rcases this with rfl | rfl | rfl | rfl | rfl | rfl | rfl | rfl
  ·exact⟨2,⟨2,by decide,rfl⟩,rfl⟩
  ·exact⟨3,⟨3,by decide,rfl⟩,rfl⟩
  ·exact⟨5,⟨5,by decide,rfl⟩,rfl⟩
  ·exact⟨7,⟨7,by decide,rfl⟩,rfl⟩
  ·exact⟨11,⟨11,by decide,rfl⟩,rfl⟩
  ·exact⟨13,⟨13,by decide,rfl⟩,rfl⟩
  ·exact⟨101,⟨101,by decide,rfl⟩,rfl⟩
  ·exact⟨997,⟨997,by decide,rfl⟩,rfl⟩
 refine⟨p,s1,z09 (n:=1) (m:=0) (G:=z24) rfl ?_,hp,g1⟩
 show z24 [.val (.dict [])] s=_
 unfold z24 sRet
 exact congrArg (Option.map _) (z8 (s1:=s) rfl (ze (ds:=[.dict [],.int 8]) rfl e1) ei)
def dt(a v:Nat→Int):Nat→Int
 | 0=>0
 | n + 1=>dt a v n + a n * v n
theorem zax{p:Int}{a v:Nat→Int}:∀ n,(∀ j,j < n→p∣a j * v j)→p∣dt a v n
 | 0,_=>⟨0,by simp[dt]⟩
 | n + 1,h=>by
  obtain⟨x,hx⟩:=zax n fun j hj=>h j (by omega)
  obtain⟨y,hy⟩:=h n (by omega)
  exact⟨x + y,by rw[dt];grind⟩
theorem zcd{p:Int}{a v:Nat→Int}{i:Nat}:∀ n,i < n→(∀ j,j < n→j≠i→p∣a j * v j)→p∣dt a v n - a i * v i
 | 0,h,_=>absurd h (Nat.not_lt_zero _)
 | n + 1,h,k=>by
  by_cases e:i=n
  ·subst e
   obtain⟨x,hx⟩:=zax (p:=p) (a:=a) (v:=v) i fun j hj=>k j (by omega) (by omega)
   exact⟨x,by rw[dt];grind⟩
  ·obtain⟨x,hx⟩:=zcd n (by omega) fun j hj hn=>k j (by omega) hn
   obtain⟨y,hy⟩:=k n (by omega) (by omega)
   exact⟨x + y,by rw[dt];grind⟩
theorem z8t{p s x y:Int}{r o f v:Nat→Int}:∀ n,(∀ j,j < n→p∣r j * s - (x * o j - y * f j))→p∣dt r v n * s - (x * dt o v n - y * dt f v n)
 | 0,_=>⟨0,by simp[dt]⟩
 | n + 1,h=>by
  obtain⟨a,ha⟩:=z8t (v:=v) n fun j hj=>h j (by omega)
  obtain⟨b,hb⟩:=h n (by omega)
  refine⟨a + b * v n,?_⟩
  rw[dt,dt,dt]
  grind
theorem z8u{a b v:Nat→Int}:∀ n,(∀ j,j < n→a j=b j)→dt a v n=dt b v n
 | 0,_=>rfl
 | n + 1,h=>by rw[dt,dt,z8u n fun j hj=>h j (by omega),h n (by omega)]
def ds_(a v:Nat→Int)(lo:Nat):Nat→Int
 | 0=>0
 | n + 1=>ds_ a v lo n + a (lo + n) * v (lo + n)
theorem z6B{a v:Nat→Int}{lo:Nat}(h:∀ j,j < lo→a j=0):∀ n,dt a v (lo + n)=ds_ a v lo n
 | 0=>by
  rw[ds_,Nat.add_zero]
  induction lo with
  | zero=>rfl
  | succ lo ih=>rw[dt,ih fun j hj=>h j (by omega),h lo (by omega)];omega
 | n + 1=>by
  show dt a v (lo + n + 1)=_
  rw[dt,ds_,z6B h n]
theorem zay{a v:Nat→Int}{lo:Nat}:∀ n,ds_ a v lo (n + 1)=a lo * v lo + ds_ a v (lo + 1) n
 | 0=>by simp[ds_]
 | n + 1=>by
  rw[ds_,zay n,ds_,show lo + (n + 1)=lo + 1 + n by omega]
  omega
theorem z6C{a v v':Nat→Int}{lo:Nat}:∀ n,(∀ j,lo≤j→v j=v' j)→ds_ a v lo n=ds_ a v' lo n
 | 0,_=>rfl
 | n + 1,h=>by rw[ds_,ds_,z6C n h,h _ (by omega)]
def Sol(p:Int)(w:Nat)(E:List (List Int))(v:Nat→Int):Prop:=∀ r∈E,p∣dt (zc r) v w
def Piv(P:List (List Int)):Prop:=∀ i r,P[i]?=some r→zc r i≠0∧∀ j,j < i→zc r j=0
structure Mat(p:Int)(w:Nat)(E:List (List Int)):Prop where
 rs:∀ r∈E,Rs p r
 ln:∀ r∈E,r.length=w
theorem Piv.nil{p:Int}(hp:Prm p){w:Nat}{P:List (List Int)}(h:Piv P)(M:Mat p w P){v:Nat→Int}(hw:P.length≤w)(hv:∀ j,P.length≤j→p∣v j)(S:Sol p w P v):∀ j,p∣v j:=by
 have ht:=hp.two
 have key:∀ k,k≤P.length→∀ j,P.length - k≤j→p∣v j:=by
  intro k
  induction k with
  | zero=>exact fun _ j hj=>hv j (by omega)
  | succ k ih =>
   intro hk j hj
   by_cases e:P.length - k≤j
   ·exact ih (by omega) j e
   ·have hj':j < P.length:=by omega
    have er:P[j]?=some P[j]:=List.getElem?_eq_getElem hj'
    have hm:P[j]∈P:=List.getElem_mem hj'
    obtain⟨h1,h2⟩:=h j _ er
    have d:=S _ hm
    have d1:=zcd (p:=p) (a:=zc P[j]) (v:=v) (i:=j) w (by omega) fun i hi hn=>by
     by_cases hl:i < j
     ·rw[h2 i hl,Int.zero_mul];exact⟨0,by omega⟩
     ·obtain⟨x,hx⟩:=ih (by omega) i (by omega)
      exact⟨zc P[j] i * x,by rw[hx];grind⟩
    obtain⟨x,hx⟩:=d
    obtain⟨y,hy⟩:=d1
    have hu:=(M.rs _ hm).zc (by omega) j
    exact hp.dvd (b:=zc P[j] j) ⟨x - y,by grind⟩ (z2g hu.1 hu.2 h1)
 exact fun j=>key P.length (Nat.le_refl _) j (by omega)
def rowD(r:List Int):D:=.list (r.map .int)
def matD(E:List (List Int)):D:=.list (E.map rowD)
theorem zbD{f o:List Int}{t:Nat}{d:D}(hl:f.length=o.length)(h:(((f.map PyData.int).zip (o.map PyData.int)).map fun z=>PyData.tuple [z.1,z.2])[t]?=some d):t < f.length∧d=.tuple [.int (zc f t),.int (zc o t)]:=by
 rw[List.getElem?_map]at h
 obtain⟨z,hz,rfl⟩:=Option.map_eq_some_iff.mp h
 have ht:t < f.length:=by
  have:=(List.getElem?_eq_some_iff.mp hz).1
  simp at this
  omega
 rw[List.getElem?_zip_eq_some]at hz
 obtain⟨h1,h2⟩:=hz
 rw[z5Z ht]at h1
 rw[z5Z (by omega)]at h2
 refine⟨ht,?_⟩
 rw[← Option.some.inj h1,← Option.some.inj h2]
theorem z7U{p share:Int}{f o:List Int}{c w:Nat}(s:Sx)(hp:Prm p)(hf:Rs p f)(ho:Rs p o)(lf:f.length=w)(lo:o.length=w)(hc:c < w)(hs:0 < share∧share < p)(hw:w≤100) :
  ∃ r:List Int,z2q [fieldP p,rowD f,rowD o,.int (c:Int),.int share] s=some (rowD r,s)∧Rs p r∧r.length=w∧∀ j,j < w→p∣zc r j * share - (zc f c * zc o j - zc o c * zc f j):=by
 have ht:=hp.two
 have fc:gIx (rowD f) (.int (c:Int))=some (.int (zc f c)):=z0x (d:=rowD f) rfl (by omega)
 have oc:gIx (rowD o) (.int (c:Int))=some (.int (zc o c)):=z0x (d:=rowD o) rfl (by omega)
 obtain⟨δ',s',e,hs',r,c6,c7,c8,hδ,hr,hl,hd⟩:=z2b (T:=.tup [6,7]) (G:=z5j) (fun t δ s'=>s'=s∧∃ (r:List Int) (c6 c7 c8:Ce),δ=[.val (fieldP p),.val (rowD f),.val (rowD o),.val (.int (c:Int)),.val (.int share),.own (r.map .int),c6,c7,c8]∧Rs p r∧r.length=t∧∀ j,j < t→p∣zc r j * share - (zc f c * zc o j - zc o c * zc f j))
  (((f.map PyData.int).zip (o.map PyData.int)).map fun z=>PyData.tuple [z.1,z.2]) [.val (fieldP p),.val (rowD f),.val (rowD o),.val (.int (c:Int)),.val (.int share),.own [],.non,.non,.non] s ⟨rfl,[],.non,.non,.non,rfl,(fun _ z=>nomatch z),rfl,fun j hj=>absurd hj (Nat.not_lt_zero _)⟩
  (fun t d δ s' hd zgl=>by
   obtain⟨hs',r,c6,c7,c8,hδ,hr,hl,hk⟩:=zgl
   subst hs' hδ
   obtain⟨htf,rfl⟩:=zbD (by omega) hd
   have h1:=hf.zc (by omega) c
   have h2:=ho.zc (by omega) t
   have h3:=ho.zc (by omega) c
   have h4:=hf.zc (by omega) t
   have hg:=z1N (p:=p) (x:=(zc f c * zc o t).fmod p - (zc o c * zc f t).fmod p) (by omega)
   obtain⟨q,eq,rq,dq⟩:=divP hp hg hs
   refine⟨[.val (fieldP p),.val (rowD f),.val (rowD o),.val (.int (c:Int)),.val (.int share),.own (r.map .int),.val (.int (zc f t)),.val (.int (zc o t)),c8],[.val (fieldP p),.val (rowD f),.val (rowD o),.val (.int (c:Int)),.val (.int share),.own ((r++[q]).map .int),.val (.int (zc f t)),.val (.int (zc o t)),.val (.int (((zc f c * zc o t).fmod p - (zc o c * zc f t).fmod p).fmod p))],s',rfl,?_,rfl,r++[q],_,_,_,rfl,?_,by simp[hl],fun j hj=>?_⟩
   ·refine zk (zu (methP (p:=p) (Fo:=fVar 0) rfl (z7 (methP (p:=p) (Fo:=fVar 0) rfl (z7 (z8 (a:=rowD f) (b:=.int (c:Int)) (s1:=s') rfl rfl fc) (z7 (F:=fVar 7) (FL:=aNil) rfl rfl)) (mulP s' (by omega) (by omega) h1 h2) rfl) (z7 (FL:=aNil) (methP (p:=p) (Fo:=fVar 0) rfl (z7 (z8 (a:=rowD o) (b:=.int (c:Int)) (s1:=s') rfl rfl oc) (z7 (F:=fVar 6) (FL:=aNil) rfl rfl)) (mulP s' (by omega) (by omega) h3 h4) rfl) rfl)) (subP s' (by omega)) rfl)) ?_
    refine(z4P (xs:=r.map .int) (methP (p:=p) (Fo:=fVar 0) rfl (z7 (F:=fVar 8) rfl (z7 (F:=fVar 4) (FL:=aNil) rfl rfl)) (eq s') rfl) rfl (by rw[List.length_map];omega)).trans ?_
    rw[List.map_append];rfl
   ·intro x hx
    rcases List.mem_append.mp hx with h | h
    ·exact hr x h
    ·rw[List.mem_singleton.mp h];exact rq
   ·by_cases ej:j < t
    ·rw[zas (by omega)];exact hk j ej
    ·obtain rfl:j=t:=by omega
     rw[zat hl.symm]
     obtain⟨a,ha⟩:=dq
     obtain⟨b,hb⟩:=z0M (p:=p) (x:=(zc f c * zc o j).fmod p - (zc o c * zc f j).fmod p) (by omega)
     obtain⟨x,hx⟩:=z0M (p:=p) (x:=zc f c * zc o j) (by omega)
     obtain⟨y,hy⟩:=z0M (p:=p) (x:=zc o c * zc f j) (by omega)
     exact⟨a + b + x - y,by grind⟩)
 subst hs' hδ
 have el:(((f.map PyData.int).zip (o.map PyData.int)).map fun z=>PyData.tuple [z.1,z.2]).length=w:=by simp;omega
 rw[el]at hl hd
 refine⟨r,z09 (n:=5) (m:=4) (G:=z3X) rfl ?_,hr,hl,hd⟩
 show z3X [.val (fieldP p),.val (rowD f),.val (rowD o),.val (.int (c:Int)),.val (.int share),.non,.non,.non,.non] s'=_
 unfold z3X
 refine zk (δ1:=[.val (fieldP p),.val (rowD f),.val (rowD o),.val (.int (c:Int)),.val (.int share),.own [],.non,.non,.non]) (z1a (z4Q rfl (zJ (by simp)))) (zk (δ1:=[.val (fieldP p),.val (rowD f),.val (rowD o),.val (.int (c:Int)),.val (.int share),.own (r.map .int),c6,c7,c8]) (s1:=s') ?_ ?_)
 ·unfold z5k sFor
  rw[show iZipF (fVar 1) (fVar 2) [.val (fieldP p),.val (rowD f),.val (rowD o),.val (.int (c:Int)),.val (.int share),.own [],.non,.non,.non] s'=some (((f.map PyData.int).zip (o.map PyData.int)).map fun z=>PyData.tuple [z.1,z.2],s') from rfl]
  exact e
 ·rfl
theorem ix_list{xs:List D}{k:Nat}{d:D}(h:xs[k]?=some d):gIx (.list xs) (.int (k:Int))=some d:=by
 unfold gIx
 exact L3.atI_nat h
theorem z8v{E:List (List Int)}{k:Nat}{r:List Int}(h:E[k]?=some r):gIx (matD E) (.int (k:Int))=some (rowD r):=ix_list (by rw[List.getElem?_map,h];rfl)
theorem z7h{p:Int}{P:List (List Int)}{c w:Nat}{rd:D}(s:Sx)(hc:c < w):∀ (R R0:List (List Int)) (c3:Ce),(∀ r∈R,r.length=w) →
  (∃ c3',forD (.one 3) z1P (rng ((R0.length:Nat):Int) R.length) [.val (fieldP p),.val (matD (R0++R)),.val (.int (c:Int)),c3] s=some (.next [.val (fieldP p),.val (matD (R0++R)),.val (.int (c:Int)),c3'],s)∧∀ r∈R,zc r c=0) ∨
  ∃ R1 f R2,R=R1++f::R2∧zc f c≠0∧forD (.one 3) z1P (rng ((R0.length:Nat):Int) R.length) [.val (fieldP p),.val (matD (R0++R)),.val (.int (c:Int)),c3] s=some (.ret (.int ((R0.length + R1.length:Nat):Int)),s)
 | [],R0,c3,_=>.inl ⟨c3,rfl,(fun _ z=>nomatch z)⟩
 | f::R,R0,c3,h=>by
  have er:(R0++f::R)[R0.length]?=some f:=by simp
  have hf:=h f List.mem_cons_self
  have t0:asB (f2 gNe (f2 gIx (f2 gIx (fVar 1) (fVar 3)) (fVar 2)) (f1 (gFld ["PrimeField"] "nought") (fVar 0))) [.val (fieldP p),.val (matD (R0++f::R)),.val (.int (c:Int)),.val (.int ((R0.length:Nat):Int))] s=some (decide (zc f c≠0),s) :=
   z0j (z8 (a:=.int (zc f c)) (b:=.int 0) (s1:=s) (z8 (a:=rowD f) (b:=.int (c:Int)) (s1:=s) (z8 (a:=matD (R0++f::R)) (b:=.int ((R0.length:Nat):Int)) (s1:=s) rfl rfl (z8v er)) rfl (z0x (d:=rowD f) rfl (by omega))) (zB (a:=fieldP p) rfl (fldN p)) ((z7J _ _).trans (by rw[decide_not])))
  by_cases hz:zc f c=0
  ·have t1:=t0.trans (show _=some (false,s) by rw[decide_eq_false (fun z=>z hz)])
   have ih:=z7h (p:=p) (P:=P) (rd:=rd) s hc R (R0++[f]) (.val (.int ((R0.length:Nat):Int))) (fun r hr=>h r (List.mem_cons_of_mem _ hr))
   have ea:R0++[f]++R=R0++f::R:=by simp
   have el:((R0++[f]).length:Int)=((R0.length:Nat):Int) + 1:=by simp
   rw[ea,show(((R0++[f]).length:Nat):Int)=((R0.length:Nat):Int) + 1 from el]at ih
   have st:∀ {x},forD (.one 3) z1P (rng (((R0.length:Nat):Int) + 1) R.length) [.val (fieldP p),.val (matD (R0++f::R)),.val (.int (c:Int)),.val (.int ((R0.length:Nat):Int))] s=x→forD (.one 3) z1P (rng ((R0.length:Nat):Int) (f::R).length) [.val (fieldP p),.val (matD (R0++f::R)),.val (.int (c:Int)),c3] s=x:=fun{x} e=>by
    rw[List.length_cons,z8m]
    exact z5s rfl (z0i t1) e
   rcases ih with ⟨c3',e,hz'⟩ | ⟨R1,g,R2,rfl,hg,e⟩
   ·exact .inl ⟨c3',st e,fun r hr=>(List.mem_cons.mp hr).elim (fun q=>q ▸ hz) (hz' r)⟩
   ·refine .inr ⟨f::R1,g,R2,rfl,hg,(st e).trans ?_⟩
    rw[show(R0++[f]).length + R1.length=R0.length + (f::R1).length by simp;omega]
  ·refine .inr ⟨[],f,R,rfl,hz,?_⟩
   have t1:=t0.trans (show _=some (true,s) by rw[decide_eq_true hz])
   rw[List.length_cons,z8m]
   refine zau rfl (z5I t1 ?_)
   show some (Out.ret (.int ((R0.length:Nat):Int)),s)=_
   simp
theorem z3k{p:Int}{P R:List (List Int)}{w:Nat}(s:Sx)(hw:P.length < w)(hR:∀ r∈R,r.length=w)(hl:P.length + R.length≤100) :
  (z0I [fieldP p,matD (P++R),.int (P.length:Int)] s=some (.none,s)∧∀ r∈R,zc r P.length=0)∨∃ R1 f R2,R=R1++f::R2∧zc f P.length≠0∧z0I [fieldP p,matD (P++R),.int (P.length:Int)] s=some (.int ((P.length + R1.length:Nat):Int),s):=by
 have er:iRange2 (fVar 2) (f1 gLen (fVar 1)) [.val (fieldP p),.val (matD (P++R)),.val (.int (P.length:Int)),.non] s=some (rng (P.length:Int) R.length,s):=by
  have:=z2u (a:=P.length) (b:=P.length + R.length) (s:=s) (s1:=s) (s2:=s) (Fa:=fVar 2) (Fb:=f1 gLen (fVar 1)) (δ:=[.val (fieldP p),.val (matD (P++R)),.val (.int (P.length:Int)),.non]) rfl (zB (a:=matD (P++R)) rfl (by rw[z0Y (xs:=(P++R).map rowD) rfl,List.length_map,List.length_append])) (by omega) (by omega)
  rw[Nat.add_sub_cancel_left]at this
  exact this
 have go:∀ {x},forD (.one 3) z1P (rng (P.length:Int) R.length) [.val (fieldP p),.val (matD (P++R)),.val (.int (P.length:Int)),.non] s=x→z4e [.val (fieldP p),.val (matD (P++R)),.val (.int (P.length:Int)),.non] s=x:=fun{x} e=>by
  unfold z4e sFor
  rw[er];exact e
 rcases z7h (p:=p) (P:=P) (rd:=.none) s hw R P .non hR with ⟨c3,e,h⟩ | ⟨R1,f,R2,h1,h2,e⟩
 ·exact .inl ⟨z09 (n:=3) (m:=1) (G:=z6m) rfl (zk (go e) rfl),h⟩
 ·exact .inr ⟨R1,f,R2,h1,h2,z09 (n:=3) (m:=1) (G:=z6m) rfl (z3T (go e))⟩
inductive Two{α β:Type}(R:α→β→Prop):List α→List β→Prop
 | nil:Two R [] []
 | cons {a:α} {b:β} {as:List α} {bs:List β} (h:R a b) (t:Two R as bs):Two R (a::as) (b::bs)
theorem Two.len{α β:Type}{R:α→β→Prop}{as:List α}{bs:List β}(h:Two R as bs):bs.length=as.length:=by
 induction h with
 | nil=>rfl
 | cons h t ih=>simp[ih]
theorem Two.left{α β:Type}{R:α→β→Prop}{as:List α}{bs:List β}(h:Two R as bs):∀ b∈bs,∃ a∈as,R a b:=by
 induction h with
 | nil=>exact fun _ z=>nomatch z
 | cons h t ih =>
  intro b hb
  rcases List.mem_cons.mp hb with rfl | hb
  ·exact⟨_,List.mem_cons_self,h⟩
  ·obtain⟨a,ha,q⟩:=ih b hb;exact⟨a,List.mem_cons_of_mem _ ha,q⟩
theorem Two.right{α β:Type}{R:α→β→Prop}{as:List α}{bs:List β}(h:Two R as bs):∀ a∈as,∃ b∈bs,R a b:=by
 induction h with
 | nil=>exact fun _ z=>nomatch z
 | cons h t ih =>
  intro b hb
  rcases List.mem_cons.mp hb with rfl | hb
  ·exact⟨_,List.mem_cons_self,h⟩
  ·obtain⟨a,ha,q⟩:=ih b hb;exact⟨a,List.mem_cons_of_mem _ ha,q⟩
theorem z8w{α β:Type}{T:Tgt}{F:FE}{δc:Sl}{s:Sx}(R:α→β→Prop)(fa:α→D)(fb:β→D):∀ (as:List α),(∀ a∈as,∃ b δ1,T.run (fa a) δc=some δ1∧F δ1 s=some (fb b,s)∧R a b)→∃ bs,compD T fTrue F δc (as.map fa) s=some (bs.map fb,s)∧Two R as bs
 | [],_=>⟨[],rfl,.nil⟩
 | a::as,h=>by
  obtain⟨b,δ1,e1,e2,r⟩:=h a List.mem_cons_self
  obtain⟨bs,e3,t⟩:=z8w R fa fb as fun x hx=>h x (List.mem_cons_of_mem _ hx)
  refine⟨b::bs,?_,.cons r t⟩
  show((T.run (fa a) δc).bind fun δ1=>(fTrue δ1 s).bind fun p=>if p.1=true then (F δ1 p.2).bind fun q=>(compD T fTrue F δc (as.map fa) q.2).map fun r=>(q.1::r.1,r.2) else compD T fTrue F δc (as.map fa) p.2)=_
  rw[e1]
  simp only[Option.bind_some,fTrue,if_true,e2,e3];rfl
theorem zdi{xs ys:List D}:L3.cutD (xs++ys) none (some (xs.length:Int))=xs:=by
 unfold L3.cutD
 rw[HT.sIx_none,HT.sIx_nat,List.drop_zero,Nat.sub_zero,List.length_append,Nat.min_eq_left (by omega),List.take_left']
 rfl
theorem zdj{xs ys:List D}{n:Nat}(h:n=xs.length):L3.cutD (xs++ys) (some (n:Int)) none=ys:=by
 subst h
 unfold L3.cutD
 rw[HT.sIx_none,HT.sIx_nat,List.length_append,Nat.min_eq_left (by omega),List.drop_left,List.take_of_length_le (by omega)]
theorem zdk{xs ys zs:List D}{n:Nat}(h:n=xs.length + ys.length):L3.cutD (xs++(ys++zs)) (some (xs.length:Int)) (some (n:Int))=ys:=by
 subst h
 unfold L3.cutD
 rw[HT.sIx_nat,HT.sIx_nat,List.length_append,List.length_append,Nat.min_eq_left (by omega),Nat.min_eq_left (by omega),List.drop_left,Nat.add_sub_cancel_left,List.take_left']
 rfl
theorem catAL{a b:List D}(h:a.length + b.length≤1000):gAddA (.list a) (.list b)=some (.list (a++b)):=by
 unfold gAddA;rw[catL h];rfl
theorem z6D{Fa:FE}{Fl Fh:FP}{δ:Sl}{s:Sx}{xs ys:List D}{lo hi:Option Int}(ha:Fa δ s=some (.list xs,s))(hl:Fl δ s=some (lo,s))(hh:Fh δ s=some (hi,s))(e:L3.cutD xs lo hi=ys):fSl Fa Fl Fh δ s=some (.list ys,s):=by
 unfold fSl;rw[ha];simp only[Option.bind_some,hl,hh,gSlD,e];rfl
theorem z44{F:FE}{δ:Sl}{s:Sx}{i:Int}(h:F δ s=some (.int i,s)):pInt F δ s=some (some i,s):=by
 unfold pInt;rw[h];rfl
def Clr(p share:Int)(f:List Int)(c w:Nat)(o r:List Int):Prop:=Rs p r∧r.length=w∧∀ j,j < w→p∣zc r j * share - (zc f c * zc o j - zc o c * zc f j)
abbrev zdl:FT:=asB (f2 gIsNot (fVar 4) (fC .none))
theorem zdm{p share:Int}{P R1 R2:List (List Int)}{f:List Int}{w:Nat}{c5 c6 c7:Ce}(s:Sx)(hp:Prm p)(hw:w≤100)(hl:P.length + (R1.length + (R2.length + 1)) + 1=w)(MR:Mat p w (R1++f::R2))(hs:0 < share∧share < p) :
  ∃ R',Two (Clr p share f P.length w) (R1++R2) R'∧∀ {at':D},z0I [fieldP p,matD ((P++[f])++R'),.int ((P++[f]).length:Int)] s=some (at',s)→∃ c5' c6' c7':Ce,
   (sSeq (sPar 5 6 (aCons (fSl (fVar 1) pNo (pInt (fVar 2))) (aCons (f2 gAddA (fSl (fVar 1) (pInt (fVar 2)) (pInt (fVar 4))) (fSl (fVar 1) (pInt (f2 gAdd (fVar 4) (fC (.int 1)))) pNo)) aNil)))
 (sSeq (sSet 7 (f2 gIx (fVar 1) (fVar 4)))
 (sSeq (sSet 1 (f2 gAdd (f2 gAdd (fVar 5) (eLst (aCons (fVar 7) aNil))) (asL z0s)))
 (sSeq (sUnp (.tup [2,3]) (eTup (aCons (f2 gAdd (fVar 2) (fC (.int 1))) (aCons (f2 gIx (fVar 7) (fVar 2)) aNil))))
 (sSet 4 (fCall z0I (aCons (fVar 0) (aCons (fVar 1) (aCons (fVar 2) aNil))))))))) [.val (fieldP p),.val (matD (P++(R1++f::R2))),.val (.int (P.length:Int)),.val (.int share),.val (.int ((P.length + R1.length:Nat):Int)),c5,c6,c7] s
   = some (.next [.val (fieldP p),.val (matD ((P++[f])++R')),.val (.int ((P++[f]).length:Int)),.val (.int (zc f P.length)),.val at',c5',c6',c7'],s):=by
 have ht:=hp.two
 have hf:f∈R1++f::R2:=by simp
 have rf:=MR.rs f hf
 have lf:=MR.ln f hf
 obtain⟨R',ec,T2⟩:=z8w (T:=.one 0) (F:=fCall z2q (aCons (fVar 1) (aCons (fVar 2) (aCons (fVar 0) (aCons (fVar 3) (aCons (fVar 4) aNil)))))) (δc:=[.non,.val (fieldP p),.val (rowD f),.val (.int (P.length:Int)),.val (.int share)]) (s:=s) (Clr p share f P.length w) rowD rowD (R1++R2) (fun o ho=>by
  have ho':o∈R1++f::R2:=by
   rcases List.mem_append.mp ho with h | h
   ·exact List.mem_append_left _ h
   ·exact List.mem_append_right _ (List.mem_cons_of_mem _ h)
  obtain⟨r,er,h1,h2,h3⟩:=z7U (f:=f) (o:=o) (c:=P.length) (w:=w) s hp rf (MR.rs o ho') lf (MR.ln o ho') (by omega) hs hw
  exact⟨r,[.val (rowD o),.val (fieldP p),.val (rowD f),.val (.int (P.length:Int)),.val (.int share)],rfl,ze (ds:=[fieldP p,rowD f,rowD o,.int (P.length:Int),.int share]) rfl er,h1,h2,h3⟩)
 refine⟨R',T2,fun{at'} el=>⟨.val (.list (P.map rowD)),.val (.list ((R1++R2).map rowD)),.val (rowD f),?_⟩⟩
 have em:matD (P++(R1++f::R2))=.list (P.map rowD++(R1.map rowD++(f::R2).map rowD)):=by unfold matD;simp
 have lR:=T2.len
 rw[List.length_append]at lR
 have a1:sPar 5 6 (aCons (fSl (fVar 1) pNo (pInt (fVar 2))) (aCons (f2 gAddA (fSl (fVar 1) (pInt (fVar 2)) (pInt (fVar 4))) (fSl (fVar 1) (pInt (f2 gAdd (fVar 4) (fC (.int 1)))) pNo)) aNil)) [.val (fieldP p),.val (matD (P++(R1++f::R2))),.val (.int (P.length:Int)),.val (.int share),.val (.int ((P.length + R1.length:Nat):Int)),c5,c6,c7] s=some (.next [.val (fieldP p),.val (matD (P++(R1++f::R2))),.val (.int (P.length:Int)),.val (.int share),.val (.int ((P.length + R1.length:Nat):Int)),.val (.list (P.map rowD)),.val (.list ((R1++R2).map rowD)),c7],s):=by
  have x1:fSl (fVar 1) pNo (pInt (fVar 2)) [.val (fieldP p),.val (matD (P++(R1++f::R2))),.val (.int (P.length:Int)),.val (.int share),.val (.int ((P.length + R1.length:Nat):Int)),c5,c6,c7] s=some (.list (P.map rowD),s) :=
   z6D (xs:=P.map rowD++(R1.map rowD++(f::R2).map rowD)) (by rw[em];rfl) rfl (z44 (i:=(P.length:Int)) rfl) (by have:=zdi (xs:=P.map rowD) (ys:=R1.map rowD++(f::R2).map rowD);rwa [List.length_map]at this)
  have x2:fSl (fVar 1) (pInt (fVar 2)) (pInt (fVar 4)) [.val (fieldP p),.val (matD (P++(R1++f::R2))),.val (.int (P.length:Int)),.val (.int share),.val (.int ((P.length + R1.length:Nat):Int)),c5,c6,c7] s=some (.list (R1.map rowD),s) :=
   z6D (xs:=P.map rowD++(R1.map rowD++(f::R2).map rowD)) (by rw[em];rfl) (z44 (i:=(P.length:Int)) rfl) (z44 (i:=((P.length + R1.length:Nat):Int)) rfl) (by have:=zdk (xs:=P.map rowD) (ys:=R1.map rowD) (zs:=(f::R2).map rowD) (n:=P.length + R1.length) (by simp);rwa [List.length_map]at this)
  have x3:fSl (fVar 1) (pInt (f2 gAdd (fVar 4) (fC (.int 1)))) pNo [.val (fieldP p),.val (matD (P++(R1++f::R2))),.val (.int (P.length:Int)),.val (.int share),.val (.int ((P.length + R1.length:Nat):Int)),c5,c6,c7] s=some (.list (R2.map rowD),s) :=
   z6D (xs:=(P.map rowD++(R1.map rowD++[rowD f]))++R2.map rowD) (by rw[em];simp;rfl) (z44 (i:=((P.length + R1.length + 1:Nat):Int)) (z8 rfl rfl (z0h _))) rfl (zdj (by simp;omega))
  unfold sPar
  rw[z7 x1 (z7 (FL:=aNil) (z8 x2 x3 (catAL (by simp;omega))) rfl)]
  rw[← List.map_append];rfl
 have ef:(P++(R1++f::R2))[P.length + R1.length]?=some f:=by
  rw[← List.append_assoc,List.getElem?_append_right (by simp)]
  simp
 have a3:sSet 1 (f2 gAdd (f2 gAdd (fVar 5) (eLst (aCons (fVar 7) aNil))) (asL z0s)) [.val (fieldP p),.val (matD (P++(R1++f::R2))),.val (.int (P.length:Int)),.val (.int share),.val (.int ((P.length + R1.length:Nat):Int)),.val (.list (P.map rowD)),.val (.list ((R1++R2).map rowD)),.val (rowD f)] s=some (.next [.val (fieldP p),.val (matD ((P++[f])++R')),.val (.int (P.length:Int)),.val (.int share),.val (.int ((P.length + R1.length:Nat):Int)),.val (.list (P.map rowD)),.val (.list ((R1++R2).map rowD)),.val (rowD f)],s):=by
  have c1:asL z0s [.val (fieldP p),.val (matD (P++(R1++f::R2))),.val (.int (P.length:Int)),.val (.int share),.val (.int ((P.length + R1.length:Nat):Int)),.val (.list (P.map rowD)),.val (.list ((R1++R2).map rowD)),.val (rowD f)] s=some (.list (R'.map rowD),s):=z1T (ds:=(R1++R2).map rowD) (s1:=s) rfl (by simp;omega) ec
  have:=zu (i:=1) (z8 (g:=gAdd) (d:=matD ((P++[f])++R')) (z8 (g:=gAdd) (d:=.list (P.map rowD++[rowD f])) (a:=.list (P.map rowD)) (b:=.list [rowD f]) (Fa:=fVar 5) (Fb:=eLst (aCons (fVar 7) aNil)) (s1:=s) (s2:=s) rfl (z1n rfl (zJ (by simp))) (catL (by simp;omega))) c1 ((catL (by simp;omega)).trans (by unfold matD;simp)))
  exact this
 have a4:sUnp (.tup [2,3]) (eTup (aCons (f2 gAdd (fVar 2) (fC (.int 1))) (aCons (f2 gIx (fVar 7) (fVar 2)) aNil))) [.val (fieldP p),.val (matD ((P++[f])++R')),.val (.int (P.length:Int)),.val (.int share),.val (.int ((P.length + R1.length:Nat):Int)),.val (.list (P.map rowD)),.val (.list ((R1++R2).map rowD)),.val (rowD f)] s=some (.next [.val (fieldP p),.val (matD ((P++[f])++R')),.val (.int ((P++[f]).length:Int)),.val (.int (zc f P.length)),.val (.int ((P.length + R1.length:Nat):Int)),.val (.list (P.map rowD)),.val (.list ((R1++R2).map rowD)),.val (rowD f)],s):=by
  unfold sUnp
  rw[z0q (ds:=[.int ((P.length + 1:Nat):Int),.int (zc f P.length)]) (s1:=s) (z7 (z8 rfl rfl (z0h P.length)) (z7 (FL:=aNil) (z8 (a:=rowD f) (b:=.int (P.length:Int)) rfl rfl (z0x (d:=rowD f) rfl (by omega))) rfl)) (small2 _ _)]
  rw[show(P++[f]).length=P.length + 1 by simp]
  rfl
 exact zk a1 (zk (zu (z8 (a:=matD (P++(R1++f::R2))) (b:=.int ((P.length + R1.length:Nat):Int)) rfl rfl (z8v ef))) (zk a3 (zk a4 (zu (ze (ds:=[fieldP p,matD ((P++[f])++R'),.int ((P++[f]).length:Int)]) rfl el)))))
structure Ech(p:Int)(w:Nat)(P R:List (List Int))(share:Int):Prop where
 MP:Mat p w P
 MR:Mat p w R
 pv:Piv P
 zr:∀ r∈R,∀ j,j < P.length→zc r j=0
 sh:0 < share∧share < p
 ln:P.length + R.length + 1=w
theorem Ech.step{p:Int}(hp:Prm p){w:Nat}{P R1 R2 R':List (List Int)}{f:List Int}{share:Int}(E:Ech p w P (R1++f::R2) share)(hf:zc f P.length≠0)(T:Two (Clr p share f P.length w) (R1++R2) R') :
  Ech p w (P++[f]) R' (zc f P.length)∧∀ v,Sol p w ((P++[f])++R') v↔Sol p w (P++(R1++f::R2)) v:=by
 have ht:=hp.two
 have mf:f∈R1++f::R2:=by simp
 have sub:∀ o∈R1++R2,o∈R1++f::R2:=fun o ho=>by
  rcases List.mem_append.mp ho with h | h
  ·exact List.mem_append_left _ h
  ·exact List.mem_append_right _ (List.mem_cons_of_mem _ h)
 have uf:=(E.MR.rs f mf).zc (by omega) P.length
 have nf:=z2g uf.1 uf.2 hf
 have ns:=z2g (p:=p) (x:=share) (by have:=E.sh;omega) E.sh.2 (by have:=E.sh;omega)
 have lT:=T.len
 have lE:=E.ln
 simp only[List.length_append,List.length_cons]at lT lE
 refine⟨⟨⟨fun r hr=>?_,fun r hr=>?_⟩,⟨fun r hr=>?_,fun r hr=>?_⟩,fun i r hi=>?_,fun r hr j hj=>?_,⟨by omega,uf.2⟩,by simp;omega⟩,fun v=>⟨fun S r hr=>?_,fun S r hr=>?_⟩⟩
 ·rcases List.mem_append.mp hr with h | h
  ·exact E.MP.rs r h
  ·rw[List.mem_singleton.mp h];exact E.MR.rs f mf
 ·rcases List.mem_append.mp hr with h | h
  ·exact E.MP.ln r h
  ·rw[List.mem_singleton.mp h];exact E.MR.ln f mf
 ·obtain⟨o,_,q⟩:=T.left r hr;exact q.1
 ·obtain⟨o,_,q⟩:=T.left r hr;exact q.2.1
 ·by_cases hl:i < P.length
  ·rw[List.getElem?_append_left hl]at hi;exact E.pv i r hi
  ·have hil:=(List.getElem?_eq_some_iff.mp hi).1
   simp at hil
   obtain rfl:i=P.length:=by omega
   rw[List.getElem?_append_right (Nat.le_refl _),Nat.sub_self]at hi
   cases hi
   exact⟨hf,fun j hj=>E.zr f mf j hj⟩
 ·obtain⟨o,ho,q1,q2,q3⟩:=T.left r hr
  simp only[List.length_append,List.length_cons,List.length_nil]at hj
  have hr0:=q1.zc (by omega) j
  refine z0T hr0.1 hr0.2 (hp.dvd (b:=share) ?_ ns)
  obtain⟨x,hx⟩:=q3 j (by omega)
  by_cases e:j < P.length
  ·rw[E.zr f mf j e,E.zr o (sub o ho) j e]at hx
   exact⟨x,by grind⟩
  ·obtain rfl:j=P.length:=by omega
   exact⟨x,by grind⟩
 ·have df:=S f (by simp)
  rcases List.mem_append.mp hr with h | h
  ·exact S r (by simp[h])
  ·rcases List.mem_append.mp h with h' | h'
   ·obtain⟨r',hr',q1,q2,q3⟩:=T.right r (List.mem_append_left _ h')
    have d:=z8t (v:=v) w q3
    obtain⟨x,hx⟩:=S r' (by simp[hr'])
    obtain⟨y,hy⟩:=df
    obtain⟨z,hz⟩:=d
    exact hp.dvd (b:=zc f P.length) ⟨x * share + zc r P.length * y - z,by grind⟩ nf
   ·rcases List.mem_cons.mp h' with e | h2
    ·rw[e];exact df
    ·obtain⟨r',hr',q1,q2,q3⟩:=T.right r (List.mem_append_right _ h2)
     have d:=z8t (v:=v) w q3
     obtain⟨x,hx⟩:=S r' (by simp[hr'])
     obtain⟨y,hy⟩:=df
     obtain⟨z,hz⟩:=d
     exact hp.dvd (b:=zc f P.length) ⟨x * share + zc r P.length * y - z,by grind⟩ nf
 ·have df:=S f (by simp)
  rcases List.mem_append.mp hr with h | h
  ·rcases List.mem_append.mp h with h' | h'
   ·exact S r (by simp[h'])
   ·rw[List.mem_singleton.mp h'];exact df
  ·obtain⟨o,ho,q1,q2,q3⟩:=T.left r h
   have d:=z8t (v:=v) w q3
   obtain⟨x,hx⟩:=S o (List.mem_append_right _ (sub o ho))
   obtain⟨y,hy⟩:=df
   obtain⟨z,hz⟩:=d
   exact hp.dvd (b:=share) ⟨zc f P.length * x - zc o P.length * y + z,by grind⟩ ns
abbrev zdn:GS:=(sSeq (sPar 5 6 (aCons (fSl (fVar 1) pNo (pInt (fVar 2))) (aCons (f2 gAddA (fSl (fVar 1) (pInt (fVar 2)) (pInt (fVar 4))) (fSl (fVar 1) (pInt (f2 gAdd (fVar 4) (fC (.int 1)))) pNo)) aNil)))
 (sSeq (sSet 7 (f2 gIx (fVar 1) (fVar 4)))
 (sSeq (sSet 1 (f2 gAdd (f2 gAdd (fVar 5) (eLst (aCons (fVar 7) aNil))) (asL z0s)))
 (sSeq (sUnp (.tup [2,3]) (eTup (aCons (f2 gAdd (fVar 2) (fC (.int 1))) (aCons (f2 gIx (fVar 7) (fVar 2)) aNil))))
 (sSet 4 (fCall z0I (aCons (fVar 0) (aCons (fVar 1) (aCons (fVar 2) aNil)))))))))
theorem zdo{p:Int}{w:Nat}(s:Sx)(hp:Prm p)(hw:w≤100):∀ (k:Nat) (P R:List (List Int)) (share:Int) (at':D) (c5 c6 c7:Ce),R.length≤k→Ech p w P R share→z0I [fieldP p,matD (P++R),.int (P.length:Int)] s=some (at',s) →
  ∃ (P' R':List (List Int)) (share':Int) (c4 c5' c6' c7':Ce),whileN zdl zdn (k + 1) [.val (fieldP p),.val (matD (P++R)),.val (.int (P.length:Int)),.val (.int share),.val at',c5,c6,c7] s=some (.next [.val (fieldP p),.val (matD (P'++R')),.val (.int (P'.length:Int)),.val (.int share'),c4,c5',c6',c7'],s) ∧
   Ech p w P' R' share'∧(∀ r∈R',zc r P'.length=0)∧∀ v,Sol p w (P'++R') v↔Sol p w (P++R) v:=by
 intro k
 induction k with
 | zero =>
  intro P R share at' c5 c6 c7 hk E el
  rcases z3k (p:=p) (P:=P) (R:=R) (w:=w) s (by have:=E.ln;omega) E.MR.ln (by have:=E.ln;omega) with ⟨e,h⟩ | ⟨R1,f,R2,rfl,_,_⟩
  ·rw[e]at el
   cases el
   exact⟨P,R,share,_,c5,c6,c7,zR rfl,E,h,fun v=>Iff.rfl⟩
  ·simp at hk
 | succ k ih =>
  intro P R share at' c5 c6 c7 hk E el
  rcases z3k (p:=p) (P:=P) (R:=R) (w:=w) s (by have:=E.ln;omega) E.MR.ln (by have:=E.ln;omega) with ⟨e,h⟩ | ⟨R1,f,R2,rfl,hf,e⟩
  ·rw[e]at el
   cases el
   exact⟨P,R,share,_,c5,c6,c7,zR rfl,E,h,fun v=>Iff.rfl⟩
  ·rw[e]at el
   cases el
   have lE:=E.ln
   simp only[List.length_append,List.length_cons]at lE hk
   obtain⟨R',T,hb⟩:=zdm (p:=p) (share:=share) (P:=P) (R1:=R1) (R2:=R2) (f:=f) (w:=w) (c5:=c5) (c6:=c6) (c7:=c7) s hp hw (by omega) E.MR E.sh
   obtain⟨E',hS⟩:=E.step hp hf T
   have lT:=T.len
   rw[List.length_append]at lT
   obtain⟨at2,el2⟩:∃ at2,z0I [fieldP p,matD ((P++[f])++R'),.int ((P++[f]).length:Int)] s=some (at2,s):=by
    have lE':=E'.ln
    rcases z3k (p:=p) (P:=P++[f]) (R:=R') (w:=w) s (by omega) E'.MR.ln (by omega) with ⟨e,_⟩ | ⟨_,_,_,_,_,e⟩
    ·exact⟨_,e⟩
    ·exact⟨_,e⟩
   obtain⟨c5',c6',c7',eb⟩:=hb el2
   obtain⟨P2,R2',sh2,d4,d5,d6,d7,ew,E2,hz,hS2⟩:=ih (P++[f]) R' (zc f P.length) at2 c5' c6' c7' (by omega) E' el2
   exact⟨P2,R2',sh2,d4,d5,d6,d7,z0p rfl eb ew,E2,hz,fun v=>(hS2 v).trans (hS v)⟩
theorem rngDn_get{n t:Nat}{d:D}(h:(rngDn n)[t]?=some d):t < n∧d=.int ((n - 1 - t:Nat):Int):=by
 unfold rngDn at h
 rw[List.getElem?_map]at h
 obtain⟨z,hz,rfl⟩:=Option.map_eq_some_iff.mp h
 have ht:=(List.getElem?_eq_some_iff.mp hz).1
 rw[List.length_range]at ht
 rw[List.getElem?_range ht]at hz
 cases hz
 exact⟨ht,by congr 1;omega⟩
theorem rngDn_len(n:Nat):(rngDn n).length=n:=by simp[rngDn]
theorem zbE{p:Int}{E:D}{r W:List Int}{c at':Nat}{last:D}{c7:Ce}{gE:∀ j:Nat,j=at'→gIx E (.int (j:Int))=some (rowD r)}(s:Sx)(hp:Prm p)(rr:Rs p r)(rW:Rs p W)(lr:c < r.length)(lW:W.length=c + 1)(ha:at' < c)(hc:c≤100) :
  ∃ c7',z1C [.val (fieldP p),.val E,.val (.int (c:Int)),.val last,.own (W.map .int),.val (.int (at':Int)),.val (.int 0),c7] s=some (.next [.val (fieldP p),.val E,.val (.int (c:Int)),.val last,.own (W.map .int),.val (.int (at':Int)),.val (.int ((ds_ (zc r) (zc W) (at' + 1) (c - at')).fmod p)),c7'],s):=by
 have ht:=hp.two
 obtain⟨δ',s',e,hs',c7',hδ⟩:=z2b (T:=.one 7) (G:=z2F) (fun t δ s'=>s'=s∧∃ c7:Ce,δ=[.val (fieldP p),.val E,.val (.int (c:Int)),.val last,.own (W.map .int),.val (.int (at':Int)),.val (.int ((ds_ (zc r) (zc W) (at' + 1) t).fmod p)),c7])
  (rng ((at' + 1:Nat):Int) (c - at')) [.val (fieldP p),.val E,.val (.int (c:Int)),.val last,.own (W.map .int),.val (.int (at':Int)),.val (.int 0),c7] s ⟨rfl,c7,by rw[ds_,z7e (by omega) (by omega)]⟩
  (fun t d δ s' hd zgm=>by
   obtain⟨hs',c7,hδ⟩:=zgm
   subst hs' hδ
   obtain⟨htn,rfl⟩:=z4S hd
   have h1:=rr.zc (by omega) (at' + 1 + t)
   have h2:=rW.zc (by omega) (at' + 1 + t)
   refine⟨[.val (fieldP p),.val E,.val (.int (c:Int)),.val last,.own (W.map .int),.val (.int (at':Int)),.val (.int ((ds_ (zc r) (zc W) (at' + 1) t).fmod p)),.val (.int ((at' + 1 + t:Nat):Int))],[.val (fieldP p),.val E,.val (.int (c:Int)),.val last,.own (W.map .int),.val (.int (at':Int)),.val (.int ((ds_ (zc r) (zc W) (at' + 1) (t + 1)).fmod p)),.val (.int ((at' + 1 + t:Nat):Int))],s',rfl,?_,rfl,_,rfl⟩
   have hv2:((ds_ (zc r) (zc W) (at' + 1) t).fmod p + (zc r (at' + 1 + t) * zc W (at' + 1 + t)).fmod p).fmod p=(ds_ (zc r) (zc W) (at' + 1) (t + 1)).fmod p:=by
    refine zap (by omega) ?_
    obtain⟨a,ha⟩:=z0M (p:=p) (x:=ds_ (zc r) (zc W) (at' + 1) t) (by omega)
    obtain⟨b,hb⟩:=z0M (p:=p) (x:=zc r (at' + 1 + t) * zc W (at' + 1 + t)) (by omega)
    rw[ds_]
    exact⟨a + b,by grind⟩
   have a1:=addP (p:=p) (a:=(ds_ (zc r) (zc W) (at' + 1) t).fmod p) (b:=(zc r (at' + 1 + t) * zc W (at' + 1 + t)).fmod p) s' (by omega)
   rw[hv2]at a1
   exact zu (methP (p:=p) (Fo:=fVar 0) rfl (z7 (F:=fVar 6) rfl (z7 (FL:=aNil) (methP (p:=p) (Fo:=fVar 0) rfl (z7 (z8 (a:=rowD r) (b:=.int ((at' + 1 + t:Nat):Int)) (s1:=s') (z8 (a:=E) (b:=.int (at':Int)) (s1:=s') rfl rfl (gE at' rfl)) rfl (z0x (d:=rowD r) rfl (by omega))) (z7 (FL:=aNil) (ixw (l:=W) (j:=at' + 1 + t) rfl rfl (by omega)) rfl)) (mulP s' (by omega) (by omega) h1 h2) rfl) rfl)) a1 rfl))
 subst hs' hδ
 rw[show(rng ((at' + 1:Nat):Int) (c - at')).length=c - at' by simp[rng]]at e
 refine⟨c7',?_⟩
 unfold z1C sFor
 have er:=z2u (a:=at' + 1) (b:=c + 1) (s:=s') (s1:=s') (s2:=s') (Fa:=f2 gAdd (fVar 5) (fC (.int 1))) (Fb:=f2 gAdd (fVar 2) (fC (.int 1))) (δ:=[.val (fieldP p),.val E,.val (.int (c:Int)),.val last,.own (W.map .int),.val (.int (at':Int)),.val (.int 0),c7]) (z8 rfl rfl (z0h at')) (z8 rfl rfl (z0h c)) (by omega) (by omega)
 rw[show c + 1 - (at' + 1)=c - at' by omega]at er
 rw[er]
 exact e
theorem z96{c j:Nat}{x:Int}:zc (List.replicate c 0++[x]) j=if j=c then x else 0:=by
 by_cases h:j < c
 ·rw[zas (by simpa using h),zey,if_neg (by omega)]
 ·by_cases e:j=c
  ·rw[zat (by simpa using e),if_pos e]
  ·rw[z0N (by simp;omega),if_neg e]
theorem zeB{p last:Int}{P R:List (List Int)}{w:Nat}(s:Sx)(hp:Prm p)(E:Ech p w P R last)(hw:w≤100) :
  ∃ W:List Int,z0S [fieldP p,matD (P++R),.int (P.length:Int),.int last] s=some (.list (W.map .int),s)∧Rs p W∧W.length=P.length + 1∧zc W P.length=last∧∀ (i:Nat) (r:List Int),P[i]?=some r→p∣dt (zc r) (zc W) w:=by
 have ht:=hp.two
 have lE:=E.ln
 obtain⟨δ',s',e,hs',W,c5,c6,c7,hδ,hr,hl,hlast,hd⟩:=z2b (T:=.one 5) (G:=z2G) (fun t δ s'=>s'=s∧∃ (W:List Int) (c5 c6 c7:Ce),δ=[.val (fieldP p),.val (matD (P++R)),.val (.int (P.length:Int)),.val (.int last),.own (W.map .int),c5,c6,c7]∧Rs p W∧W.length=P.length + 1∧zc W P.length=last∧∀ (i:Nat) (r:List Int),P.length - t≤i→P[i]?=some r→p∣dt (zc r) (zc W) w)
  (rngDn P.length) [.val (fieldP p),.val (matD (P++R)),.val (.int (P.length:Int)),.val (.int last),.own ((List.replicate P.length 0++[last]).map .int),.non,.non,.non] s ⟨rfl,List.replicate P.length 0++[last],.non,.non,.non,rfl,fun x hx=>by
   rcases List.mem_append.mp hx with h | h
   ·rw[(List.mem_replicate.mp h).2];omega
   ·rw[List.mem_singleton.mp h];have:=E.sh;omega,by simp,by rw[z96,if_pos rfl],fun i r hi h=>by
   have:=(List.getElem?_eq_some_iff.mp h).1
   omega⟩
  (fun t d δ s' hd zgn=>by
   obtain⟨hs',W,c5,c6,c7,hδ,hr,hl,hlast,hk⟩:=zgn
   subst hs' hδ
   obtain⟨htn,rfl⟩:=rngDn_get hd
   generalize ea:P.length - 1 - t=a
   have ha:a < P.length:=by omega
   have er:P[a]?=some P[a]:=List.getElem?_eq_getElem ha
   have hm:P[a]∈P:=List.getElem_mem ha
   have rr:=E.MP.rs _ hm
   have lr:=E.MP.ln _ hm
   obtain⟨hpv,hz0⟩:=E.pv a _ er
   have em:(P++R)[a]?=some P[a]:=by rw[List.getElem?_append_left ha];exact er
   obtain⟨c7',ei⟩:=zbE (p:=p) (E:=matD (P++R)) (r:=P[a]) (W:=W) (c:=P.length) (at':=a) (last:=.int last) (c7:=c7) (gE:=fun j hj=>by subst hj;exact z8v em) s' hp rr hr (by omega) hl ha (by omega)
   have hu:=rr.zc (by omega) a
   have hg:=z1N (p:=p) (x:=0 - (ds_ (zc P[a]) (zc W) (a + 1) (P.length - a)).fmod p) (by omega)
   obtain⟨q,eq,rq,dq⟩:=divP (b:=zc P[a] a) hp hg ⟨by omega,hu.2⟩
   refine⟨[.val (fieldP p),.val (matD (P++R)),.val (.int (P.length:Int)),.val (.int last),.own (W.map .int),.val (.int (a:Int)),c6,c7],[.val (fieldP p),.val (matD (P++R)),.val (.int (P.length:Int)),.val (.int last),.own ((W.set a q).map .int),.val (.int (a:Int)),.val (.int ((ds_ (zc P[a]) (zc W) (a + 1) (P.length - a)).fmod p)),c7'],s',rfl,?_,rfl,W.set a q,_,_,_,rfl,hr.set rq.1 rq.2,by simp[hl],?_,fun i r hi h=>?_⟩
   ·refine zk (zu (zB (a:=fieldP p) rfl (fldN p))) (zk ei ?_)
    have pa:L3.putAt (W.map .int) (.int (a:Int)) (.int q)=some ((W.set a q).map PyData.int):=by
     rw[← z42]
     exact zab (by rw[List.length_map];omega)
    exact z4O (methP (p:=p) (Fo:=fVar 0) rfl (z7 (methP (p:=p) (Fo:=fVar 0) rfl (z7 (zB (a:=fieldP p) rfl (fldN p)) (z7 (F:=fVar 6) (FL:=aNil) rfl rfl)) (subP s' (by omega)) rfl) (z7 (FL:=aNil) (z8 (a:=rowD P[a]) (b:=.int (a:Int)) (s1:=s') (z8 (a:=matD (P++R)) (b:=.int (a:Int)) (s1:=s') rfl rfl (z8v em)) rfl (z0x (d:=rowD P[a]) rfl (by omega))) rfl)) (eq s') rfl) rfl rfl pa
   ·rw[z79 (by omega),if_neg (by omega)];exact hlast
   ·have hil:=(List.getElem?_eq_some_iff.mp h).1
    have out:∀ {r:List Int} (V:List Int),V.length=P.length + 1→dt (zc r) (zc V) w=dt (zc r) (zc V) (P.length + 1):=fun{r} V hV=>by
     have:∀ n,dt (zc r) (zc V) (P.length + 1 + n)=dt (zc r) (zc V) (P.length + 1):=fun n=>by
      induction n with
      | zero=>rfl
      | succ n ih=>rw[← Nat.add_assoc,dt,ih,z0N (l:=V) (by omega)];omega
     have hh:=this (w - (P.length + 1))
     rwa [show P.length + 1 + (w - (P.length + 1))=w by omega]at hh
    by_cases e:i=a
    ·subst e
     rw[er]at h
     cases h
     rw[out (W.set i q) (by simp[hl]),show P.length + 1=i + (P.length + 1 - i) by omega,z6B hz0,show P.length + 1 - i=(P.length - i) + 1 by omega,zay,z6C (v':=zc W) _ (fun j hj=>by rw[z79 (by omega),if_neg (by omega)]),z79 (by omega),if_pos rfl]
     obtain⟨x,hx⟩:=dq
     obtain⟨y,hy⟩:=z0M (p:=p) (x:=0 - (ds_ (zc P[i]) (zc W) (i + 1) (P.length - i)).fmod p) (by omega)
     obtain⟨z,hz⟩:=z0M (p:=p) (x:=ds_ (zc P[i]) (zc W) (i + 1) (P.length - i)) (by omega)
     exact⟨x + y - z,by grind⟩
    ·have hia:a < i:=by omega
     have dk:=hk i r (by omega) h
     have hz1:=(E.pv i r h).2
     rw[out W hl,show P.length + 1=i + (P.length + 1 - i) by omega,z6B hz1]at dk
     rw[out (W.set a q) (by simp[hl]),show P.length + 1=i + (P.length + 1 - i) by omega,z6B hz1,z6C (v':=zc W) _ (fun j hj=>by rw[z79 (by omega),if_neg (by omega)])]
     exact dk)
 subst hs' hδ
 rw[rngDn_len,Nat.sub_self]at hd
 refine⟨W,z09 (n:=4) (m:=4) (G:=z1k) rfl ?_,hr,hl,hlast,fun i r h=>hd i r (Nat.zero_le _) h⟩
 show z1k [.val (fieldP p),.val (matD (P++R)),.val (.int (P.length:Int)),.val (.int last),.non,.non,.non,.non] s'=_
 unfold z1k
 refine zk (δ1:=[.val (fieldP p),.val (matD (P++R)),.val (.int (P.length:Int)),.val (.int last),.own ((List.replicate P.length 0++[last]).map .int),.non,.non,.non]) (s1:=s') ?_ (zk (δ1:=[.val (fieldP p),.val (matD (P++R)),.val (.int (P.length:Int)),.val (.int last),.own (W.map .int),c5,c6,c7]) (s1:=s') ?_ rfl)
 ·refine z1a ?_
  have:=zca (g:=lCat) (a:=.list (List.replicate P.length (.int 0))) (b:=.list [.int last]) (xs:=(List.replicate P.length 0++[last]).map PyData.int) (Fa:=f2 gMulA (eLst (aCons (f1 (gFld ["PrimeField"] "nought") (fVar 0)) aNil)) (fVar 2)) (Fb:=eLst (aCons (fVar 3) aNil)) (δ:=[.val (fieldP p),.val (matD (P++R)),.val (.int (P.length:Int)),.val (.int last),.non,.non,.non,.non]) (s:=s') (s1:=s') (s2:=s') (z8 (a:=.list [.int 0]) (b:=.int (P.length:Int)) (z1n (z7 (FL:=aNil) (zB (a:=fieldP p) rfl (fldN p)) rfl) (zJ (by simp))) rfl (z8g (by omega))) (z1n rfl (zJ (by simp))) (by
    have sm:small (List.replicate P.length (PyData.int 0)++[.int last])=true:=zJ (by simp;omega)
    simp only[lCat,sm,if_true]
    simp)
  exact this
 ·unfold z2H sFor
  rw[zbr (F:=fVar 2) (δ:=[.val (fieldP p),.val (matD (P++R)),.val (.int (P.length:Int)),.val (.int last),.own (List.map PyData.int (List.replicate P.length 0++[last])),.non,.non,.non]) (s:=s') (s':=s') (z:=(P.length:Int)) rfl (by omega) (by omega)]
  exact e
theorem fldU(p:Int):gFld ["PrimeField"] "unit" (fieldP p)=some (.int 1):=by
 have h1:(("unit":Str)="prime")=False:=by decide +kernel
 have h2:(("unit":Str)="nought")=False:=by decide +kernel
 simp[gFld,fieldP,lookF,h1,h2]
structure Ans(p:Int)(w:Nat)(E:List (List Int))(W:List Int):Prop where
 rs:Rs p W
 c0:0 < W.length
 lw:W.length≤w
 la:zc W (W.length - 1)≠0
 so:Sol p w E (zc W)
 mi:∀ v:Nat→Int,(∀ j,W.length - 1≤j→p∣v j)→Sol p w E v→∀ j,p∣v j
theorem zeC{p:Int}{E:List (List Int)}{w:Nat}(s:Sx)(hp:Prm p)(hw:w≤100)(M:Mat p w E)(hl:E.length + 1=w) :
  ∃ W:List Int,z0v [fieldP p,matD E] s=some (.list (W.map .int),s)∧Ans p w E W:=by
 have ht:=hp.two
 have E0:Ech p w [] E 1:=⟨⟨(fun _ z=>nomatch z),(fun _ z=>nomatch z)⟩,M,(fun i r h=>by simp at h),(fun r _ j hj=>absurd hj (Nat.not_lt_zero _)),⟨by decide,by omega⟩,by simpa using hl⟩
 obtain⟨at',el⟩:∃ at',z0I [fieldP p,matD ([]++E),.int ((([]:List (List Int)).length:Nat):Int)] s=some (at',s):=by
  rcases z3k (p:=p) (P:=[]) (R:=E) (w:=w) s (by simp;omega) M.ln (by simp;omega) with ⟨e,_⟩ | ⟨_,_,_,_,_,e⟩
  ·exact⟨_,e⟩
  ·exact⟨_,e⟩
 obtain⟨P,R,sh,c4,c5,c6,c7,ew,Ef,hz,hS⟩:=zdo s hp hw E.length [] E 1 at' .non .non .non (Nat.le_refl _) E0 el
 obtain⟨W,eb,rW,lW,hlast,hd⟩:=zeB s hp Ef hw
 have lE:=Ef.ln
 have sol:Sol p w (P++R) (zc W):=fun r hr=>by
  rcases List.mem_append.mp hr with h | h
  ·obtain⟨i,hi⟩:=List.mem_iff_getElem?.mp h
   exact hd i r hi
  ·refine zax w fun j hj=>?_
   by_cases e1:j < P.length
   ·rw[Ef.zr r h j e1,Int.zero_mul];exact⟨0,by omega⟩
   ·by_cases e2:j=P.length
    ·rw[e2,hz r h,Int.zero_mul];exact⟨0,by omega⟩
    ·rw[z0N (l:=W) (by omega),Int.mul_zero];exact⟨0,by omega⟩
 refine⟨W,?_,rW,by omega,by omega,?_,(hS _).mp sol,fun v hv S=>?_⟩
 ·refine z09 (n:=2) (m:=6) (G:=z1l) rfl ?_
  show z1l [.val (fieldP p),.val (matD E),.non,.non,.non,.non,.non,.non] s=_
  have a1:sUnp (.tup [2,3]) (eTup (aCons (fC (.int 0)) (aCons (f1 (gFld ["PrimeField"] "unit") (fVar 0)) aNil))) [.val (fieldP p),.val (matD E),.non,.non,.non,.non,.non,.non] s=some (.next [.val (fieldP p),.val (matD E),.val (.int 0),.val (.int 1),.non,.non,.non,.non],s):=by
   unfold sUnp
   rw[z0q (ds:=[.int 0,.int 1]) (s1:=s) (z7 (F:=fC (.int 0)) rfl (z7 (FL:=aNil) (zB (a:=fieldP p) (d:=.int 1) rfl (fldU p)) rfl)) (small2 _ _)]
   rfl
  unfold z1l
  refine zk a1 (zk (zu (ze (ds:=[fieldP p,matD E,.int 0]) rfl el)) (zk (δ1:=[.val (fieldP p),.val (matD (P++R)),.val (.int (P.length:Int)),.val (.int sh),c4,c5,c6,c7]) (s1:=s) (zZ ew (by unfold fuel;omega)) (z0X (ze (ds:=[fieldP p,matD (P++R),.int (P.length:Int),.int sh]) rfl eb))))
 ·rw[lW,Nat.add_sub_cancel,hlast];have:=Ef.sh;omega
 ·have S':=(hS v).mpr S
  exact Ef.pv.nil hp Ef.MP (by omega) (fun j hj=>hv j (by omega)) (fun r hr=>S' r (List.mem_append_left _ hr))
theorem z29{B l:List Int}{k:Nat}:∀ n,wsum B l (k:Int) n=cvz (zc B) (zc l) k n
 | 0=>rfl
 | n + 1=>by
  have e:zi l ((k:Int) - (n:Int))=shz n (zc l) k:=by
   unfold shz
   by_cases h:n≤k
   ·rw[if_pos h];exact z7f (by omega)
   ·rw[if_neg h];exact zaq (by omega)
  rw[wsum,cvz,z29 n,e]
theorem zce{l:List Int}{v:Nat→Int}{k:Nat}:∀ n,dt (fun j=>zi l ((k:Int) - (j:Int))) v n=cvz v (zc l) k n
 | 0=>rfl
 | n + 1=>by
  have e:zi l ((k:Int) - (n:Int))=shz n (zc l) k:=by
   unfold shz
   by_cases h:n≤k
   ·rw[if_pos h];exact z7f (by omega)
   ·rw[if_neg h];exact zaq (by omega)
  rw[dt,cvz,zce n,e,Int.mul_comm]
theorem qdeg{p:Int}(hp:Prm p){g:Nat→Int}{d L:Nat}(hg:¬ p∣g d)(g0:Pl (d + 1) g):∀ (N:Nat) (q h:Nat→Int),(∀ k,p∣h k - cvz q g k N)→(∀ k,L≤k→p∣h k)→∀ i,i < N→L≤i + d→p∣q i
 | 0,_,_,_,_,i,hi,_=>absurd hi (Nat.not_lt_zero _)
 | N + 1,q,h,e,hh,i,hi,hL=>by
  have hN:p∣q N:=by
   obtain⟨x,hx⟩:=e (N + d)
   rw[zbs g0]at hx
   obtain⟨y,hy⟩:=hh (N + d) (by omega)
   exact hp.dvd (b:=g d) ⟨y - x,by grind⟩ hg
  by_cases ei:i=N
  ·rw[ei];exact hN
  ·refine qdeg hp hg g0 N q (fun k=>h k - q N * shz N g k) (fun k=>?_) (fun k hk=>?_) i (by omega) hL
   ·obtain⟨x,hx⟩:=e k
    rw[cvz]at hx
    exact⟨x,by grind⟩
   ·obtain⟨x,hx⟩:=hh k hk
    obtain⟨y,hy⟩:=hN
    exact⟨x - y * shz N g k,by rw[hx,hy];grind⟩
theorem z5z{p:Int}{f c:Nat→Int}{k:Nat}(h:∀ j,j < k→p∣c j):∀ N,p∣cvz f c k (N + 1) - f 0 * c k
 | 0=>⟨0,by rw[cvz,cvz,shz,if_pos (Nat.zero_le _),Nat.sub_zero];omega⟩
 | N + 1=>by
  obtain⟨x,hx⟩:=z5z (f:=f) h N
  rw[cvz]
  unfold shz
  by_cases hk:N + 1≤k
  ·rw[if_pos hk]
   obtain⟨y,hy⟩:=h (k - (N + 1)) (by omega)
   exact⟨x + f (N + 1) * y,by rw[hy];grind⟩
  ·rw[if_neg hk]
   exact⟨x,by grind⟩
theorem z8x{f a b:Nat→Int}{k:Nat}:∀ n,cvz f (fun i=>a i - b i) k n=cvz f a k n - cvz f b k n
 | 0=>rfl
 | n + 1=>by
  rw[cvz,cvz,cvz,z8x n]
  unfold shz
  split <;> grind
theorem z8y{p:Int}(hp:Prm p){f a b:Nat→Int}{N K:Nat}(hf:¬ p∣f 0)(h:∀ k,k≤K→p∣cvz f a k (N + 1) - cvz f b k (N + 1)):∀ k,k≤K→p∣a k - b k:=by
 intro k
 induction k using Nat.strongRecOn with
 | _ k ih =>
  intro hk
  obtain⟨x,hx⟩:=z5z (p:=p) (f:=f) (c:=fun i=>a i - b i) (k:=k) (fun j hj=>ih j hj (by omega)) N
  obtain⟨y,hy⟩:=h k hk
  rw[z8x]at hx
  exact hp.dvd (b:=f 0) ⟨y - x,by grind⟩ hf
theorem zaz{q R:Nat→Int}{a k N:Nat}:cvz (shz a q) R k (N + a)=if a≤k then cvz q R (k - a) N else 0:=by
 rw[z43];rfl
structure Pade(p:Int)(m n:Nat)(R:Nat→Int)(W:List Int):Prop where
 rs:Rs p W
 c0:0 < W.length
 lw:W.length≤n + 1
 la:zc W (W.length - 1)≠0
 so:∀ k,m < k→k≤m + n→p∣cvz (zc W) R k W.length
 mi:∀ v:Nat→Int,(∀ j,W.length - 1≤j→p∣v j)→(∀ k,m < k→k≤m + n→p∣cvz v R k (n + 1))→∀ j,p∣v j
structure Fu(p:Int)(m n:Nat)(R:Nat→Int)(T B:List Int)(a:Nat):Prop where
 rT:Rs p T
 rB:Rs p B
 nT:Ends T
 nB:Ends B
 b0:0 < B.length
 one:zc B 0=1
 lT:T≠[]→T.length + a≤m + 1
 lB:B.length + a≤n + 1
 tl:∀ k,k + a≤m + n→p∣cvz (zc B) R k B.length - zc T k
theorem zgL{p:Int}(hp:Prm p){m n a:Nat}{R:Nat→Int}{W T B:List Int}(P:Pade p m n R W)(F:Fu p m n R T B a)(hW:W.length=B.length + a){f:List Int}(rf:Rs p f)(nf:Ends f)(f0:0 < f.length)(dB:DvF p (zc f) (zc B))(dT:DvF p (zc f) (zc T)):f.length=1:=by
 have ht:=hp.two
 refine Decidable.byContradiction fun hne=>?_
 obtain⟨N,q,pq,hq⟩:=dB.ends
 obtain⟨M,t,pt,htq⟩:=dT.ends
 obtain⟨d,hd⟩:∃ d,f.length=d + 2:=⟨f.length - 2,by omega⟩
 have ul:=rf.zc (by omega) (d + 1)
 have nl:=z2g ul.1 ul.2 (by have:=nf f0;rwa [hd]at this)
 have pf:Pl (d + 1 + 1) (zc f):=fun k hk=>z0N (by omega)
 have qd:∀ i,B.length≤i + (d + 1)→p∣q i:=fun i hi=>by
  by_cases hN:i < N
  ·exact qdeg hp nl pf N q (zc B) hq (fun k hk=>by rw[z0N hk];exact⟨0,by omega⟩) i hN hi
  ·rw[pq i (by omega)];exact⟨0,by omega⟩
 have td:∀ i,T.length≤i + (d + 1)→p∣t i:=fun i hi=>by
  by_cases hN:i < M
  ·exact qdeg hp nl pf M t (zc T) htq (fun k hk=>by rw[z0N hk];exact⟨0,by omega⟩) i hN hi
  ·rw[pt i (by omega)];exact⟨0,by omega⟩
 have q0:p∣1 - q 0 * zc f 0:=by
  have h:=hq 0
  rw[F.one]at h
  cases N with
  | zero =>
   rw[pq 0 (Nat.zero_le _)]
   rw[cvz]at h
   obtain⟨x,hx⟩:=h
   exact⟨x,by omega⟩
  | succ N =>
   obtain⟨x,hx⟩:=h
   obtain⟨y,hy⟩:=z5z (p:=p) (f:=q) (c:=zc f) (k:=0) (fun j hj=>absurd hj (Nat.not_lt_zero _)) N
   exact⟨x + y,by grind⟩
 have one':¬ p∣(1:Int):=fun z=>absurd (z0T (by decide) (by omega) z) (by decide)
 have nf0:¬ p∣zc f 0:=fun⟨x,hx⟩=>one' (by
  obtain⟨y,hy⟩:=q0
  exact⟨y + q 0 * x,by rw[hx]at hy;grind⟩)
 have nq0:¬ p∣q 0:=fun⟨x,hx⟩=>one' (by
  obtain⟨y,hy⟩:=q0
  exact⟨y + x * zc f 0,by rw[hx]at hy;grind⟩)
 have fq:∀ k,cvz (zc f) (fun k=>cvz q R k N) k f.length=cvz (fun k=>cvz q (zc f) k N) R k (f.length + N):=fun k=>by
  rw[z7d (L:=f.length + N) pq f.length (Nat.le_refl _)]
  congr 1
  funext i
  exact z27 (z2A f) pq
 have key:∀ k,k≤m + n - a→a≤m + n→p∣cvz q R k N - t k:=fun k hk ha=>by
  refine z8y hp (f:=zc f) (a:=fun k=>cvz q R k N) (b:=t) (N:=d + 1) (K:=m + n - a) nf0 (fun k hk=>?_) k hk
  rw[show d + 1 + 1=f.length by omega]
  obtain⟨x,hx⟩:=F.tl k (by omega)
  obtain⟨y,hy⟩:=htq k
  have e1:=fq k
  have e2:p∣cvz (fun k=>cvz q (zc f) k N) R k (f.length + N) - cvz (zc B) R k (f.length + N):=z3I (fun i=>by
   obtain⟨z,hz⟩:=hq i
   exact⟨-z,by grind⟩) (fun i=>⟨0,by omega⟩) _
  have e3:p∣cvz (zc B) R k (f.length + N) - cvz (zc B) R k B.length:=by
   by_cases hl:B.length≤f.length + N
   ·rw[z2z (z2A B) hl];exact⟨0,by omega⟩
   ·have:cvz (zc B) R k B.length=cvz (zc B) R k (f.length + N) + 0:=by
     exfalso
     have hb:=hq (B.length - 1)
     rw[z5w (M:=f.length - 1) (n:=N) (by rw[Nat.sub_add_cancel f0];exact z2A f) (by omega) N (Nat.le_refl _)]at hb
     have hu:=F.rB.zc (by omega) (B.length - 1)
     exact z2g hu.1 hu.2 (F.nB F.b0) (by obtain⟨z,hz⟩:=hb;exact⟨z,by omega⟩)
    rw[this];exact⟨0,by omega⟩
  obtain⟨z2,hz2⟩:=e2
  obtain⟨z3,hz3⟩:=e3
  have e4:cvz (zc f) t k f.length=cvz t (zc f) k M:=z27 (z2A f) pt
  rw[e4,e1]
  exact⟨z2 + z3 + x + y,by grind⟩
 have v0:=P.mi (shz a (fun i=>if i < B.length then q i else 0)) (fun j hj=>by
  unfold shz
  split
  ·dsimp only
   split
   ·exact qd _ (by omega)
   ·exact⟨0,by omega⟩
  ·exact⟨0,by omega⟩) (fun k h1 h2=>by
   have hs:cvz (shz a (fun i=>if i < B.length then q i else 0)) R k (n + 1)=cvz (shz a (fun i=>if i < B.length then q i else 0)) R k (B.length + a):=z2z (fun i hi=>by
    unfold shz
    rw[if_pos (by omega)]
    exact if_neg (by omega)) F.lB
   rw[hs,zaz]
   split
   ·rename_i hak
    have k1:=key (k - a) (by omega) (by omega)
    have tk:p∣t (k - a):=td _ (by
     by_cases hT:T=[]
     ·rw[hT];exact Nat.zero_le _
     ·have:=F.lT hT;omega)
    have same:p∣cvz (fun i=>if i < B.length then q i else 0) R (k - a) B.length - cvz q R (k - a) N:=by
     have e1:cvz (fun i=>if i < B.length then q i else 0) R (k - a) (B.length + N)=cvz q R (k - a) B.length:=z32 (by omega)
     have e2:cvz (fun i=>if i < B.length then q i else 0) R (k - a) (B.length + N)=cvz (fun i=>if i < B.length then q i else 0) R (k - a) B.length:=z2z (fun i hi=>by rw[if_neg (by omega)]) (by omega)
     have e3:cvz q R (k - a) (B.length + N)=cvz q R (k - a) N:=z2z pq (by omega)
     have e4:p∣cvz (fun i=>if i < B.length then q i else 0) R (k - a) (B.length + N) - cvz q R (k - a) (B.length + N):=z3I (fun i=>by
      by_cases hi:i < B.length
      ·rw[if_pos hi];exact⟨0,by omega⟩
      ·rw[if_neg hi]
       obtain⟨z,hz⟩:=qd i (by omega)
       exact⟨-z,by rw[hz];grind⟩) (fun i=>⟨0,by omega⟩) _
     rw[← e2,← e3];exact e4
    obtain⟨x,hx⟩:=k1
    obtain⟨y,hy⟩:=tk
    obtain⟨z,hz⟩:=same
    exact⟨z + x + y,by grind⟩
   ·exact⟨0,by omega⟩) a
 unfold shz at v0
 rw[if_pos (Nat.le_refl _),Nat.sub_self]at v0
 dsimp only at v0
 rw[if_pos F.b0]at v0
 exact nq0 v0
def eqRow(l:List Int)(m n i:Nat):List Int:=(List.range (n + 1)).map fun(j:Nat)=>zi l (((m + 1 + i:Nat):Int) - (j:Int))
def eqs(l:List Int)(m n:Nat):List (List Int):=(List.range n).map (eqRow l m n)
theorem mapint{f:Nat→Int}{k:Nat}:(rng 0 k).map (fun d=>match d with | .int z=>PyData.int (f z.toNat) | d=>d)=((List.range k).map f).map .int:=by
 unfold rng
 rw[List.map_map,List.map_map]
 apply List.map_congr_left
 intro a _
 simp
theorem z4T{T:Tgt}{F:FE}{δc:Sl}{s:Sx}{f:Nat→Int}{k:Nat}(h:∀ j,j < k→∃ δ1,T.run (.int (j:Int)) δc=some δ1∧F δ1 s=some (.int (f j),s)):compD T fTrue F δc (rng 0 k) s=some (((List.range k).map f).map .int,s):=by
 rw[← mapint]
 refine z3g (rng 0 k) fun d hd=>?_
 obtain⟨j,rfl,hj⟩:=zad d hd
 obtain⟨δ1,e1,e2⟩:=h j hj
 exact⟨δ1,e1,rfl,by rw[e2];simp⟩
theorem zaA{k:Nat}{fr:List Nat}{Fi:FI}{T:Tgt}{Ft:FT}{F:FE}{δ:Sl}{s s1 s2:Sx}{ds xs:List D}(h:Fi δ s=some (ds,s1))(hs:ds.length≤1000)(hc:compD T Ft F (compDl k fr δ) ds s1=some (xs,s2)):fComp k fr Fi T Ft F δ s=some (xs,s2):=by
 unfold fComp
 rw[h]
 simp only[Option.bind_some]
 rw[if_pos (zJ hs),hc]
theorem zaB{i:Nat}{F:FO}{δ:Sl}{s s1:Sx}{xs:List D}(h:F δ s=some (xs,s1)):sSetL i F δ s=some (.next (δ.set i (.val (.list xs))),s1):=by
 unfold sSetL;rw[h];rfl
theorem zaC{f:Nat→Int}{k j:Nat}:zc ((List.range k).map f) j=if j < k then f j else 0:=by
 unfold zc
 rw[List.getD_eq_getElem?_getD,List.getElem?_map]
 by_cases h:j < k
 ·rw[List.getElem?_range h,if_pos h];rfl
 ·rw[List.getElem?_eq_none (by simpa using h),if_neg h];rfl
theorem zdp{p:Int}{l:List Int}{m n:Nat}(hp:0 < p)(rl:Rs p l):Mat p (n + 1) (eqs l m n):=by
 refine⟨fun r hr=>?_,fun r hr=>?_⟩
 ·obtain⟨i,_,rfl⟩:=List.mem_map.mp hr
  intro x hx
  obtain⟨j,_,rfl⟩:=List.mem_map.mp hx
  exact rl.zi hp _
 ·obtain⟨i,_,rfl⟩:=List.mem_map.mp hr
  simp[eqRow]
theorem eqs_sol{p:Int}{l:List Int}{m n:Nat}{v:Nat→Int}:Sol p (n + 1) (eqs l m n) v↔∀ k,m < k→k≤m + n→p∣cvz v (zc l) k (n + 1):=by
 have e:∀ i,dt (zc (eqRow l m n i)) v (n + 1)=cvz v (zc l) (m + 1 + i) (n + 1):=fun i=>by
  rw[← zce]
  refine z8u _ fun j hj=>?_
  unfold eqRow
  rw[zaC,if_pos hj]
 constructor
 ·intro S k h1 h2
  have:=S (eqRow l m n (k - (m + 1))) (List.mem_map.mpr ⟨_,List.mem_range.mpr (by omega),rfl⟩)
  rw[e,show m + 1 + (k - (m + 1))=k by omega]at this
  exact this
 ·intro S r hr
  obtain⟨i,hi,rfl⟩:=List.mem_map.mp hr
  rw[e]
  have:=List.mem_range.mp hi
  exact S _ (by omega) (by omega)
theorem Ans.pade{p:Int}{l W:List Int}{m n:Nat}(A:Ans p (n + 1) (eqs l m n) W):Pade p m n (zc l) W where
 rs:=A.rs
 c0:=A.c0
 lw:=A.lw
 la:=A.la
 so:=fun k h1 h2=>by
  have:=eqs_sol.mp A.so k h1 h2
  rwa [z2z (z2A W) A.lw]at this
 mi:=fun v hv h=>A.mi v hv (eqs_sol.mpr h)
theorem zbF{p:Int}{l W:List Int}{rd:D}{m n:Nat}(s:Sx)(hp:Prm p)(hr:seqOf rd=some (l.map .int))(rl:Rs p l)(hm:m≤50)(hn:n≤50)(eW:z0v [fieldP p,matD (eqs l m n)] s=some (.list (W.map .int),s))(rW:Rs p W)(lW:W.length≤100) :
  z1u [fieldP p,rd,.int (m:Int),.int (n:Int)] s=some (.tuple [.tuple ((tz ((List.range (m + 1)).map fun k=>(cvz (zc W) (zc l) k W.length).fmod p)).map .int),.list (W.map .int)],s):=by
 have ht:=hp.two
 obtain⟨δ',s',e,hs',c5,hδ⟩:=z2b (T:=.one 5) (G:=z3p) (fun t δ s'=>s'=s∧∃ c5:Ce,δ=[.val (fieldP p),.val rd,.val (.int (m:Int)),.val (.int (n:Int)),.own (((List.range t).map (eqRow l m n)).map rowD),c5,.non,.non])
  (rng ((m + 1:Nat):Int) n) [.val (fieldP p),.val rd,.val (.int (m:Int)),.val (.int (n:Int)),.own [],.non,.non,.non] s ⟨rfl,.non,rfl⟩
  (fun t d δ s' hd zgo=>by
   obtain⟨hs',c5,hδ⟩:=zgo
   subst hs' hδ
   obtain⟨htn,rfl⟩:=z4S hd
   have ec:asL z3o [.val (fieldP p),.val rd,.val (.int (m:Int)),.val (.int (n:Int)),.own (((List.range t).map (eqRow l m n)).map rowD),.val (.int ((m + 1 + t:Nat):Int)),.non,.non] s'=some (rowD (eqRow l m n t),s') :=
    z1T (ds:=rng 0 (n + 1)) (s1:=s') (zT (n:=n + 1) (z8 rfl rfl (z0h n)) (by omega)) (by rw[z1b];omega) (z4T (T:=.one 0) (F:=fCall z0D (aCons (fVar 1) (aCons (fVar 2) (aCons (f2 gSubI (fVar 3) (fVar 0)) aNil)))) (δc:=[.non,.val (fieldP p),.val rd,.val (.int ((m + 1 + t:Nat):Int))]) (s:=s') (f:=fun(j:Nat)=>zi l (((m + 1 + t:Nat):Int) - (j:Int))) (k:=n + 1) (fun j hj=>⟨[.val (.int (j:Int)),.val (fieldP p),.val rd,.val (.int ((m + 1 + t:Nat):Int))],rfl,ze (ds:=[fieldP p,rd,.int (((m + 1 + t:Nat):Int) - (j:Int))]) (z7 (F:=fVar 1) rfl (z7 (F:=fVar 2) rfl (z7 (FL:=aNil) (z8 (a:=.int ((m + 1 + t:Nat):Int)) (b:=.int (j:Int)) rfl rfl (by simp only[gSubI,gI,if_true])) rfl))) (zcc s' hr)⟩))
   refine⟨[.val (fieldP p),.val rd,.val (.int (m:Int)),.val (.int (n:Int)),.own (((List.range t).map (eqRow l m n)).map rowD),.val (.int ((m + 1 + t:Nat):Int)),.non,.non],[.val (fieldP p),.val rd,.val (.int (m:Int)),.val (.int (n:Int)),.own (((List.range (t + 1)).map (eqRow l m n)).map rowD),.val (.int ((m + 1 + t:Nat):Int)),.non,.non],s',rfl,?_,rfl,_,rfl⟩
   refine(z4P (xs:=((List.range t).map (eqRow l m n)).map rowD) ec rfl (by simp;omega)).trans ?_
   rw[List.range_succ,List.map_append,List.map_append]
   rfl)
 subst hs' hδ
 rw[show(rng ((m + 1:Nat):Int) n).length=n by simp[rng]]at e
 refine z09 (n:=4) (m:=4) (G:=z22) rfl ?_
 show z22 [.val (fieldP p),.val rd,.val (.int (m:Int)),.val (.int (n:Int)),.non,.non,.non,.non] s'=_
 have er:=z2u (a:=m + 1) (b:=m + n + 1) (s:=s') (s1:=s') (s2:=s') (Fa:=f2 gAdd (fVar 2) (fC (.int 1))) (Fb:=f2 gAdd (f2 gAdd (fVar 2) (fVar 3)) (fC (.int 1))) (δ:=[.val (fieldP p),.val rd,.val (.int (m:Int)),.val (.int (n:Int)),.own [],.non,.non,.non]) (z8 rfl rfl (z0h m)) (z8 (z8 (a:=.int (m:Int)) (b:=.int (n:Int)) (d:=.int ((m + n:Nat):Int)) (s1:=s') (s2:=s') rfl rfl (by simp[gAdd,gAddI,gI])) rfl (z0h (m + n))) (by omega) (by omega)
 rw[show m + n + 1 - (m + 1)=n by omega]at er
 have cw:z3r [.val (fieldP p),.val rd,.val (.int (m:Int)),.val (.int (n:Int)),.val (matD (eqs l m n)),c5,.val (.list (W.map .int)),.non] s'=some (((List.range (m + 1)).map fun k=>(cvz (zc W) (zc l) k W.length).fmod p).map .int,s'):=by
  have:=z4T (T:=.one 0) (F:=fCall z2p (aCons (fVar 1) (aCons (fVar 2) (aCons (fVar 3) (aCons (fVar 0) aNil))))) (δc:=[.non,.val (fieldP p),.val (.list (W.map .int)),.val rd]) (s:=s') (f:=fun k=>(cvz (zc W) (zc l) k W.length).fmod p) (k:=m + 1) (fun j hj=>⟨[.val (.int (j:Int)),.val (fieldP p),.val (.list (W.map .int)),.val rd],rfl,ze (ds:=[fieldP p,.list (W.map .int),rd,.int (j:Int)]) rfl ((z7T (w:=W) (l:=l) (z:=(j:Int)) s' hp rfl hr rW rl (by omega)).trans (by rw[z29]))⟩)
  exact zaA (ds:=rng 0 (m + 1)) (s1:=s') (zT (n:=m + 1) (z8 rfl rfl (z0h m)) (by omega)) (by rw[z1b];omega) this
 unfold z22
 refine zk (δ1:=[.val (fieldP p),.val rd,.val (.int (m:Int)),.val (.int (n:Int)),.own [],.non,.non,.non]) (s1:=s') (z1a (z4Q rfl (zJ (by simp)))) (zk (δ1:=[.val (fieldP p),.val rd,.val (.int (m:Int)),.val (.int (n:Int)),.own (((List.range n).map (eqRow l m n)).map rowD),c5,.non,.non]) (s1:=s') ?_ (zk (δ1:=[.val (fieldP p),.val rd,.val (.int (m:Int)),.val (.int (n:Int)),.val (matD (eqs l m n)),c5,.val (.list (W.map .int)),.non]) (s1:=s') ?_ (zk (δ1:=[.val (fieldP p),.val rd,.val (.int (m:Int)),.val (.int (n:Int)),.val (matD (eqs l m n)),c5,.val (.list (W.map .int)),.val (.list (((List.range (m + 1)).map fun k=>(cvz (zc W) (zc l) k W.length).fmod p).map .int))]) (s1:=s') (zaB cw) (z0X (z0q (z7 (ze (ds:=[.int 0,.list (((List.range (m + 1)).map fun k=>(cvz (zc W) (zc l) k W.length).fmod p).map .int)]) (z7 (zB (a:=fieldP p) rfl (fldN p)) rfl) (z7b s' rfl (by simp;omega))) (z7 (F:=fVar 6) (FL:=aNil) rfl rfl)) (small2 _ _))))))
 ·unfold z3q sFor
  rw[er]
  exact e
 ·exact zk (δ1:=[.val (fieldP p),.val rd,.val (.int (m:Int)),.val (.int (n:Int)),.val (matD (eqs l m n)),c5,.non,.non]) (s1:=s') rfl (zu (ze (ds:=[fieldP p,matD (eqs l m n)]) rfl eW))
theorem cutk{d:D}{l:List Int}(k:Nat)(h:seqOf d=some (l.map .int)):∃ d',gSlD d (some (k:Int)) none=some d'∧seqOf d'=some ((l.drop k).map .int):=by
 have e:L3.cutD (l.map PyData.int) (some (k:Int)) none=(l.drop k).map .int:=by
  unfold L3.cutD
  rw[HT.sIx_none,HT.sIx_nat,List.length_map,List.map_drop]
  by_cases hk:k≤l.length
  ·rw[Nat.min_eq_left hk,List.take_of_length_le (by simp)]
  ·rw[Nat.min_eq_right (by omega),List.drop_of_length_le (by simp),List.drop_of_length_le (by simp;omega),List.take_nil]
 cases d with
 | list xs=>cases h;exact⟨_,rfl,congrArg some e⟩
 | tuple xs=>cases h;exact⟨_,rfl,congrArg some e⟩
 | _=>cases h
theorem zbG{p:Int}{td bd:D}{below:List Int}{a:Nat}(s:Sx)(hb:seqOf bd=some (below.map .int))(ha:a < below.length)(hz:∀ j,j < a→zc below j=0)(hn:zc below a≠0):∀ (k j:Nat),j + k=a →
  whileN (asB (f2 gEq (f2 gIx (fVar 2) (fVar 3)) (f1 (gFld ["PrimeField"] "nought") (fVar 0)))) (sAug 3 gAddI (fC (.int 1))) (k + 1) [.val (fieldP p),.val td,.val bd,.val (.int (j:Int)),.non] s=some (.next [.val (fieldP p),.val td,.val bd,.val (.int (a:Int)),.non],s):=by
 have tt:∀ j,j < below.length→asB (f2 gEq (f2 gIx (fVar 2) (fVar 3)) (f1 (gFld ["PrimeField"] "nought") (fVar 0))) [.val (fieldP p),.val td,.val bd,.val (.int (j:Int)),.non] s=some (decide (zc below j=0),s):=fun j hj =>
  z0j (z8 (a:=.int (zc below j)) (b:=.int 0) (s1:=s) (z8 (a:=bd) (b:=.int (j:Int)) (s1:=s) rfl rfl (z0x hb hj)) (zB (a:=fieldP p) rfl (fldN p)) (z1d _ _))
 intro k
 induction k with
 | zero =>
  intro j hj
  obtain rfl:j=a:=by omega
  exact zR ((tt j ha).trans (by rw[decide_eq_false hn]))
 | succ k ih =>
  intro j hj
  refine z0p ((tt j (by omega)).trans (by rw[decide_eq_true (hz j (by omega))])) (δ':=[.val (fieldP p),.val td,.val bd,.val (.int ((j + 1:Nat):Int)),.non]) (s':=s) rfl (ih (j + 1) (by omega))
theorem settled2{p:Int}{td bd:D}{top below:List Int}{a:Nat}(s:Sx)(hp:Prm p)(ht':seqOf td=some (top.map .int))(hb:seqOf bd=some (below.map .int))(r1:Rs p top)(r2:Rs p below)(l1:top.length≤100)(l2:below.length≤100)(ha:a < below.length)(hz:∀ j,j < a→zc below j=0)(hn:zc below a≠0) :
  ∃ T B:List Int,z1v [fieldP p,td,bd] s=some (.tuple [.tuple (T.map .int),.tuple (B.map .int)],s)∧Rs p T∧Rs p B∧zc B 0=1∧T.length=top.length - a∧B.length=below.length - a∧(∀ k,p∣zc T k * zc below a - zc top (a + k))∧∀ k,p∣zc B k * zc below a - zc below (a + k):=by
 have ht:=hp.two
 have hu:=r2.zc (by omega) a
 have rd:∀ {l:List Int},Rs p l→Rs p (l.drop a):=fun h x hx=>h x (List.mem_of_mem_drop hx)
 obtain⟨T,eT,hT,lT,dT⟩:=zah (p:=p) (b:=zc below a) (Fm:=fMeth [("PrimeField",zf)] "divided" (fVar 2) (aCons (fVar 0) (aCons (fVar 1) aNil))) hp ⟨by omega,hu.2⟩ [.non,.val (.int (zc below a)),.val (fieldP p)] s
  (fun x=>⟨[.val (.int x),.val (.int (zc below a)),.val (fieldP p)],rfl,methP (p:=p) (Fo:=fVar 2) rfl (z7 (F:=fVar 0) rfl (z7 (F:=fVar 1) (FL:=aNil) rfl rfl)) rfl rfl⟩) (top.drop a) (rd r1)
 obtain⟨B,eB,hB,lB,dB⟩:=zah (p:=p) (b:=zc below a) (Fm:=fMeth [("PrimeField",zf)] "divided" (fVar 2) (aCons (fVar 0) (aCons (fVar 1) aNil))) hp ⟨by omega,hu.2⟩ [.non,.val (.int (zc below a)),.val (fieldP p)] s
  (fun x=>⟨[.val (.int x),.val (.int (zc below a)),.val (fieldP p)],rfl,methP (p:=p) (Fo:=fVar 2) rfl (z7 (F:=fVar 0) rfl (z7 (F:=fVar 1) (FL:=aNil) rfl rfl)) rfl rfl⟩) (below.drop a) (rd r2)
 have dT':∀ k,p∣zc T k * zc below a - zc top (a + k):=fun k=>by have:=dT k;rwa [z6y]at this
 have dB':∀ k,p∣zc B k * zc below a - zc below (a + k):=fun k=>by have:=dB k;rwa [z6y]at this
 rw[List.length_drop]at lT lB
 refine⟨T,B,z09 (n:=3) (m:=2) (G:=z23) rfl ?_,hT,hB,?_,lT,lB,dT',dB'⟩
 ·show z23 [.val (fieldP p),.val td,.val bd,.non,.non] s=_
  obtain⟨t',et',st'⟩:=cutk a ht'
  obtain⟨b',eb',sb'⟩:=cutk a hb
  have a2:z3s [.val (fieldP p),.val td,.val bd,.val (.int 0),.non] s=some (.next [.val (fieldP p),.val td,.val bd,.val (.int (a:Int)),.non],s):=zZ (zbG (p:=p) (td:=td) s hb ha hz hn a 0 (by omega)) (by unfold fuel;omega)
  have i1:iSeq (fSl (fVar 1) (pInt (fVar 3)) pNo) [.val (fieldP p),.val td,.val bd,.val (.int (a:Int)),.val (.int (zc below a))] s=some ((top.drop a).map .int,s):=by
   show(((gSlD td (some (a:Int)) none).map _).bind _)=_
   rw[et']
   show(seqOf t').map _=_
   rw[st'];rfl
  have i2:iSeq (fSl (fVar 2) (pInt (fVar 3)) pNo) [.val (fieldP p),.val td,.val bd,.val (.int (a:Int)),.val (.int (zc below a))] s=some ((below.drop a).map .int,s):=by
   show(((gSlD bd (some (a:Int)) none).map _).bind _)=_
   rw[eb']
   show(seqOf b').map _=_
   rw[sb'];rfl
  have c1:asL z3t [.val (fieldP p),.val td,.val bd,.val (.int (a:Int)),.val (.int (zc below a))] s=_:=z1T i1 (by simp;omega) eT
  have c2:asL z3u [.val (fieldP p),.val td,.val bd,.val (.int (a:Int)),.val (.int (zc below a))] s=_:=z1T i2 (by simp;omega) eB
  unfold z23
  exact zk (δ1:=[.val (fieldP p),.val td,.val bd,.val (.int 0),.non]) (s1:=s) rfl (zk a2 (zk (zu (z8 (a:=bd) (b:=.int (a:Int)) rfl rfl (z0x hb ha))) (z0X (z0q (z7 (zB (g:=gTuple) (a:=.list (T.map .int)) (d:=.tuple (T.map .int)) c1 rfl) (z7 (FL:=aNil) (zB (g:=gTuple) (a:=.list (B.map .int)) (d:=.tuple (B.map .int)) c2 rfl) rfl)) (small2 _ _)))))
 ·have h1:=hB.zc (by omega) 0
  have h2:p∣zc B 0 - 1:=by
   refine hp.dvd (b:=zc below a) ?_ (z2g hu.1 hu.2 hn)
   have:=dB' 0
   rw[Nat.add_zero]at this
   rw[show(zc B 0 - 1) * zc below a=zc B 0 * zc below a - zc below a by grind]
   exact this
  exact zan h1 ⟨by decide,by omega⟩ h2
theorem zeD{p:Int}(hp:0 < p){f:Nat→Int}{k j:Nat}:p∣zc (tz ((List.range k).map fun i=>(f i).fmod p)) j - (if j < k then f j else 0):=by
 rw[zbq,zaC]
 split
 ·exact z0M hp
 ·exact⟨0,by omega⟩
theorem z97{p:Int}(hp:0 < p){W:List Int}(h0:0 < W.length)(hl:zc W (W.length - 1)≠0):∃ a,a < W.length∧(∀ j,j < a→zc W j=0)∧zc W a≠0:=by
 have key:∀ n,(∀ j,j < n→zc W j=0)∨∃ a,a < n∧(∀ j,j < a→zc W j=0)∧zc W a≠0:=by
  intro n
  induction n with
  | zero=>exact .inl fun j hj=>absurd hj (Nat.not_lt_zero _)
  | succ n ih =>
   rcases ih with h | ⟨a,h1,h2,h3⟩
   ·by_cases e:zc W n=0
    ·exact .inl fun j hj=>by
      by_cases ej:j < n
      ·exact h j ej
      ·rw[show j=n by omega];exact e
    ·exact .inr ⟨n,by omega,h,e⟩
   ·exact .inr ⟨a,by omega,h2,h3⟩
 rcases key W.length with h | h
 ·exact absurd (h _ (by omega)) hl
 ·exact h
theorem zdq{n m:Nat}{G:GS}{ds:List D}{s s':Sx}{δ:Sl}(hl:ds.length=n)(h:G (ds.map .val++List.replicate m .non) s=some (.next δ,s')):mkFn n m G ds s=some (.none,s'):=by
 unfold mkFn;rw[if_pos hl,h]
theorem zbH{rd:D}{l:List Int}{m n:Nat}(s:Sx)(hr:seqOf rd=some (l.map .int))(h:m + n + 1≤l.length):z0R [rd,.int (m:Int),.int (n:Int)] s=some (.none,s):=by
 refine zdq (n:=3) (m:=0) (G:=z3n) rfl (z0i (z0j (z8 (a:=.int (l.length:Int)) (b:=.int ((m + n + 1:Nat):Int)) (s1:=s) (zB (a:=rd) rfl (by rw[z0Y hr,List.length_map])) (z8 (z8 (a:=.int (m:Int)) (b:=.int (n:Int)) (d:=.int ((m + n:Nat):Int)) (s1:=s) (s2:=s) rfl rfl (by simp[gAdd,gAddI,gI])) rfl (z0h (m + n))) ?_)))
 simp only[gLt,gI,if_true]
 rw[decide_eq_false (by omega)]
structure Told(p:Int)(m n:Nat)(l T B:List Int)(a:Nat):Prop where
 fu:Fu p m n (zc l) T B a
 co:∀ f:List Int,Rs p f→Ends f→0 < f.length→DvF p (zc f) (zc B)→DvF p (zc f) (zc T)→f.length=1
theorem z7i{p:Int}{l:List Int}{m n:Nat}(s:Sx)(hp:Prm p)(rl:Rs p l)(hm:m≤50)(hn:n≤50)(hmn:m + n + 1≤l.length) :
  ∃ (T B:List Int) (a:Nat),Told p m n l T B a∧∀ (rd:D) (l':List Int),seqOf rd=some (l'.map .int)→Rs p l'→m + n + 1≤l'.length→(∀ k,k≤m + n→zc l' k=zc l k)→z0o [.int p,rd,.int (m:Int),.int (n:Int)] s=some (.tuple [.tuple (T.map .int),.tuple (B.map .int)],s):=by
 have ht:=hp.two
 obtain⟨W,eW,A⟩:=zeC (w:=n + 1) s hp (by omega) (zdp (m:=m) (n:=n) (l:=l) (by omega) rl) (by simp[eqs])
 have P:=A.pade
 obtain⟨a,ha,hz,hna⟩:=z97 (p:=p) (by omega) P.c0 P.la
 have rt:Rs p (tz ((List.range (m + 1)).map fun k=>(cvz (zc W) (zc l) k W.length).fmod p)):=Rs.tz fun x hx=>by
  obtain⟨k,_,rfl⟩:=List.mem_map.mp hx
  exact z1N (by omega)
 have lt:=zaf ((List.range (m + 1)).map fun k=>(cvz (zc W) (zc l) k W.length).fmod p)
 rw[List.length_map,List.length_range]at lt
 generalize et:tz ((List.range (m + 1)).map fun k=>(cvz (zc W) (zc l) k W.length).fmod p)=top at *
 have htop:∀ j,p∣zc top j - (if j < m + 1 then cvz (zc W) (zc l) j W.length else 0):=fun j=>et ▸ zeD (p:=p) (by omega)
 have etop:Ends top:=fun h=>et ▸ z5u (et.symm ▸ h)
 have hlw:=P.lw
 obtain⟨T,B,es,rT,rB,one,lT,lB,dT,dB⟩:=settled2 (td:=.tuple (top.map .int)) (bd:=.list (W.map .int)) (a:=a) s hp rfl rfl rt P.rs (by omega) (by omega) ha hz hna
 have hu:=P.rs.zc (by omega) a
 have nu:=z2g hu.1 hu.2 hna
 have nil0:∀ j,j < a→zc top j=0:=fun j hj=>by
  have h1:=rt.zc (by omega) j
  refine z0T h1.1 h1.2 ?_
  obtain⟨x,hx⟩:=htop j
  have:cvz (zc W) (zc l) j W.length=0:=by
   have hc:∀ N,cvz (zc W) (zc l) j N=0:=fun N=>by
    induction N with
    | zero=>rfl
    | succ N ih =>
     rw[cvz,ih]
     unfold shz
     by_cases hN:N≤j
     ·rw[hz N (by omega)];omega
     ·rw[if_neg hN];omega
   exact hc _
  rw[this]at hx
  exact⟨x,by split at hx <;> omega⟩
 have hend:∀ {A q:List Int},Rs p q→Ends q→A.length=q.length - a→(∀ k,p∣zc A k * zc W a - zc q (a + k))→Ends A:=fun{A q} rq nq lA h hl z=>by
  have hq:=rq.zc (by omega) (q.length - 1)
  have:=h (A.length - 1)
  rw[z,show a + (A.length - 1)=q.length - 1 by omega]at this
  obtain⟨x,hx⟩:=this
  exact z2g hq.1 hq.2 (nq (by omega)) ⟨-x,by grind⟩
 have F:Fu p m n (zc l) T B a:=⟨rT,rB,hend rt etop lT dT,hend P.rs (fun _=>P.la) lB dB,by omega,one,fun hT=>by
   have:0 < T.length:=List.length_pos_iff.mpr hT
   omega,by omega,fun k hk=>by
   refine hp.dvd (b:=zc W a) ?_ nu
   have e1:p∣cvz (zc B) (zc l) k B.length * zc W a - cvz (zc W) (zc l) (a + k) W.length:=by
    have x1:cvz (zc W) (zc l) (a + k) W.length=cvz (fun i=>zc W (a + i)) (zc l) k (W.length - a):=by
     have:=zaz (q:=fun i=>zc W (a + i)) (R:=zc l) (a:=a) (k:=a + k) (N:=W.length - a)
     rw[if_pos (by omega),Nat.add_sub_cancel_left,show W.length - a + a=W.length by omega]at this
     rw[← this]
     refine z5v _ fun i _=>?_
     unfold shz
     by_cases hi:a≤i
     ·rw[if_pos hi]
      show zc W i=zc W (a + (i - a))
      rw[show a + (i - a)=i by omega]
     ·rw[if_neg hi,hz i (by omega)]
    rw[x1,Int.mul_comm,← z2t,lB]
    refine z3I (fun i=>?_) (fun i=>⟨0,by omega⟩) _
    have:=dB i
    rwa [Int.mul_comm]at this
   obtain⟨x,hx⟩:=e1
   obtain⟨y,hy⟩:=dT k
   obtain⟨z,hz2⟩:=htop (a + k)
   by_cases hk2:a + k < m + 1
   ·rw[if_pos hk2]at hz2
    exact⟨x - y - z,by grind⟩
   ·rw[if_neg hk2]at hz2
    obtain⟨u,hu2⟩:=P.so (a + k) (by omega) (by omega)
    exact⟨x + u - y - z,by grind⟩⟩
 refine⟨T,B,a,⟨F,fun f rf nf f0 dfB dfT=>zgL hp P F (by omega) rf nf f0 dfB dfT⟩,fun rd l' hr rl' hl' same=>?_⟩
 have zis:∀ z:Int,z≤((m + n:Nat):Int)→zi l' z=zi l z:=fun z hz=>by
  unfold zi
  split
  ·exact same _ (by omega)
  ·rfl
 have ee:eqs l' m n=eqs l m n:=by
  unfold eqs
  refine List.map_congr_left fun i hi=>?_
  have:=List.mem_range.mp hi
  unfold eqRow
  exact List.map_congr_left fun j _=>zis _ (by omega)
 have ep:=zbF (rd:=rd) (l:=l') (W:=W) (m:=m) (n:=n) s hp hr rl' hm hn (by rw[ee];exact eW) P.rs (by omega)
 have etop2:(List.range (m + 1)).map (fun k=>(cvz (zc W) (zc l') k W.length).fmod p)=(List.range (m + 1)).map fun k=>(cvz (zc W) (zc l) k W.length).fmod p:=by
  refine List.map_congr_left fun k hk=>?_
  have:=List.mem_range.mp hk
  rw[← z29,← z29,z2v (l':=l) (fun j hj=>same j (by omega))]
 rw[etop2,et]at ep
 refine z09 (n:=4) (m:=3) (G:=z1M) rfl ?_
 show z1M [.val (.int p),.val rd,.val (.int (m:Int)),.val (.int (n:Int)),.non,.non,.non] s=_
 unfold z1M
 refine zk (δ1:=[.val (.int p),.val rd,.val (.int (m:Int)),.val (.int (n:Int)),.non,.non,.non]) (s1:=s) ?_ (zk (zu (makeP (F:=fVar 0) rfl)) (zk (δ1:=[.val (.int p),.val rd,.val (.int (m:Int)),.val (.int (n:Int)),.val (fieldP p),.val (.tuple (top.map .int)),.val (.list (W.map .int))]) (s1:=s) ?_ (z0X (ze (ds:=[fieldP p,.tuple (top.map .int),.list (W.map .int)]) rfl es))))
 ·unfold sDrop
  rw[ze (ds:=[rd,.int (m:Int),.int (n:Int)]) (s1:=s) rfl (zbH s hr hl')]
  rfl
 ·unfold sUnp
  rw[ze (ds:=[fieldP p,rd,.int (m:Int),.int (n:Int)]) (s1:=s) rfl ep]
  rfl
structure Idl(p:Int)(S:(Nat→Int)→Prop):Prop where
 add:∀ f g,S f→S g→S (fun k=>f k + g k)
 conv:∀ a f n,S f→S (fun k=>cvz a f k n)
 congr:∀ f g,S f→(∀ k,p∣g k - f k)→S g
theorem zaD{p:Int}(s:Sx)(hp:Prm p):∀ (n:Nat) (one other:List Int),other.length≤n→one.length≤200→other.length≤200→Rs p one→Rs p other→Ends one→Ends other →
  ∃ f:List Int,whileN (asB (f2 gNe (fVar 2) (eTup aNil))) (sPar 1 2 (aCons (fVar 2) (aCons (fCall zN (aCons (fVar 0) (aCons (fVar 1) (aCons (fVar 2) aNil)))) aNil))) (n + 1) [.val (.int p),.val (.tuple (one.map .int)),.val (.tuple (other.map .int))] s=some (.next [.val (.int p),.val (.tuple (f.map .int)),.val (.tuple [])],s) ∧
   Rs p f∧Ends f∧(0 < one.length∨0 < other.length→0 < f.length)∧DvF p (zc f) (zc one)∧DvF p (zc f) (zc other)∧∀ S,Idl p S→S (zc one)→S (zc other)→S (zc f):=by
 intro n
 have ne:∀ one other:List Int,f2 gNe (fVar 2) (eTup aNil) [.val (.int p),.val (.tuple (one.map .int)),.val (.tuple (other.map .int))] s=some (.bool (decide (other≠[])),s):=fun one other =>
  z8 (a:=.tuple (other.map .int)) (b:=.tuple []) (s1:=s) rfl (z0q rfl (zJ (by simp))) (z3j other)
 have stop:∀ one m,Rs p one→Ends one→∃ f:List Int,whileN (asB (f2 gNe (fVar 2) (eTup aNil))) (sPar 1 2 (aCons (fVar 2) (aCons (fCall zN (aCons (fVar 0) (aCons (fVar 1) (aCons (fVar 2) aNil)))) aNil))) (m + 1) [.val (.int p),.val (.tuple (one.map .int)),.val (.tuple (([]:List Int).map .int))] s=some (.next [.val (.int p),.val (.tuple (f.map .int)),.val (.tuple [])],s) ∧
   Rs p f∧Ends f∧(0 < one.length∨0 < ([]:List Int).length→0 < f.length)∧DvF p (zc f) (zc one)∧DvF p (zc f) (zc [])∧∀ S,Idl p S→S (zc one)→S (zc [])→S (zc f):=fun one m hR hE =>
  ⟨one,zR (z0j ((ne one []).trans (by rw[decide_eq_false (fun z=>z rfl)]))),hR,hE,fun h=>h.elim id fun z=>absurd z (Nat.lt_irrefl _),DvF.refl,DvF.zero,fun S _ h _=>h⟩
 induction n with
 | zero =>
  intro one other hn _ _ r1 _ e1 _
  cases List.eq_nil_of_length_eq_zero (Nat.le_zero.mp hn)
  exact stop one 0 r1 e1
 | succ n ih =>
  intro one other hn l1 l2 r1 r2 e1 e2
  by_cases h0:other=[]
  ·subst h0;exact stop one (n + 1) r1 e1
  ·have lo:0 < other.length:=List.length_pos_iff.mpr h0
   obtain⟨r,er,L⟩:=zcb (od:=.tuple (one.map .int)) (othd:=.tuple (other.map .int)) s hp rfl rfl r1 r2 lo e1 e2 l1
   obtain⟨f,ef,h2,h3,h5,h6,h7,h8⟩:=ih other r (by have:=L.lt;omega) l2 (by have:=L.lt;omega) r2 L.rs e2 L.en
   refine⟨f,z0p (z0j ((ne one other).trans (by rw[decide_eq_true h0]))) ?_ ef,h2,h3,fun _=>h5 (.inl lo),?_,h6,fun S I a b=>h8 S I b ?_⟩
   ·unfold sPar
    rw[z7 (F:=fVar 2) (d:=.tuple (other.map .int)) (s1:=s) rfl (z7 (d:=.tuple (r.map .int)) (FL:=aNil) (ze (ds:=[.int p,.tuple (one.map .int),.tuple (other.map .int)]) rfl er) rfl)]
    rfl
   ·obtain⟨N,q,hq⟩:=L.eq
    refine((h6.conv (a:=q) N).add h7).congr fun k=>?_
    obtain⟨a,ha⟩:=hq k
    exact⟨a,by grind⟩
   ·obtain⟨N,q,hq⟩:=L.eq
    refine I.congr _ _ (I.add _ _ a (I.conv (fun i=>-1 * q i) (zc other) N b)) fun k=>?_
    obtain⟨x,hx⟩:=hq k
    rw[z2t]
    exact⟨-x,by grind⟩
theorem z8z{p:Int}{one other:List Int}(s:Sx)(hp:Prm p)(l1:one.length≤200)(l2:other.length≤200)(r1:Rs p one)(r2:Rs p other)(e1:Ends one)(e2:Ends other)(h0:0 < one.length) :
  ∃ f:List Int,zD [.int p,.tuple (one.map .int),.tuple (other.map .int)] s=some (.tuple (f.map .int),s)∧Rs p f∧Ends f∧0 < f.length∧DvF p (zc f) (zc one)∧DvF p (zc f) (zc other)∧∀ S,Idl p S→S (zc one)→S (zc other)→S (zc f):=by
 obtain⟨f,e,h2,h3,h5,h6,h7,h8⟩:=zaD s hp other.length one other (Nat.le_refl _) l1 l2 r1 r2 e1 e2
 exact⟨f,z09 (n:=3) (m:=0) (G:=z1D) rfl (zk (zZ e (by unfold fuel;omega)) rfl),h2,h3,h5 (.inl h0),h6,h7,h8⟩
theorem z6E{a b f:Nat→Int}{M k:Nat}:∀ N,cvz a (fun k=>cvz b f k M) k N=cvz b (fun k=>cvz a f k N) k M
 | 0=>by
  rw[cvz]
  have:∀ M,cvz b (fun k=>cvz a f k 0) k M=0:=fun M=>by
   induction M with
   | zero=>rfl
   | succ M ih =>
    rw[cvz,ih]
    unfold shz
    split
    ·dsimp only;rw[cvz];omega
    ·omega
  rw[this]
 | N + 1=>by
  rw[cvz,z6E N]
  have e:cvz b (fun k=>cvz a f k (N + 1)) k M=cvz b (fun k=>cvz a f k N + a N * shz N f k) k M:=rfl
  rw[e,z4R,z3i,z4i]
theorem zcf{p:Int}{B:Nat→Int}{B':List Int}:Idl p (fun h=>DvF p B (fun k=>cvz (zc B') h k B'.length)) where
 add:=fun f g hf hg=>by
  refine(hf.add hg).congr fun k=>?_
  rw[z4R];exact⟨0,by omega⟩
 conv:=fun a f n hf=>by
  refine(hf.conv (a:=a) n).congr fun k=>?_
  rw[z6E (a:=zc B') (b:=a) (f:=f) (M:=n)];exact⟨0,by omega⟩
 congr:=fun f g hf h=>hf.congr fun k=>z3I (fun i=>⟨0,by omega⟩) h _
theorem z8A{p:Int}(hp:Prm p){f:List Int}(rf:Rs p f)(nf:Ends f)(hl:f.length=1){B:Nat→Int}{B':List Int}(h:DvF p B (fun k=>cvz (zc B') (zc f) k B'.length)):DvF p B (zc B'):=by
 have ht:=hp.two
 have hu:=rf.zc (by omega) 0
 have h0:zc f 0≠0:=by have:=nf (by omega);rwa [hl]at this
 refine h.to hp ⟨by omega,hu.2⟩ (m:=zc B') (b:=zc f 0) fun k=>?_
 have e:cvz (zc B') (zc f) k B'.length=zc B' k * zc f 0:=by
  rw[z27 (z2A B') (z2A f),hl,cvz,cvz]
  unfold shz
  rw[if_pos (Nat.zero_le _),Nat.sub_zero,Int.mul_comm];omega
 rw[e];exact⟨0,by omega⟩
theorem zdr{p:Int}(hp:Prm p){B B':List Int}(rB:Rs p B)(rB':Rs p B')(nB:Ends B)(nB':Ends B')(b0:0 < B.length)(b0':0 < B'.length)(one:zc B 0=1)(one':zc B' 0=1)(h:DvF p (zc B) (zc B'))(h':DvF p (zc B') (zc B)):B=B':=by
 have ht:=hp.two
 have n1:¬ p∣(1:Int):=fun z=>absurd (z0T (by decide) (by omega) z) (by decide)
 have le:∀ {B B':List Int},Rs p B→Ends B→0 < B.length→zc B' 0=1→DvF p (zc B) (zc B')→B.length≤B'.length:=fun{B B'} rB nB b0 one' h=>by
  refine Decidable.byContradiction fun hn=>?_
  obtain⟨N,q,pq,hq⟩:=h.ends
  have ul:=rB.zc (by omega) (B.length - 1)
  have nl:=z2g ul.1 ul.2 (nB b0)
  have qz:∀ i,i < N→p∣q i:=fun i hi=>qdeg hp nl (fun k hk=>z0N (by omega)) N q (zc B') hq (fun k hk=>by rw[z0N hk];exact⟨0,by omega⟩) i hi (by omega)
  obtain⟨x,hx⟩:=hq 0
  obtain⟨y,hy⟩:p∣cvz q (zc B) 0 N:=by
   have:=z3I (p:=p) (a:=fun i=>if i < N then q i else 0) (a':=fun _=>0) (b:=zc B) (b':=zc B) (k:=0) (fun i=>by
    by_cases hi:i < N
    ·obtain⟨z,hz⟩:=qz i hi;exact⟨z,by rw[if_pos hi];omega⟩
    ·exact⟨0,by rw[if_neg hi];omega⟩) (fun i=>⟨0,by omega⟩) N
   rw[z32 (Nat.le_refl _),z6w (a:=fun _=>0) (fun _=>rfl)]at this
   obtain⟨z,hz⟩:=this
   exact⟨z,by omega⟩
  rw[one']at hx
  exact n1 ⟨x + y,by grind⟩
 have l1:=le rB nB b0 one' h
 have l2:=le rB' nB' b0' one h'
 obtain⟨N,q,pq,hq⟩:=h.ends
 have ul:=rB.zc (by omega) (B.length - 1)
 have nl:=z2g ul.1 ul.2 (nB b0)
 have qz:∀ i,1≤i→p∣q i:=fun i hi=>by
  by_cases hN:i < N
  ·exact qdeg hp nl (fun k hk=>z0N (by omega)) N q (zc B') hq (fun k hk=>by rw[z0N hk];exact⟨0,by omega⟩) i hN (by omega)
  ·rw[pq i (by omega)];exact⟨0,by omega⟩
 have e:∀ k,p∣zc B' k - q 0 * zc B k:=fun k=>by
  obtain⟨x,hx⟩:=hq k
  obtain⟨y,hy⟩:=z3I (p:=p) (a:=q) (a':=fun i=>if i < 1 then q i else 0) (b:=zc B) (b':=zc B) (k:=k) (fun i=>by
   by_cases hi:i < 1
   ·rw[if_pos hi];exact⟨0,by omega⟩
   ·obtain⟨z,hz⟩:=qz i (by omega);exact⟨z,by rw[if_neg hi];omega⟩) (fun i=>⟨0,by omega⟩) (N + 1)
  rw[z32 (n:=1) (by omega),z2z pq (Nat.le_succ _),cvz,cvz]at hy
  unfold shz at hy
  rw[if_pos (Nat.zero_le _),Nat.sub_zero]at hy
  exact⟨x + y,by grind⟩
 refine zao (by omega) rB rB' nB nB' fun k=>?_
 obtain⟨x,hx⟩:=e 0
 obtain⟨y,hy⟩:=e k
 rw[one,one']at hx
 exact⟨-y + x * zc B k,by grind⟩
theorem zbI{p:Int}(hp:Prm p){m n L:Nat}{R:Nat→Int}{T B T' B' f g:List Int}(rT:Rs p T)(rB:Rs p B)(nT:Ends T)(nB:Ends B)(b0:0 < B.length)(one:zc B 0=1)(rT':Rs p T')(rB':Rs p B')(nT':Ends T')(nB':Ends B')(b0':0 < B'.length)(one':zc B' 0=1)
  (rf:Rs p f) (nf:Ends f) (lf:f.length=1) (Sf:∀ S,Idl p S→S (zc B)→S (zc T)→S (zc f)) (rg:Rs p g) (ng:Ends g) (lg:g.length=1) (Sg:∀ S,Idl p S→S (zc B')→S (zc T')→S (zc g))
  (hL:∀ k,L≤k→cvz (zc B') (zc T) k B'.length=0∧cvz (zc B) (zc T') k B.length=0)
  (h1:∀ k,k < L→p∣cvz (zc B) R k B.length - zc T k) (h2:∀ k,k < L→p∣cvz (zc B') R k B'.length - zc T' k):T=T'∧B=B':=by
 have ht:=hp.two
 have n1:¬ p∣(1:Int):=fun z=>absurd (z0T (by decide) (by omega) z) (by decide)
 have part:∀ {A C:List Int} {k:Nat},k < L→(∀ k,k < L→p∣cvz (zc A) R k A.length - zc C k)→∀ (b:Nat→Int) n,p∣cvz b (fun k=>cvz (zc A) R k A.length) k n - cvz b (zc C) k n:=fun{A C k} hk h b n=>by
  induction n with
  | zero=>exact⟨0,by rw[cvz,cvz];omega⟩
  | succ n ih =>
   obtain⟨x,hx⟩:=ih
   rw[cvz,cvz]
   unfold shz
   by_cases hn:n≤k
   ·rw[if_pos hn,if_pos hn]
    obtain⟨y,hy⟩:=h (k - n) (by omega)
    exact⟨x + b n * y,by grind⟩
   ·rw[if_neg hn,if_neg hn]
    exact⟨x,by grind⟩
 have cross:∀ k,p∣cvz (zc B') (zc T) k B'.length - cvz (zc B) (zc T') k B.length:=fun k=>by
  by_cases hk:k < L
  ·obtain⟨x,hx⟩:=part hk h1 (zc B') B'.length
   obtain⟨y,hy⟩:=part hk h2 (zc B) B.length
   have e:=z6E (a:=zc B') (b:=zc B) (f:=R) (M:=B.length) (k:=k) B'.length
   exact⟨y - x,by grind⟩
  ·obtain⟨e1,e2⟩:=hL k (by omega)
   rw[e1,e2];exact⟨0,by omega⟩
 have d1:DvF p (zc B) (zc B'):=z8A hp rf nf lf (Sf _ zcf ⟨B'.length,zc B',fun k=>⟨0,by dsimp only;omega⟩⟩ ⟨T'.length,zc T',fun k=>by
  rw[← z27 (z2A B) (z2A T')];exact cross k⟩)
 have d2:DvF p (zc B') (zc B):=z8A hp rg ng lg (Sg _ zcf ⟨B.length,zc B,fun k=>⟨0,by dsimp only;omega⟩⟩ ⟨T.length,zc T,fun k=>by
  rw[← z27 (z2A B') (z2A T)]
  obtain⟨x,hx⟩:=cross k
  exact⟨-x,by grind⟩⟩)
 have eB:=zdr hp rB rB' nB nB' b0 b0' one one' d1 d2
 subst eB
 refine⟨zao (by omega) rT rT' nT nT' fun k=>?_,rfl⟩
 refine z8y hp (f:=zc B) (a:=zc T) (b:=zc T') (N:=B.length - 1) (K:=k) (by rw[one];exact n1) (fun k _=>?_) k (Nat.le_refl _)
 rw[show B.length - 1 + 1=B.length by omega]
 exact cross k
def nts:List Int→Nat
 | []=>0
 | a::l=>if a=0 then nts l + 1 else 0
theorem zcg:∀ l,nts l≤l.length
 | []=>Nat.le_refl _
 | a::l=>by
  rw[nts]
  split
  ·have:=zcg l;simp;omega
  ·omega
theorem z8B:∀ (l:List Int) (k:Nat),k < nts l→zc l k=0
 | [],k,h=>absurd h (Nat.not_lt_zero _)
 | a::l,k,h=>by
  rw[nts]at h
  by_cases ha:a=0
  ·rw[if_pos ha]at h
   cases k with
   | zero=>exact ha
   | succ k=>exact z8B l k (by omega)
  ·rw[if_neg ha]at h;exact absurd h (Nat.not_lt_zero _)
theorem zch:∀ (l:List Int),nts l < l.length→zc l (nts l)≠0
 | [],h=>absurd h (Nat.not_lt_zero _)
 | a::l,h=>by
  rw[nts]at h ⊢
  by_cases ha:a=0
  ·rw[if_pos ha]at h ⊢
   exact zch l (by simp at h;omega)
  ·rw[if_neg ha];exact ha
theorem z61{T:Tgt}{Ft:FT}{F:FE}{δc:Sl}{P:D→Bool}{f:D→D}{s:Sx}:∀ ds:List D,(∀ d∈ds,∃ δ1,T.run d δc=some δ1∧Ft δ1 s=some (P d,s)∧F δ1 s=some (f d,s))→compD T Ft F δc ds s=some ((ds.filter P).map f,s)
 | [],_=>rfl
 | d::ds,h=>by
  obtain⟨δ1,e1,e2,e3⟩:=h d List.mem_cons_self
  have ih:=z61 ds fun x hx=>h x (List.mem_cons_of_mem _ hx)
  unfold compD
  rw[e1]
  simp only[Option.bind_some,e2]
  cases hP:P d with
  | true=>rw[if_pos rfl,List.filter_cons_of_pos hP];simp only[e3,Option.bind_some,ih,Option.map_some,List.map_cons]
  | false=>rw[if_neg (by decide),List.filter_cons_of_neg (by rw[hP];decide),ih]
def lstN(l:List Int):List Nat:=((List.range l.length).filter fun k=>decide (zc l k≠0))++[l.length]
theorem z7j:∀ l:List Int,∃ r,lstN l=nts l::r∧∀ x∈r,nts l≤x
 | []=>⟨[],rfl,fun _ z=>nomatch z⟩
 | a::l=>by
  have e:List.range (a::l).length=0::(List.range l.length).map Nat.succ:=by rw[List.length_cons,List.range_succ_eq_map]
  by_cases ha:a=0
  ·obtain⟨r,e2,h2⟩:=z7j l
   have e3:lstN (a::l)=(lstN l).map Nat.succ:=by
    unfold lstN
    rw[e,List.filter_cons_of_neg (by simpa [show zc (a::l) 0=a from rfl] using ha),List.filter_map,List.map_append]
    rfl
   rw[e3,e2,nts,if_pos ha]
   refine⟨r.map Nat.succ,rfl,fun x hx=>?_⟩
   obtain⟨y,hy,rfl⟩:=List.mem_map.mp hx
   exact Nat.succ_le_succ (h2 y hy)
  ·unfold lstN
   rw[e,List.filter_cons_of_pos (by simpa [show zc (a::l) 0=a from rfl] using ha),nts,if_neg ha]
   exact⟨_,rfl,fun _ _=>Nat.zero_le _⟩
theorem z7k{bt:Nat→Nat→Bool}:∀ n,(∀ k,k≤n→bt k 0=false)→argBest bt n=0
 | 0,_=>rfl
 | n + 1,h=>by rw[argBest,z7k n (fun k hk=>h k (by omega)),if_neg (by rw[h _ (Nat.le_refl _)];decide)]
theorem z98{n:Nat}{r:List Nat}(h:∀ x∈r,n≤x):gMinL (.list (((n::r).map fun(k:Nat)=>(k:Int)).map PyData.int))=some (.int (n:Int)):=by
 unfold gMinL
 dsimp only
 rw[z4c]
 show(((((n::r).map fun(k:Nat)=>(k:Int)))[leastAt ((n::r).map fun(k:Nat)=>(k:Int))]?).map fun n=>PyData.int n)=_
 have e:leastAt ((n::r).map fun(k:Nat)=>(k:Int))=0:=z7k _ (fun k hk=>by
  refine decide_eq_false ?_
  cases k with
  | zero=>omega
  | succ k =>
   have hk':k < r.length:=by rw[List.length_map,List.length_cons]at hk;omega
   show ¬ (r.map fun(k:Nat)=>(k:Int)).getD k 0 < (n:Int)
   rw[List.getD_eq_getElem?_getD,List.getElem?_map,List.getElem?_eq_getElem hk']
   have:=h _ (List.getElem_mem hk')
   show ¬ ((r[k]:Nat):Int) < (n:Int)
   omega)
 rw[e];rfl
def dif(p:Int)(T B l:List Int):List Int:=(List.range l.length).map fun k=>zc (ser p T B l.length) k - zc l k
theorem z7V{p:Int}{T B l:List Int}:(dif p T B l).length=l.length:=by simp[dif]
theorem zaE{p:Int}{T B l:List Int}{k:Nat}(h:k < l.length):zc (dif p T B l) k=zc (ser p T B l.length) k - zc l k:=by
 unfold dif
 rw[zaC,if_pos h]
theorem z4j{p:Int}{T B l:List Int}{rd:D}(s:Sx)(hp:Prm p)(rB:Rs p B)(lB:B.length≤100)(hB:0 < B.length)(hr:seqOf rd=some (l.map .int))(hl:l.length≤100) :
  zE [.int p,rd,oneD T B] s=some (.int (nts (dif p T B l):Int),s):=by
 have ht:=hp.two
 generalize eD:dif p T B l=dl
 have lD:dl.length=l.length:=eD ▸ z7V
 obtain⟨r,er,hr'⟩:=z7j dl
 have ln:gLen rd=some (.int (l.length:Int)):=by rw[z0Y hr,List.length_map]
 have es:=z60 (T:=T) (B:=B) (many:=l.length) s hp rB lB hB (by omega)
 have c:asL z26 [.val (.int p),.val rd,.val (oneD T B),.val (.list ((ser p T B l.length).map .int))] s=some (.list ((((List.range dl.length).filter fun k=>decide (zc dl k≠0)).map fun(k:Nat)=>(k:Int)).map PyData.int),s):=by
  have ei:iRange1 (f1 gLen (fVar 1)) [.val (.int p),.val rd,.val (oneD T B),.val (.list ((ser p T B l.length).map .int))] s=some (rng 0 dl.length,s):=by
   rw[lD]
   exact zT (n:=l.length) (zB (a:=rd) rfl ln) (by omega)
  have cf:=z61 (T:=.one 0) (Ft:=asB (f2 gNe (f2 gIx (fVar 1) (fVar 0)) (f2 gIx (fVar 2) (fVar 0)))) (F:=fVar 0) (δc:=[.non,.val (.list ((ser p T B l.length).map .int)),.val rd]) (s:=s) (P:=fun d=>match d with | .int k=>decide (zc dl k.toNat≠0) | _=>false) (f:=fun d=>d) (rng 0 dl.length) (fun d hd=>by
   obtain⟨k,rfl,hk⟩:=zad d hd
   refine⟨[.val (.int (k:Int)),.val (.list ((ser p T B l.length).map .int)),.val rd],rfl,?_,rfl⟩
   refine z0j (z8 (a:=.int (zc (ser p T B l.length) k)) (b:=.int (zc l k)) (s1:=s) (z8 (a:=.list ((ser p T B l.length).map .int)) (b:=.int (k:Int)) rfl rfl (z0x rfl (by rw[z3K];omega))) (z8 (a:=rd) (b:=.int (k:Int)) rfl rfl (z0x hr (by omega))) ?_)
   show gNe (.int (zc (ser p T B l.length) k)) (.int (zc l k))=some (.bool (decide (zc dl (k:Int).toNat≠0)))
   rw[z7J,Int.toNat_natCast,← decide_not,← eD,zaE (by omega)]
   rw[show decide (¬ zc (ser p T B l.length) k=zc l k)=decide (zc (ser p T B l.length) k - zc l k≠0) from decide_eq_decide.mpr (by omega)])
  have ex:((rng 0 dl.length).filter fun d=>match d with | .int k=>decide (zc dl k.toNat≠0) | _=>false).map (fun d=>d)=(((List.range dl.length).filter fun k=>decide (zc dl k≠0)).map fun(k:Nat)=>(k:Int)).map PyData.int:=by
   unfold rng
   rw[List.map_id',List.filter_map,List.map_map]
   have h1:((fun d:D=>match d with | .int k=>decide (zc dl k.toNat≠0) | _=>false) ∘ fun(k:Nat)=>PyData.int (0 + (k:Int)))=fun k=>decide (zc dl k≠0):=funext fun k=>by
    show decide (zc dl (0 + (k:Int)).toNat≠0)=_
    rw[Int.zero_add,Int.toNat_natCast]
   have h2:(fun(k:Nat)=>PyData.int (0 + (k:Int)))=PyData.int ∘ fun(k:Nat)=>(k:Int):=funext fun k=>by
    show PyData.int (0 + (k:Int))=PyData.int (k:Int)
    rw[Int.zero_add]
   rw[h1,h2]
  rw[ex]at cf
  exact z1T ei (by rw[z1b];omega) cf
 refine z09 (n:=3) (m:=1) (G:=z0W) rfl ?_
 show z0W [.val (.int p),.val rd,.val (oneD T B),.non] s=_
 unfold z0W
 refine zk (zu (ze (ds:=[.int p,oneD T B,.int (l.length:Int)]) (z7 (F:=fVar 0) rfl (z7 (F:=fVar 2) rfl (z7 (FL:=aNil) (zB (a:=rd) rfl ln) rfl))) (zd7 es))) (z0X (zB (a:=.list (((nts dl::r).map fun(k:Nat)=>(k:Int)).map PyData.int)) (z8 c (z1n (z7 (FL:=aNil) (zB (a:=rd) rfl ln) rfl) (zJ (by simp))) ?_) (z98 hr')))
 rw[← er]
 unfold lstN
 rw[catL (by
  have:=List.length_filter_le (fun k=>decide (zc dl k≠0)) (List.range dl.length)
  rw[List.length_range]at this
  simp only[List.length_map,List.length_cons,List.length_nil];omega),List.map_append,List.map_append,lD]
 rfl
theorem zeE{p:Int}{T B l:List Int}{A n:Nat}(hp:0 < p)(hB:0 < B.length)(h1:zc B 0=1)(rl:Rs p l)(hA:A≤n)(h:∀ k,k < A→tells p T B l k):∀ k,k < A→zc (ser p T B n) k=zc l k:=by
 intro k
 induction k using Nat.strongRecOn with
 | _ k ih =>
  intro hk
  have t1:=h k hk
  have t2:=z7g (T:=T) (n:=n) hp hB h1 (show k < n by omega)
  obtain⟨b,hb⟩:∃ b,B.length=b + 1:=⟨B.length - 1,by omega⟩
  unfold tells at t1 t2
  rw[hb,z6z h1]at t1 t2
  rw[z2v (l':=l) (fun j hj=>ih j (by omega) (by omega))]at t2
  refine zan ((z8k hp T B n).zc hp k) (rl.zc hp k) ?_
  obtain⟨x,hx⟩:=t1
  obtain⟨y,hy⟩:=t2
  exact⟨y - x,by grind⟩
theorem zaF{p:Int}{T B l:List Int}{A:Nat}(hp:0 < p)(hB:0 < B.length)(h1:zc B 0=1)(rl:Rs p l)(hA:A≤l.length)(h:∀ k,k < A→tells p T B l k):A≤nts (dif p T B l):=by
 refine Decidable.byContradiction fun hn=>?_
 have hlt:nts (dif p T B l) < (dif p T B l).length:=by rw[z7V];omega
 refine zch _ hlt ?_
 rw[zaE (by omega),zeE hp hB h1 rl hA h _ (by omega)]
 omega
theorem z4v{p:Int}{T B l:List Int}(hp:0 < p)(hB:0 < B.length)(h1:zc B 0=1):∀ k,k < nts (dif p T B l)→tells p T B l k:=fun k hk=>by
 have hl:nts (dif p T B l)≤l.length:=by have:=zcg (dif p T B l);rwa [z7V]at this
 have e:∀ j,j≤k→zc (ser p T B l.length) j=zc l j:=fun j hj=>by
  have:=z8B (dif p T B l) j (by omega)
  rw[zaE (by omega)]at this
  omega
 have t:=z7g (T:=T) (n:=l.length) hp hB h1 (show k < l.length by omega)
 unfold tells at t ⊢
 rwa [z2v (l':=l) (fun j hj=>e j (by omega))]at t
theorem Told.low{p:Int}{m n a:Nat}{l T B:List Int}(F:Told p m n l T B a)(hm:m≤50)(hn:n≤50):Low p T B T B where
 rT:=F.fu.rT
 rB:=F.fu.rB
 nT:=F.fu.nT
 nB:=F.fu.nB
 lT:=by
  by_cases h:T=[]
  ·subst h;exact Nat.zero_le _
  ·have:=F.fu.lT h;omega
 lB:=by have:=F.fu.lB;omega
 b0:=F.fu.b0
 one:=F.fu.one
 co:=fun f rf nf f0 d1 d2=>F.co f rf nf f0 d1 d2
 eq:=fun k=>by rw[z27 (z2A T) (z2A B)];exact⟨0,by omega⟩
def lessN(m n:Nat)(T B:List Int):Nat:=if T=[] then n + 1 - B.length else min (n + 1 - B.length) (m + 1 - T.length)
theorem Told.best{p:Int}(hp:Prm p){m n a:Nat}{l T B:List Int}(F:Told p m n l T B a)(rl:Rs p l)(hmn:m + n + 1≤l.length):m + n + 1 - lessN m n T B≤nts (dif p T B l):=by
 have ht:=hp.two
 refine zaF (by omega) F.fu.b0 F.fu.one rl (by omega) fun k hk=>?_
 have ha:a≤lessN m n T B:=by
  unfold lessN
  have:=F.fu.lB
  split
  ·omega
  ·rename_i h;have:=F.fu.lT h;omega
 unfold tells
 rw[z29]
 exact F.fu.tl k (by omega)
theorem zaG{p:Int}(hp:Prm p){m n a:Nat}{l T B:List Int}{rd:D}(s:Sx)(hr:seqOf rd=some (l.map .int))(F:Told p m n l T B a)(rl:Rs p l)(hm:m≤50)(hn:n≤50)(hl:l.length≤100)(hmn:m + n + 1≤l.length) :
  zI [.int p,rd,.int (m:Int),.int (n:Int),oneD T B] s=some (.bool true,s):=by
 have ht:=hp.two
 have lw:=F.low hm hn
 have eq:=zdh s hp lw
 have lb:=F.fu.lB
 have lt:T.length≤m + 1:=by
  by_cases h:T=[]
  ·subst h;exact Nat.zero_le _
  ·have:=F.fu.lT h;omega
 have ag:=z4j (T:=T) (B:=B) (rd:=rd) (l:=l) s hp F.fu.rB lw.lB F.fu.b0 hr hl
 have bs:=F.best hp rl hmn
 have i0:∀ {c5:Ce},f2 gIx (fVar 4) (fC (.int 0)) [.val (.int p),.val rd,.val (.int (m:Int)),.val (.int (n:Int)),.val (oneD T B),c5] s=some (.tuple (T.map .int),s):=rfl
 have i1:∀ {c5:Ce},f2 gIx (fVar 4) (fC (.int 1)) [.val (.int p),.val rd,.val (.int (m:Int)),.val (.int (n:Int)),.val (oneD T B),c5] s=some (.tuple (B.map .int),s):=rfl
 have len:∀ q:List Int,gLen (.tuple (q.map .int))=some (.int (q.length:Int)):=fun q=>by rw[z0Y (xs:=q.map .int) rfl,List.length_map]
 have sub:∀ {a b:Nat},b≤a→gSubI (.int (a:Int)) (.int (b:Int))=some (.int ((a - b:Nat):Int)):=fun h=>z3J h
 refine z09 (n:=5) (m:=1) (G:=z08) rfl ?_
 show z08 [.val (.int p),.val rd,.val (.int (m:Int)),.val (.int (n:Int)),.val (oneD T B),.non] s=_
 have t1:tOrF (tNotF (asT (fCall zH (aCons (fVar 0) (aCons (fVar 4) aNil))))) (tOrF (asB (f2 gGt (f1 gLen (f2 gIx (fVar 4) (fC (.int 0)))) (f2 gAdd (fVar 2) (fC (.int 1))))) (asB (f2 gGt (f1 gLen (f2 gIx (fVar 4) (fC (.int 1)))) (f2 gAdd (fVar 3) (fC (.int 1)))))) [.val (.int p),.val rd,.val (.int (m:Int)),.val (.int (n:Int)),.val (oneD T B),.non] s=some (false,s):=by
  refine z5t (z31 (b:=true) (z6s (ze (ds:=[.int p,oneD T B]) rfl eq))) (z5t (s1:=s) (z0j (z8 (zB i0 (len T)) (z8 rfl rfl (z0h m)) ?_)) (z0j (z8 (zB i1 (len B)) (z8 rfl rfl (z0h n)) ?_)))
  ·simp only[gGt,gI,if_true];rw[decide_eq_false (by omega)]
  ·simp only[gGt,gI,if_true];rw[decide_eq_false (by omega)]
 have fin:∀ e:Nat,e=lessN m n T B→sRet (f2 gGe (fCall zE (aCons (fVar 0) (aCons (fVar 1) (aCons (fVar 4) aNil)))) (f2 gSubI (f2 gAdd (f2 gAdd (fVar 2) (fVar 3)) (fC (.int 1))) (fVar 5))) [.val (.int p),.val rd,.val (.int (m:Int)),.val (.int (n:Int)),.val (oneD T B),.val (.int (e:Int))] s=some (.ret (.bool true),s):=fun e he=>by
  refine z0X (z8 (ze (ds:=[.int p,rd,oneD T B]) rfl ag) (z8 (z8 (z8 (a:=.int (m:Int)) (b:=.int (n:Int)) (d:=.int ((m + n:Nat):Int)) (s1:=s) (s2:=s) rfl rfl (by simp[gAdd,gAddI,gI])) rfl (z0h (m + n))) rfl (sub (b:=e) (by subst he;unfold lessN;split <;> omega))) ?_)
  simp only[gGe,gI,if_true];rw[decide_eq_true (by subst he;omega)]
 unfold z08
 refine zk (z0i t1) (zk (δ1:=[.val (.int p),.val rd,.val (.int (m:Int)),.val (.int (n:Int)),.val (oneD T B),.val (.int ((n + 1 - B.length:Nat):Int))]) (s1:=s) (zu (z8 (z8 rfl rfl (z0h n)) (zB i1 (len B)) (sub (by omega)))) ?_)
 have tn:asB (f2 gNe (f2 gIx (fVar 4) (fC (.int 0))) (eTup aNil)) [.val (.int p),.val rd,.val (.int (m:Int)),.val (.int (n:Int)),.val (oneD T B),.val (.int ((n + 1 - B.length:Nat):Int))] s=some (decide (T≠[]),s):=z0j (z8 i0 (z0q rfl (zJ (by simp))) (z3j T))
 by_cases hT:T=[]
 ·refine zk (z0i (tn.trans (by rw[decide_eq_false (fun z=>z hT)]))) (fin _ ?_)
  unfold lessN;rw[if_pos hT]
 ·refine zk (δ1:=[.val (.int p),.val rd,.val (.int (m:Int)),.val (.int (n:Int)),.val (oneD T B),.val (.int ((min (n + 1 - B.length) (m + 1 - T.length):Nat):Int))]) (s1:=s) (z5I (tn.trans (by rw[decide_eq_true hT])) (zu (z8 (Fa:=fVar 5) (a:=.int ((n + 1 - B.length:Nat):Int)) (b:=.int ((m + 1 - T.length:Nat):Int)) (s1:=s) (s2:=s) rfl (z8 (a:=.int ((m + 1:Nat):Int)) (b:=.int (T.length:Int)) (s1:=s) (z8 (a:=.int (m:Int)) (b:=.int 1) (s1:=s) rfl rfl (z0h m)) (zB i0 (len T)) (sub (by omega))) (z7S _ _)))) (fin _ ?_)
  unfold lessN;rw[if_neg hT]
theorem zgM{Fa Fb:FE}{δ:Sl}{s s1:Sx}(h:Fa δ s=some (.bool true,s1)):eOr Fa Fb δ s=some (.bool true,s1):=by
 unfold eOr;rw[h];rfl
theorem zgN{Fa Fb:FE}{δ:Sl}{s s1:Sx}{r:Option (D × Sx)}(h:Fa δ s=some (.bool false,s1))(e:Fb δ s1=r):eOr Fa Fb δ s=r:=by
 unfold eOr;rw[h];exact e
theorem z8C:∀ a c:List Int,PyData.eqvAll (a.map .int) (c.map .int)=decide (a=c)
 | [],[]=>rfl
 | [],_::_=>rfl
 | _::_,[]=>rfl
 | x::a,y::c=>by
  show(PyData.eqv (.int x) (.int y) && PyData.eqvAll (a.map .int) (c.map .int))=_
  rw[z8C a c]
  simp[PyData.eqv]
  rfl
theorem zds(T B T' B':List Int):gEq (oneD T' B') (oneD T B)=some (.bool (decide (T'=T∧B'=B))):=by
 obtain⟨a1,a2,a3⟩:=z28 T
 obtain⟨b1,b2,b3⟩:=z28 B
 obtain⟨c1,c2,c3⟩:=z28 T'
 obtain⟨d1,d2,d3⟩:=z28 B'
 have h1:SeqAt.shaped (oneD T B)=true:=by
  simp[oneD,SeqAt.shaped,PyData.canLay0,PyData.canLayAll0,PyData.depth,PyData.depthAll,a1,b1]
  omega
 have h2:SeqAt.shaped (oneD T' B')=true:=by
  simp[oneD,SeqAt.shaped,PyData.canLay0,PyData.canLayAll0,PyData.depth,PyData.depthAll,c1,d1]
  omega
 have e:PyData.eqv (oneD T' B') (oneD T B)=decide (T'=T∧B'=B):=by
  simp[oneD,PyData.eqv,PyData.eqvAll,z8C]
 simp[gEq,h1,h2,e]
theorem zdt{p:Int}{B l:List Int}{i c:Nat}(hp:Prm p)(rB:Rs p B)(rl:Rs p l)(hc:c≤100)(hci:c≤i + 1):gSum (.list (((List.range c).map fun j=>zc B j * zc l (i - j)).map .int))=some (.int (wsum B l (i:Int) c)):=by
 have ht:=hp.two
 have so:sumOk ((List.range c).map fun j=>zc B j * zc l (i - j))=true:=by
  unfold sumOk
  simp only[Bool.and_eq_true,decide_eq_true_eq,List.all_eq_true]
  refine⟨by rw[List.length_map,List.length_range];omega,fun k hk=>?_⟩
  obtain⟨j,_,rfl⟩:=List.mem_map.mp hk
  have b1:=rB.zc (by omega) j
  have b2:=rl.zc (by omega) (i - j)
  have m1:(zc B j * zc l (i - j)).natAbs=(zc B j).natAbs * (zc l (i - j)).natAbs:=Int.natAbs_mul _ _
  have m2:(zc B j).natAbs * (zc l (i - j)).natAbs≤1000 * 1000:=Nat.mul_le_mul (by omega) (by omega)
  rw[m1];omega
 unfold gSum
 simp only[z4c,Option.bind_some,so,if_true]
 rw[z8n _ hci]
abbrev tops(p:Int)(b l:List Int)(m:Nat):List Int:=(List.range (m + 1)).map fun i=>(cvz (zc b) (zc l) i b.length).fmod p
theorem zbJ{p:Int}{l b:List Int}{m n:Nat}{found best:D}{k:Int}{c9 c10 c11:Ce}(s:Sx)(hp:Prm p)(rl:Rs p l)(rb:Rs p b)(lb:b.length=n + 1)(hm:m≤50)(hn:n≤50)(hml:m + 1≤l.length) :
  ∃ c9',z1f [.val (.int p),.val (.list (l.map .int)),.val (.int (m:Int)),.val (.int (n:Int)),.val found,.val best,.val (.int k),.val (.list (b.map .int)),.own [],c9,c10,c11] s=some (.next [.val (.int p),.val (.list (l.map .int)),.val (.int (m:Int)),.val (.int (n:Int)),.val found,.val best,.val (.int k),.val (.list (b.map .int)),.own ((tops p b l m).map .int),c9',c10,c11],s):=by
 have ht:=hp.two
 obtain⟨δ',s',e,hs',c9',hδ⟩:=z2b (T:=.one 9) (G:=z2s) (fun t δ s'=>s'=s∧∃ c9:Ce,δ=[.val (.int p),.val (.list (l.map .int)),.val (.int (m:Int)),.val (.int (n:Int)),.val found,.val best,.val (.int k),.val (.list (b.map .int)),.own (((List.range t).map fun i=>(cvz (zc b) (zc l) i b.length).fmod p).map .int),c9,c10,c11])
  (rng 0 (m + 1)) [.val (.int p),.val (.list (l.map .int)),.val (.int (m:Int)),.val (.int (n:Int)),.val found,.val best,.val (.int k),.val (.list (b.map .int)),.own [],c9,c10,c11] s ⟨rfl,c9,rfl⟩
  (fun t d δ s' hd zgp=>by
   obtain⟨hs',c9,hδ⟩:=zgp
   subst hs' hδ
   obtain⟨htn,rfl⟩:=z6h hd
   have ec:asL z2r [.val (.int p),.val (.list (l.map .int)),.val (.int (m:Int)),.val (.int (n:Int)),.val found,.val best,.val (.int k),.val (.list (b.map .int)),.own (((List.range t).map fun i=>(cvz (zc b) (zc l) i b.length).fmod p).map .int),.val (.int (t:Int)),c10,c11] s'=some (.list (((List.range (min t n + 1)).map fun j=>zc b j * zc l (t - j)).map .int),s') :=
    z1T (ds:=rng 0 (min t n + 1)) (s1:=s') (zT (n:=min t n + 1) (z8 (z8 (a:=.int (t:Int)) (b:=.int (n:Int)) (s1:=s') rfl rfl (z7S t n)) rfl (z0h _)) (by omega)) (by rw[z1b];omega) (z4T (T:=.one 0) (F:=f2 gMulI (f2 gIx (fVar 1) (fVar 0)) (f2 gIx (fVar 2) (f2 gSubI (fVar 3) (fVar 0)))) (δc:=[.non,.val (.list (b.map .int)),.val (.list (l.map .int)),.val (.int (t:Int))]) (s:=s') (f:=fun j=>zc b j * zc l (t - j)) (k:=min t n + 1) (fun j hj=>⟨[.val (.int (j:Int)),.val (.list (b.map .int)),.val (.list (l.map .int)),.val (.int (t:Int))],rfl,z8 (a:=.int (zc b j)) (b:=.int (zc l (t - j))) (s1:=s') (z8 (a:=.list (b.map .int)) (b:=.int (j:Int)) rfl rfl (z0x (d:=.list (b.map .int)) rfl (by omega))) (z8 (a:=.list (l.map .int)) (b:=.int ((t - j:Nat):Int)) (s1:=s') rfl (z8 (a:=.int (t:Int)) (b:=.int (j:Int)) rfl rfl (z3J (by omega))) (z0x (d:=.list (l.map .int)) rfl (by omega))) (mulR (by omega) (rb.zc (by omega) _) (rl.zc (by omega) _))⟩))
   have hw:wsum b l (t:Int) (min t n + 1)=cvz (zc b) (zc l) t b.length:=by
    rw[← z29,lb]
    exact(z5x (n + 1) (by omega) fun i h1 h2=>by omega).symm
   have es:=zdt (p:=p) (B:=b) (l:=l) (i:=t) (c:=min t n + 1) hp rb rl (by omega) (by omega)
   rw[hw]at es
   refine⟨[.val (.int p),.val (.list (l.map .int)),.val (.int (m:Int)),.val (.int (n:Int)),.val found,.val best,.val (.int k),.val (.list (b.map .int)),.own (((List.range t).map fun i=>(cvz (zc b) (zc l) i b.length).fmod p).map .int),.val (.int (t:Int)),c10,c11],[.val (.int p),.val (.list (l.map .int)),.val (.int (m:Int)),.val (.int (n:Int)),.val found,.val best,.val (.int k),.val (.list (b.map .int)),.own (((List.range (t + 1)).map fun i=>(cvz (zc b) (zc l) i b.length).fmod p).map .int),.val (.int (t:Int)),c10,c11],s',rfl,?_,rfl,_,rfl⟩
   refine(z4P (xs:=((List.range t).map fun i=>(cvz (zc b) (zc l) i b.length).fmod p).map .int) (z8 (a:=.int (cvz (zc b) (zc l) t b.length)) (b:=.int p) (s1:=s') (zB (g:=gSum) ec es) rfl (z4C (by omega) _)) rfl (by simp;omega)).trans ?_
   rw[List.range_succ,List.map_append,List.map_append]
   rfl)
 subst hs' hδ
 rw[z1b]at e
 refine⟨c9',?_⟩
 unfold z1f sFor
 rw[zT (s:=s') (s':=s') (n:=m + 1) (F:=f2 gAdd (fVar 2) (fC (.int 1))) (z8 rfl rfl (z0h m)) (by omega)]
 exact e
theorem zdu{p:Int}{l b T B:List Int}{m n a:Nat}{k:Int}{c7 c8 c9 c10 c11:Ce}(s:Sx)(hp:Prm p)(rl:Rs p l)(rb:Rs p b)(lb:b.length=n + 1)(b1:zc b 0=1)(hm:m≤50)(hn:n≤50)(hl:l.length≤100)(hmn:m + n + 1≤l.length)(F:Told p m n l T B a)
  (eb:f2 gAdd (eLst (aCons (fC (.int 1)) aNil)) (asL z0K) [.val (.int p),.val (.list (l.map .int)),.val (.int (m:Int)),.val (.int (n:Int)),.val (oneD T B),.val (.int (nts (dif p T B l):Int)),.val (.int k),c7,c8,c9,c10,c11] s=some (.list (b.map .int),s)) :
  ∃ c7' c8' c9' c10' c11',z0L [.val (.int p),.val (.list (l.map .int)),.val (.int (m:Int)),.val (.int (n:Int)),.val (oneD T B),.val (.int (nts (dif p T B l):Int)),.val (.int k),c7,c8,c9,c10,c11] s=some (.next [.val (.int p),.val (.list (l.map .int)),.val (.int (m:Int)),.val (.int (n:Int)),.val (oneD T B),.val (.int (nts (dif p T B l):Int)),.val (.int k),c7',c8',c9',c10',c11'],s):=by
 have ht:=hp.two
 obtain⟨c9',et⟩:=zbJ (found:=oneD T B) (best:=.int (nts (dif p T B l):Int)) (k:=k) (c9:=c9) (c10:=c10) (c11:=c11) s hp rl rb lb hm hn (by omega)
 have rt:Rs p (tops p b l m):=fun x hx=>by
  obtain⟨i,_,rfl⟩:=List.mem_map.mp hx
  exact z1N (by omega)
 have ltp:(tops p b l m).length=m + 1:=by simp
 generalize eT':tz (tops p b l m)=T'
 generalize eB':tz b=B'
 have rT':Rs p T':=eT' ▸ rt.tz
 have rB':Rs p B':=eB' ▸ rb.tz
 have nT':Ends T':=fun h=>eT' ▸ z5u (eT'.symm ▸ h)
 have nB':Ends B':=fun h=>eB' ▸ z5u (eB'.symm ▸ h)
 have lT':T'.length≤m + 1:=by rw[← eT',← ltp];exact zaf _
 have lB':B'.length≤n + 1:=by rw[← eB',← lb];exact zaf _
 have one':zc B' 0=1:=by rw[← eB',zbq];exact b1
 have b0':0 < B'.length:=Nat.pos_of_ne_zero fun z=>by rw[z0N (by omega)]at one';exact absurd one' (by decide)
 have lw:=F.low hm hn
 obtain⟨g,eg,rg,ng,g0,_,_,Sg⟩:=z8z (one:=B') (other:=T') s hp (by omega) (by omega) rB' rT' nB' nT' b0'
 obtain⟨f,_,rf,nf,f0,df1,df2,Sf⟩:=z8z (one:=B) (other:=T) s hp (by have:=lw.lB;omega) (by have:=lw.lT;omega) lw.rB lw.rT lw.nB lw.nT lw.b0
 have lf:=F.co f rf nf f0 df1 df2
 have ct:=z6x (d:=.list ((tops p b l m).map .int)) (l:=tops p b l m) s rfl (by omega)
 have cb:=z6x (d:=.list (b.map .int)) (l:=b) s rfl (by omega)
 rw[eT']at ct
 rw[eB']at cb
 have ag:=z4j (T:=T') (B:=B') (rd:=.list (l.map .int)) (l:=l) s hp rB' (by omega) b0' rfl hl
 refine⟨.val (.list (b.map .int)),.val (.list ((tops p b l m).map .int)),c9',.val (oneD T' B'),.val (.bool (decide (1 < g.length) || decide (T'=T∧B'=B))),?_⟩
 have i11:∀ {x7 x8 x9 x11:Ce},eOr (f2 gGt (f1 gLen (fCall zD (aCons (fVar 0) (aCons (f2 gIx (fVar 10) (fC (.int 1))) (aCons (f2 gIx (fVar 10) (fC (.int 0))) aNil))))) (fC (.int 1))) (f2 gEq (fVar 10) (fVar 4)) [.val (.int p),.val (.list (l.map .int)),.val (.int (m:Int)),.val (.int (n:Int)),.val (oneD T B),.val (.int (nts (dif p T B l):Int)),.val (.int k),x7,x8,x9,.val (oneD T' B'),x11] s=some (.bool (decide (1 < g.length) || decide (T'=T∧B'=B)),s):=fun{x7 x8 x9 x11}=>by
  have e1:f2 gGt (f1 gLen (fCall zD (aCons (fVar 0) (aCons (f2 gIx (fVar 10) (fC (.int 1))) (aCons (f2 gIx (fVar 10) (fC (.int 0))) aNil))))) (fC (.int 1)) [.val (.int p),.val (.list (l.map .int)),.val (.int (m:Int)),.val (.int (n:Int)),.val (oneD T B),.val (.int (nts (dif p T B l):Int)),.val (.int k),x7,x8,x9,.val (oneD T' B'),x11] s=some (.bool (decide (1 < g.length)),s):=by
   refine z8 (a:=.int (g.length:Int)) (b:=.int 1) (s1:=s) (zB (a:=.tuple (g.map .int)) (ze (ds:=[.int p,.tuple (B'.map .int),.tuple (T'.map .int)]) rfl eg) (by rw[z0Y (xs:=g.map .int) rfl,List.length_map])) rfl ?_
   simp only[gGt,gI,if_true]
   rw[show decide ((1:Int) < (g.length:Int))=decide (1 < g.length) from decide_eq_decide.mpr (by omega)]
  by_cases hg:1 < g.length
  ·rw[decide_eq_true hg,Bool.true_or]
   exact zgM (e1.trans (by rw[decide_eq_true hg]))
  ·rw[decide_eq_false hg,Bool.false_or]
   exact zgN (e1.trans (by rw[decide_eq_false hg])) (z8 rfl rfl (zds T B T' B'))
 have t12:tAndF (tNotF (asT (fVar 11))) (asB (f2 gGe (fCall zE (aCons (fVar 0) (aCons (fVar 1) (aCons (fVar 10) aNil)))) (fVar 5))) [.val (.int p),.val (.list (l.map .int)),.val (.int (m:Int)),.val (.int (n:Int)),.val (oneD T B),.val (.int (nts (dif p T B l):Int)),.val (.int k),.val (.list (b.map .int)),.val (.list ((tops p b l m).map .int)),c9',.val (oneD T' B'),.val (.bool (decide (1 < g.length) || decide (T'=T∧B'=B)))] s=some (false,s):=by
  by_cases hs:(decide (1 < g.length) || decide (T'=T∧B'=B))=true
  ·rw[hs]
   exact z6A (z31 (b:=true) (z6s rfl))
  ·have hsf:(decide (1 < g.length) || decide (T'=T∧B'=B))=false:=by simpa using hs
   rw[hsf]
   refine z3H (s1:=s) (z31 (b:=false) (z6s rfl)) (z0j (z8 (a:=.int (nts (dif p T' B' l):Int)) (b:=.int (nts (dif p T B l):Int)) (s1:=s) (ze (ds:=[.int p,.list (l.map .int),oneD T' B']) rfl ag) rfl ?_))
   simp only[gGe,gI,if_true]
   rw[decide_eq_false]
   intro hge
   rw[Bool.or_eq_false_iff]at hsf
   have lg:g.length=1:=by have:=of_decide_eq_false hsf.1;omega
   refine of_decide_eq_false hsf.2 ?_
   have bs:=F.best hp rl hmn
   have lT:T.length≤m + 1:=by
    by_cases h:T=[]
    ·subst h;exact Nat.zero_le _
    ·have:=F.fu.lT h;omega
   have lB:=F.fu.lB
   have:=zbI hp (m:=m) (n:=n) (L:=m + n + 1 - lessN m n T B) (R:=zc l) lw.rT lw.rB lw.nT lw.nB lw.b0 lw.one rT' rB' nT' nB' b0' one' rf nf lf Sf rg ng lg Sg (fun k hk=>by
    constructor
    ·by_cases hT:T=[]
     ·subst hT
      exact(z27 (z2A B') (z2A ([]:List Int))).trans rfl
     ·have l0:0 < T.length:=List.length_pos_iff.mpr hT
      refine z5w (M:=T.length - 1) (n:=B'.length) (by rw[Nat.sub_add_cancel l0];exact z2A T) ?_ _ (Nat.le_refl _)
      unfold lessN at hk
      rw[if_neg hT]at hk
      omega
    ·by_cases hT:T'=[]
     ·subst hT
      exact(z27 (z2A B) (z2A ([]:List Int))).trans rfl
     ·have l0:0 < T'.length:=List.length_pos_iff.mpr hT
      refine z5w (M:=T'.length - 1) (n:=B.length) (by rw[Nat.sub_add_cancel l0];exact z2A T') ?_ _ (Nat.le_refl _)
      unfold lessN at hk
      split at hk <;> omega) (fun k hk=>by
    have:=z4v (p:=p) (T:=T) (B:=B) (l:=l) (by omega) lw.b0 lw.one k (by omega)
    unfold tells at this
    rwa [z29]at this) (fun k hk=>by
    have:=z4v (p:=p) (T:=T') (B:=B') (l:=l) (by omega) b0' one' k (by omega)
    unfold tells at this
    rwa [z29]at this)
   exact⟨this.1.symm,this.2.symm⟩
 unfold z0L
 refine zk (zu eb) (zk (z1a (z4Q rfl (zJ (by simp)))) (zk et (zk (δ1:=[.val (.int p),.val (.list (l.map .int)),.val (.int (m:Int)),.val (.int (n:Int)),.val (oneD T B),.val (.int (nts (dif p T B l):Int)),.val (.int k),.val (.list (b.map .int)),.val (.list ((tops p b l m).map .int)),c9',.val (oneD T' B'),c11]) (s1:=s) (zk (δ1:=[.val (.int p),.val (.list (l.map .int)),.val (.int (m:Int)),.val (.int (n:Int)),.val (oneD T B),.val (.int (nts (dif p T B l):Int)),.val (.int k),.val (.list (b.map .int)),.val (.list ((tops p b l m).map .int)),c9',c10,c11]) (s1:=s) rfl (zu (z0q (z7 (ze (ds:=[.list ((tops p b l m).map .int)]) rfl ct) (z7 (FL:=aNil) (ze (ds:=[.list (b.map .int)]) rfl cb) rfl)) (small2 _ _)))) (zk (zu i11) (z0i t12)))))
theorem Prm.low{p:Int}(hp:Prm p)(h:p < 4):p=2∨p=3:=by
 obtain⟨n,hn,rfl⟩:=hp
 simp only[List.mem_cons,List.not_mem_nil,or_false]at hn
 omega
theorem z6F{i:Nat}{δ:Sl}{s:Sx}{d:D}(h:δ[i]?=some (.val d)):fVar i δ s=some (d,s):=by
 unfold fVar;rw[h]
def pwl(p:Int)(j:Nat):Int:=if j=0 then 1 else if j=1 then p else p * p
theorem zdv{p:Int}{k:Nat}{n:Nat}{δ:Sl}(s:Sx)(hp:p=2∨p=3)(hn:n < 4)(h0:δ[0]?=some (.val (.int p)))(h3:δ[3]?=some (.val (.int (n:Int))))(h6:δ[6]?=some (.val (.int (k:Int)))) :
  f2 gAdd (eLst (aCons (fC (.int 1)) aNil)) (asL z0K) δ s=some (.list ((1::(List.range n).map fun j=>((k:Int).fdiv (pwl p j)).fmod p).map .int),s):=by
 have c:asL z0K δ s=some (.list (((List.range n).map fun j=>((k:Int).fdiv (pwl p j)).fmod p).map .int),s):=by
  refine z1T (ds:=rng 0 n) (s1:=s) (zT (n:=n) (z6F h3) (by omega)) (by rw[z1b];omega) ?_
  rw[show compDl 1 [0,6] δ=[.non,.val (.int p),.val (.int (k:Int))] by simp[compDl,h0,h6]]
  refine z4T (fun j hj=>?_)
  refine⟨[.val (.int (j:Int)),.val (.int p),.val (.int (k:Int))],rfl,?_⟩
  have hj3:j=0∨j=1∨j=2:=by omega
  rcases hp with rfl | rfl <;> rcases hj3 with rfl | rfl | rfl <;> rfl
 exact z8 (z1n rfl (zJ (by simp))) c (catL (by simp;omega))
theorem zdw{p:Int}(hp:Prm p){m n a:Nat}{l T B:List Int}(s:Sx)(F:Told p m n l T B a)(rl:Rs p l)(hm:m≤50)(hn:n≤50)(hl:l.length≤100)(hmn:m + n + 1≤l.length) :
  z0g [.int p,.list (l.map .int),.int (m:Int),.int (n:Int),oneD T B] s=some (.bool true,s):=by
 have ht:=hp.two
 have lw:=F.low hm hn
 have ag:=z4j (T:=T) (B:=B) (rd:=.list (l.map .int)) (l:=l) s hp F.fu.rB lw.lB F.fu.b0 rfl hl
 refine z09 (n:=5) (m:=7) (G:=z19) rfl ?_
 show z19 [.val (.int p),.val (.list (l.map .int)),.val (.int (m:Int)),.val (.int (n:Int)),.val (oneD T B),.non,.non,.non,.non,.non,.non,.non] s=_
 have loop:∃ c6 c7 c8 c9 c10 c11,z1g [.val (.int p),.val (.list (l.map .int)),.val (.int (m:Int)),.val (.int (n:Int)),.val (oneD T B),.val (.int (nts (dif p T B l):Int)),.non,.non,.non,.non,.non,.non] s=some (.next [.val (.int p),.val (.list (l.map .int)),.val (.int (m:Int)),.val (.int (n:Int)),.val (oneD T B),.val (.int (nts (dif p T B l):Int)),c6,c7,c8,c9,c10,c11],s):=by
  have tp:asB (f2 gLt (fVar 0) (fC (.int 4))) [.val (.int p),.val (.list (l.map .int)),.val (.int (m:Int)),.val (.int (n:Int)),.val (oneD T B),.val (.int (nts (dif p T B l):Int)),.non,.non,.non,.non,.non,.non] s=some (decide (p < 4),s):=z0j (z8 (a:=.int p) (b:=.int 4) (s1:=s) rfl rfl (by simp only[gLt,gI,if_true]))
  have tn:asB (f2 gLt (fVar 3) (fC (.int 4))) [.val (.int p),.val (.list (l.map .int)),.val (.int (m:Int)),.val (.int (n:Int)),.val (oneD T B),.val (.int (nts (dif p T B l):Int)),.non,.non,.non,.non,.non,.non] s=some (decide ((n:Int) < 4),s):=z0j (z8 (a:=.int (n:Int)) (b:=.int 4) (s1:=s) rfl rfl (by simp only[gLt,gI,if_true]))
  obtain⟨q,hq,eq⟩:∃ q:Nat,(q=0∨(p < 4∧n < 4))∧q≤100∧eIf (tAndF (asB (f2 gLt (fVar 0) (fC (.int 4)))) (asB (f2 gLt (fVar 3) (fC (.int 4))))) (f2 gIx (eLst (aCons (fC (.int 1)) (aCons (fVar 0) (aCons (f2 gMulI (fVar 0) (fVar 0)) (aCons (f2 gMulI (f2 gMulI (fVar 0) (fVar 0)) (fVar 0)) aNil))))) (fVar 3)) (fC (.int 0)) [.val (.int p),.val (.list (l.map .int)),.val (.int (m:Int)),.val (.int (n:Int)),.val (oneD T B),.val (.int (nts (dif p T B l):Int)),.non,.non,.non,.non,.non,.non] s=some (.int (q:Int),s):=by
   by_cases h4:p < 4
   ·by_cases n4:n < 4
    ·have tt:=z3H (s1:=s) (tp.trans (by rw[decide_eq_true h4])) (tn.trans (by rw[decide_eq_true (by omega)]))
     have hv:∃ q:Nat,q≤100∧f2 gIx (eLst (aCons (fC (.int 1)) (aCons (fVar 0) (aCons (f2 gMulI (fVar 0) (fVar 0)) (aCons (f2 gMulI (f2 gMulI (fVar 0) (fVar 0)) (fVar 0)) aNil))))) (fVar 3) [.val (.int p),.val (.list (l.map .int)),.val (.int (m:Int)),.val (.int (n:Int)),.val (oneD T B),.val (.int (nts (dif p T B l):Int)),.non,.non,.non,.non,.non,.non] s=some (.int (q:Int),s):=by
      have hn4:n=0∨n=1∨n=2∨n=3:=by omega
      have key:∃ v:List Nat,v.length=4∧(∀ x∈v,x≤100)∧eLst (aCons (fC (.int 1)) (aCons (fVar 0) (aCons (f2 gMulI (fVar 0) (fVar 0)) (aCons (f2 gMulI (f2 gMulI (fVar 0) (fVar 0)) (fVar 0)) aNil)))) [.val (.int p),.val (.list (l.map .int)),.val (.int (m:Int)),.val (.int (n:Int)),.val (oneD T B),.val (.int (nts (dif p T B l):Int)),.non,.non,.non,.non,.non,.non] s=some (.list ((v.map fun(x:Nat)=>(x:Int)).map .int),s):=by
       rcases hp.low h4 with e | e
       ·refine⟨[1,2,4,8],rfl,by decide,?_⟩
        subst e;rfl
       ·refine⟨[1,3,9,27],rfl,by decide,?_⟩
        subst e;rfl
      obtain⟨v,lv,hv,ev⟩:=key
      have hnv:n < v.length:=by omega
      refine⟨v[n],hv _ (List.getElem_mem hnv),z8 (b:=.int (n:Int)) ev rfl (ix_list ?_)⟩
      rw[List.getElem?_map,List.getElem?_map,List.getElem?_eq_getElem hnv];rfl
     obtain⟨q,h1,h2⟩:=hv
     exact⟨q,.inr ⟨h4,n4⟩,h1,zez tt h2⟩
    ·exact⟨0,.inl rfl,by omega,zdf (z3H (s1:=s) (tp.trans (by rw[decide_eq_true h4])) (tn.trans (by rw[decide_eq_false (by omega)]))) rfl⟩
   ·exact⟨0,.inl rfl,by omega,zdf (z6A (tp.trans (by rw[decide_eq_false h4]))) rfl⟩
  obtain⟨hq100,eq⟩:=eq
  obtain⟨δ',s',e,hs',c6,c7,c8,c9,c10,c11,hδ⟩:=z2b (T:=.one 6) (G:=z0L) (fun _ δ s'=>s'=s∧∃ c6 c7 c8 c9 c10 c11:Ce,δ=[.val (.int p),.val (.list (l.map .int)),.val (.int (m:Int)),.val (.int (n:Int)),.val (oneD T B),.val (.int (nts (dif p T B l):Int)),c6,c7,c8,c9,c10,c11])
   (rng 0 q) [.val (.int p),.val (.list (l.map .int)),.val (.int (m:Int)),.val (.int (n:Int)),.val (oneD T B),.val (.int (nts (dif p T B l):Int)),.non,.non,.non,.non,.non,.non] s ⟨rfl,.non,.non,.non,.non,.non,.non,rfl⟩
   (fun t d δ s' hd zgq=>by
    obtain⟨hs',c6,c7,c8,c9,c10,c11,hδ⟩:=zgq
    subst hs' hδ
    obtain⟨htq,rfl⟩:=z6h hd
    have hpn:p < 4∧n < 4:=hq.resolve_left (by omega)
    have eb:=zdv (p:=p) (k:=t) (n:=n) (δ:=[.val (.int p),.val (.list (l.map .int)),.val (.int (m:Int)),.val (.int (n:Int)),.val (oneD T B),.val (.int (nts (dif p T B l):Int)),.val (.int (t:Int)),c7,c8,c9,c10,c11]) s' (hp.low hpn.1) hpn.2 rfl rfl rfl
    obtain⟨x7,x8,x9,x10,x11,eo⟩:=zdu (k:=(t:Int)) (b:=1::(List.range n).map fun j=>((t:Int).fdiv (pwl p j)).fmod p) s' hp rl (fun x hx=>by
     rcases List.mem_cons.mp hx with rfl | hx
     ·exact⟨by decide,by omega⟩
     ·obtain⟨j,_,rfl⟩:=List.mem_map.mp hx
      exact z1N (by omega)) (by simp) rfl hm hn hl hmn F eb
    exact⟨_,_,s',rfl,eo,rfl,_,_,_,_,_,_,rfl⟩)
  subst hs' hδ
  refine⟨c6,c7,c8,c9,c10,c11,?_⟩
  unfold z1g sFor
  rw[zT (n:=q) eq (by omega)]
  exact e
 obtain⟨c6,c7,c8,c9,c10,c11,el⟩:=loop
 unfold z19
 exact zk (zu (ze (ds:=[.int p,.list (l.map .int),oneD T B]) rfl ag)) (zk el (z0X rfl))
theorem zci{p:Int}(hp:0 < p)(n:Nat):Rs p (List.replicate n 0):=fun x hx=>by
 rw[(List.mem_replicate.mp hx).2];omega
theorem zeF{p:Int}{a b:List Int}(ha:Rs p a)(hb:Rs p b):Rs p (a++b):=fun x hx=>(List.mem_append.mp hx).elim (ha x) (hb x)
theorem zaH{p:Int}{many n:Nat}(hp:Prm p)(h1:1≤many)(h24:many≤24)(s:Sx)(h:Good (n + 100) s) :
  ∃ (l:List Int) (s':Sx),z18 [.dict [],.int p,.int (many:Int)] s=some (.list (l.map .int),s')∧Rs p l∧l.length=many∧Good n s':=by
 have ht:=hp.two
 obtain⟨w,s1,ew,hw,g1⟩:=z0e (n:=n + 99) (m:=6) h (by decide) (by decide)
 have a1:sSet 3 (fCall z9 (aCons (fVar 0) (aCons (fC (.int 6)) aNil))) [.val (.dict []),.val (.int p),.val (.int (many:Int)),.non,.non,.non,.non,.non,.non] s=some (.next [.val (.dict []),.val (.int p),.val (.int (many:Int)),.val (.int (w:Int)),.non,.non,.non,.non,.non],s1):=zu (ze (ds:=[.dict [],.int 6]) rfl ew)
 have tw:∀ (i:Int),asB (f2 gEq (fVar 3) (fC (.int i))) [.val (.dict []),.val (.int p),.val (.int (many:Int)),.val (.int (w:Int)),.non,.non,.non,.non,.non] s1=some (decide ((w:Int)=i),s1):=fun i=>z0j (z8 (a:=.int (w:Int)) (b:=.int i) (s1:=s1) rfl rfl (z1d _ _))
 suffices hh:∃ (l:List Int) (s':Sx),z07 [.val (.dict []),.val (.int p),.val (.int (many:Int)),.non,.non,.non,.non,.non,.non] s=some (.ret (.list (l.map .int)),s')∧Rs p l∧l.length=many∧Good n s' by
  obtain⟨l,s',e,h2,h3,h4⟩:=hh
  exact⟨l,s',z09 (n:=3) (m:=6) (G:=z07) rfl e,h2,h3,h4⟩
 have hw4:w=0∨w=1∨w=2∨(3≤w∧w < 6):=by omega
 rcases hw4 with hw0 | hw1 | hw2 | hw3
 ·obtain⟨l,s2,e2,r2,l2,g2⟩:=z5y hp many n s1 (g1.mono (by omega))
  refine⟨l,s2,?_,r2,l2,g2⟩
  unfold z07
  refine zk a1 (z3T (z5I ((tw 0).trans (by rw[decide_eq_true (by omega)])) (z0X (z1T (ds:=rng 0 many) (s1:=s1) (zT (n:=many) rfl (by omega)) (by rw[z1b];omega) e2))))
 ·obtain⟨ah,s2,ea,ha,g2⟩:=z0e (n:=n + 98) (m:=many + 1) g1 (by omega) (by omega)
  obtain⟨l,s3,e3,r3,l3,g3⟩:=z5y hp (many - ah) n s2 (g2.mono (by omega))
  refine⟨List.replicate ah 0++l,s3,?_,zeF (zci (by omega) ah) r3,by simp;omega,g3⟩
  unfold z07
  refine zk a1 (zk (z0i ((tw 0).trans (by rw[decide_eq_false (by omega)]))) (z3T (z5I ((tw 1).trans (by rw[decide_eq_true (by omega)])) (zk (zu (ze (ds:=[.dict [],.int ((many + 1:Nat):Int)]) (z7 (F:=fVar 0) rfl (z7 (FL:=aNil) (z8 rfl rfl (z0h many)) rfl)) ea)) (z0X (z8 (a:=.list (List.replicate ah (.int 0))) (b:=.list (l.map .int)) (s1:=s2) (z8 (a:=.list [.int 0]) (b:=.int (ah:Int)) (s1:=s2) (z1n rfl (zJ (by simp))) rfl (z8g (by omega))) (z1T (ds:=rng 0 (many - ah)) (s1:=s2) (zT (n:=many - ah) (z8 rfl rfl (z3J (by omega))) (by omega)) (by rw[z1b];omega) e3) ((catL (by simp;omega)).trans (by simp))))))))
 ·obtain⟨q,s2,eq,hq,g2⟩:=z0e (n:=n + 98) (m:=4) g1 (by decide) (by decide)
  obtain⟨δ',s3,e3,l,c6,hδ,r3,l3,g3⟩:=z6d (T:=.one 6) (G:=z2Z) (fun k δ s'=>∃ (l:List Int) (c6:Ce),δ=[.val (.dict []),.val (.int p),.val (.int (many:Int)),.val (.int (w:Int)),.non,.own (l.map .int),c6,.non,.non]∧Rs p l∧l.length=many∧Good (n + 2 * k) s')
   (rng 0 q) [.val (.dict []),.val (.int p),.val (.int (many:Int)),.val (.int (w:Int)),.non,.own ((List.replicate many 0).map .int),.non,.non,.non] s2 ⟨List.replicate many 0,.non,rfl,zci (by omega) many,by simp,g2.mono (by rw[z1b];omega)⟩
   (fun k d δ s' _ zgr=>by
    obtain⟨l,c6,hδ,rl,ll,gk⟩:=zgr
    subst hδ
    obtain⟨v,s4,ev,v0,v1,g4⟩:=z7Q (M:=p) (n:=n + 2 * k + 1) (gk.mono (by omega)) (by omega) (by omega)
    obtain⟨j,s5,ej,hj,g5⟩:=z0e (n:=n + 2 * k) (m:=many) g4 (by omega) (by omega)
    refine⟨[.val (.dict []),.val (.int p),.val (.int (many:Int)),.val (.int (w:Int)),.non,.own (l.map .int),.val d,.non,.non],[.val (.dict []),.val (.int p),.val (.int (many:Int)),.val (.int (w:Int)),.non,.own ((l.set j v).map .int),.val d,.non,.non],s5,rfl,?_,l.set j v,_,rfl,rl.set v0 v1,by simp[ll],g5⟩
    have pa:L3.putAt (l.map .int) (.int (j:Int)) (.int v)=some ((l.set j v).map PyData.int):=by
     rw[← z42]
     exact zab (by rw[List.length_map];omega)
    exact z4O (ze (ds:=[.dict [],.int p]) rfl ev) (ze (ds:=[.dict [],.int (many:Int)]) rfl ej) rfl pa)
  subst hδ
  refine⟨l,s3,?_,r3,l3,g3⟩
  unfold z07
  refine zk a1 (zk (z0i ((tw 0).trans (by rw[decide_eq_false (by omega)]))) (zk (z0i ((tw 1).trans (by rw[decide_eq_false (by omega)]))) (z3T (z5I ((tw 2).trans (by rw[decide_eq_true (by omega)])) (zk (δ1:=[.val (.dict []),.val (.int p),.val (.int (many:Int)),.val (.int (w:Int)),.non,.own ((List.replicate many 0).map .int),.non,.non,.non]) (s1:=s1) ?_ (zk (δ1:=[.val (.dict []),.val (.int p),.val (.int (many:Int)),.val (.int (w:Int)),.non,.own (l.map .int),c6,.non,.non]) (s1:=s3) ?_ rfl))))))
  ·have:=za9 (z:=(many:Int)) (d:=.int 0) (by omega) (by omega)
   refine z1a (zca (a:=.list [.int 0]) (b:=.int (many:Int)) (s1:=s1) (z1n rfl (zJ (by simp))) rfl (this.trans ?_))
   simp
  ·unfold z30 sFor
   rw[zT (n:=q) (ze (ds:=[.dict [],.int 4]) rfl eq) (by omega)]
   exact e3
 ·obtain⟨bl,s2,e2,r2,_,l2,g2⟩:=z8s (most:=many / 3) (n:=n + 32) hp (by omega) s1 (g1.mono (by omega))
  obtain⟨tp,s3,e3,r3,_,l3,g3⟩:=z8s (most:=many / 2) (n:=n + 1) hp (by omega) s2 (g2.mono (by omega))
  have dv:∀ c:Nat,0 < c→c≤3→gDivI (.int (many:Int)) (.int (c:Int))=some (.int ((many / c:Nat):Int)):=fun c hc hc3=>by
   have:c=1∨c=2∨c=3:=by omega
   rcases this with rfl | rfl | rfl
   ·simp only[gDivI,gI,show divOk (many:Int) ((1:Nat):Int)=true from rfl,if_true,Int.fdiv_eq_ediv_of_nonneg _ (show(0:Int)≤((1:Nat):Int) by decide)];rfl
   ·simp only[gDivI,gI,show divOk (many:Int) ((2:Nat):Int)=true from rfl,if_true,Int.fdiv_eq_ediv_of_nonneg _ (show(0:Int)≤((2:Nat):Int) by decide)];rfl
   ·simp only[gDivI,gI,show divOk (many:Int) ((3:Nat):Int)=true from rfl,if_true,Int.fdiv_eq_ediv_of_nonneg _ (show(0:Int)≤((3:Nat):Int) by decide)];rfl
  have rB:Rs p (1::bl):=fun x hx=>by
   rcases List.mem_cons.mp hx with rfl | hx
   ·exact⟨by decide,by omega⟩
   ·exact r2 x hx
  have catT:gAddA (.tuple [.int 1]) (.tuple (bl.map .int))=some (.tuple ((1::bl).map .int)):=by
   have hs:small ([PyData.int 1]++bl.map .int)=true:=zJ (by simp;omega)
   show(Option.or none (gCatT (.tuple [.int 1]) (.tuple (bl.map .int))))=_
   simp only[gCatT,hs,if_true];rfl
  have es:=z60 (T:=tp) (B:=1::bl) (many:=many) s3 hp rB (by simp;omega) (by simp) (by omega)
  have a7:sSet 7 (f2 gAddA (eTup (aCons (fC (.int 1)) aNil)) (fCall zY (aCons (fVar 0) (aCons (fVar 1) (aCons (f2 gDivI (fVar 2) (fC (.int 3))) aNil))))) [.val (.dict []),.val (.int p),.val (.int (many:Int)),.val (.int (w:Int)),.non,.non,.non,.non,.non] s1=some (.next [.val (.dict []),.val (.int p),.val (.int (many:Int)),.val (.int (w:Int)),.non,.non,.non,.val (.tuple ((1::bl).map .int)),.non],s2):=zu (z8 (a:=.tuple [.int 1]) (b:=.tuple (bl.map .int)) (s1:=s1) (z0q rfl (zJ (by simp))) (ze (ds:=[.dict [],.int p,.int ((many / 3:Nat):Int)]) (z7 (F:=fVar 0) rfl (z7 (F:=fVar 1) rfl (z7 (FL:=aNil) (z8 rfl rfl (dv 3 (by decide) (by decide))) rfl))) e2) catT)
  have a5:sSetC 5 (fCallC zL (aCons (fVar 1) (aCons (eTup (aCons (fCall zY (aCons (fVar 0) (aCons (fVar 1) (aCons (f2 gDivI (fVar 2) (fC (.int 2))) aNil)))) (aCons (fVar 7) aNil))) (aCons (fVar 2) aNil)))) [.val (.dict []),.val (.int p),.val (.int (many:Int)),.val (.int (w:Int)),.non,.non,.non,.val (.tuple ((1::bl).map .int)),.non] s2=some (.next [.val (.dict []),.val (.int p),.val (.int (many:Int)),.val (.int (w:Int)),.non,.own ((ser p tp (1::bl) many).map .int),.non,.val (.tuple ((1::bl).map .int)),.non],s3):=zac (z94 (ds:=[.int p,oneD tp (1::bl),.int (many:Int)]) (z7 (F:=fVar 1) rfl (z7 (z0q (z7 (ze (ds:=[.dict [],.int p,.int ((many / 2:Nat):Int)]) (z7 (F:=fVar 0) rfl (z7 (F:=fVar 1) rfl (z7 (FL:=aNil) (z8 rfl rfl (dv 2 (by decide) (by decide))) rfl))) e3) (z7 (F:=fVar 7) (FL:=aNil) rfl rfl)) (small2 _ _)) (z7 (F:=fVar 2) (FL:=aNil) rfl rfl))) es)
  have t4:asB (f2 gGt (fVar 3) (fC (.int 4))) [.val (.dict []),.val (.int p),.val (.int (many:Int)),.val (.int (w:Int)),.non,.own ((ser p tp (1::bl) many).map .int),.non,.val (.tuple ((1::bl).map .int)),.non] s3=some (decide ((4:Int) < (w:Int)),s3):=z0j (z8 (a:=.int (w:Int)) (b:=.int 4) (s1:=s3) rfl rfl (by simp only[gGt,gI,if_true]))
  have go:∀ {r},sSeq (sIf (asB (f2 gGt (fVar 3) (fC (.int 4)))) (sSeq (sSet 8 (fCall z9 (aCons (fVar 0) (aCons (fVar 2) aNil)))) (sPut 5 (fVar 8) (f2 gModI (f2 gAdd (f2 gIx (fVarW 5) (fVar 8)) (fC (.int 1))) (fVar 1)))) sNext) (sSeq (sFrz 5) (sRet (fVar 5))) [.val (.dict []),.val (.int p),.val (.int (many:Int)),.val (.int (w:Int)),.non,.own ((ser p tp (1::bl) many).map .int),.non,.val (.tuple ((1::bl).map .int)),.non] s3=r→z07 [.val (.dict []),.val (.int p),.val (.int (many:Int)),.non,.non,.non,.non,.non,.non] s=r:=fun{r} e=>by
   unfold z07
   exact zk a1 (zk (z0i ((tw 0).trans (by rw[decide_eq_false (by omega)]))) (zk (z0i ((tw 1).trans (by rw[decide_eq_false (by omega)]))) (zk (z0i ((tw 2).trans (by rw[decide_eq_false (by omega)]))) (zk a7 (zk a5 e)))))
  have ls:=z3K p tp (1::bl) many
  have rs:=z8k (p:=p) (by omega) tp (1::bl) many
  by_cases h5:(4:Int) < (w:Int)
  ·obtain⟨j,s4,ej,hj,g4⟩:=z0e (n:=n) (m:=many) g3 (by omega) (by omega)
   have hv:=z1N (p:=p) (x:=zc (ser p tp (1::bl) many) j + 1) (by omega)
   refine⟨(ser p tp (1::bl) many).set j ((zc (ser p tp (1::bl) many) j + 1).fmod p),s4,go (zk (δ1:=[.val (.dict []),.val (.int p),.val (.int (many:Int)),.val (.int (w:Int)),.non,.own (((ser p tp (1::bl) many).set j ((zc (ser p tp (1::bl) many) j + 1).fmod p)).map .int),.non,.val (.tuple ((1::bl).map .int)),.val (.int (j:Int))]) (s1:=s4) (z5I (t4.trans (by rw[decide_eq_true h5])) (zk (zu (ze (ds:=[.dict [],.int (many:Int)]) rfl ej)) ?_)) rfl),rs.set hv.1 hv.2,by simp[ls],g4⟩
   have pa:L3.putAt ((ser p tp (1::bl) many).map .int) (.int (j:Int)) (.int ((zc (ser p tp (1::bl) many) j + 1).fmod p))=some (((ser p tp (1::bl) many).set j ((zc (ser p tp (1::bl) many) j + 1).fmod p)).map PyData.int):=by
    rw[← z42]
    exact zab (by rw[List.length_map];omega)
   exact z4O (z8 (a:=.int (zc (ser p tp (1::bl) many) j + 1)) (b:=.int p) (s1:=s4) (z8 (a:=.int (zc (ser p tp (1::bl) many) j)) (b:=.int 1) (s1:=s4) (ixw (l:=ser p tp (1::bl) many) (j:=j) rfl rfl (by omega)) rfl (by simp[gAdd,gAddI,gI])) rfl (z4C (by omega) _)) rfl rfl pa
  ·exact⟨ser p tp (1::bl) many,s3,go (zk (z0i (t4.trans (by rw[decide_eq_false h5]))) rfl),rs,ls,g3.mono (by omega)⟩
theorem z8D{k:Nat}{l:List D}(s:Sx)(h:∀ d∈l,z00 k [d,d] s=some (.bool true,s))(hb:l.length≤1000):z00 (k + 1) [.tuple l,.tuple l] s=some (.bool true,s):=by
 have hz:(l.zip l).map (fun z=>PyData.tuple [z.1,z.2])=l.map fun d=>.tuple [d,d]:=by
  clear hb h
  induction l with
  | nil=>rfl
  | cons a r ih=>simp[ih]
 have hc:compD (.tup [0,1]) fTrue (fCall (z00 k) (aCons (fVar 0) (aCons (fVar 1) aNil))) [.non,.non] (l.map fun d=>PyData.tuple [d,d]) s=some ((l.map fun d=>PyData.tuple [d,d]).map (fun _=>PyData.bool true),s):=by
  refine z3g _ fun d hd=>?_
  obtain⟨x,hx,rfl⟩:=List.mem_map.mp hd
  exact⟨[.val x,.val x],rfl,rfl,ze (ds:=[x,x]) rfl (h x hx)⟩
 have ei:iZipF (fVar 0) (fVar 1) [.val (.tuple l),.val (.tuple l)] s=some (l.map fun d=>PyData.tuple [d,d],s):=by
  show some ((l.zip l).map (fun z=>PyData.tuple [z.1,z.2]),s)=_
  rw[hz]
 have al:=z1T (k:=2) (fr:=[]) (δ:=[.val (.tuple l),.val (.tuple l)]) ei (by rw[List.length_map];omega) hc
 refine z09 (n:=2) (m:=0) (G:=z3G (z00 k)) rfl (zk (δ1:=[.val (.tuple l),.val (.tuple l)]) (s1:=s) (z0i rfl) ?_)
 have:sIf (tOrF (asT (f1 (gInst "list") (fVar 1))) (asT (f1 (gInst "tuple") (fVar 1)))) (sSeq (sIf (asB (f2 gNe (f1 (gInst "list") (fVar 0)) (f1 (gInst "list") (fVar 1)))) (sRet (fC (.bool false))) sNext) (sSeq (sIf (tOrF (asB (f2 gNe (f1 (gInst "tuple") (fVar 0)) (f1 (gInst "tuple") (fVar 1)))) (asB (f2 gNe (f1 gLen (fVar 0)) (f1 gLen (fVar 1))))) (sRet (fC (.bool false))) sNext) (sRet (f1 gAll (asL (fComp 2 [] (iZipF (fVar 0) (fVar 1)) (.tup [0,1]) fTrue (fCall (z00 k) (aCons (fVar 0) (aCons (fVar 1) aNil))))))))) sNext [.val (.tuple l),.val (.tuple l)] s=some (.ret (.bool true),s):=by
  refine z5I (s':=s) rfl (zk (δ1:=[.val (.tuple l),.val (.tuple l)]) (s1:=s) (z0i (z0j (z8 (a:=.bool false) (b:=.bool false) (s1:=s) rfl rfl rfl))) (zk (δ1:=[.val (.tuple l),.val (.tuple l)]) (s1:=s) (z0i (z5t (s1:=s) (z0j (z8 (a:=.bool true) (b:=.bool true) (s1:=s) rfl rfl rfl)) (z0j (z8 (a:=.int (l.length:Int)) (b:=.int (l.length:Int)) (s1:=s) rfl rfl (zbn _))))) (z0X (zB al z8p))))
 exact z3T this
theorem z7l{k:Nat}(l:List Int)(s:Sx)(hb:l.length≤1000):z00 (k + 2) [.tuple (l.map .int),.tuple (l.map .int)] s=some (.bool true,s) :=
 z8D s (fun d hd=>by obtain⟨z,_,rfl⟩:=List.mem_map.mp hd;exact zbm k z s) (by rw[List.length_map];exact hb)
theorem zdx{l:List Int}{K k:Nat}(h:k < K):zc (l.take K) k=zc l k:=by
 unfold zc
 rw[List.getD_eq_getElem?_getD,List.getD_eq_getElem?_getD,List.getElem?_take,if_pos h]
theorem zbK{l:List Int}{K:Nat}:L3.cutD (l.map PyData.int) none (some (K:Int))=(l.take K).map .int:=by
 unfold L3.cutD
 rw[HT.sIx_none,HT.sIx_nat,List.drop_zero,Nat.sub_zero,List.length_map,List.map_take]
 by_cases h:K≤l.length
 ·rw[Nat.min_eq_left h]
 ·rw[Nat.min_eq_right (by omega),List.take_of_length_le (by simp),List.take_of_length_le (by simp;omega)]
theorem zaI{p:Int}{l:List Int}{m n:Nat}(s:Sx)(hl:l.length≤100)(hm:m≤100)(hn:n≤150)(h:l.length < m + n + 1):z0u [.int p,.list (l.map .int),.int (m:Int),.int (n:Int)] s=some (.bool true,s):=by
 have ln:gLen (.list (l.map .int))=some (.int (l.length:Int)):=by rw[z0Y (xs:=l.map .int) rfl,List.length_map]
 have key:zG [.int p,.list (l.map .int),.int (m:Int),.int (n:Int)] s=some s:=by
  show z2f [.val (.list (l.map .int)),.val (.int (m:Int)),.val (.int (n:Int))] s=some s
  unfold z2f rIf2
  have t0:asB (f2 gLt (f1 gLen (fVar 0)) (f2 gAdd (f2 gAdd (fVar 1) (fVar 2)) (fC (.int 1)))) [.val (.list (l.map .int)),.val (.int (m:Int)),.val (.int (n:Int))] s=some (true,s):=z0j (z8 (a:=.int (l.length:Int)) (b:=.int ((m + n + 1:Nat):Int)) (s1:=s) (zB (a:=.list (l.map .int)) rfl ln) (z8 (z8 (a:=.int (m:Int)) (b:=.int (n:Int)) (d:=.int ((m + n:Nat):Int)) (s1:=s) (s2:=s) rfl rfl (by simp[gAdd,gAddI,gI])) rfl (z0h (m + n))) (by
   simp only[gLt,gI,if_true]
   rw[decide_eq_true (by omega)]))
  rw[t0]
  show rFmt [f1 gLen (fVar 0),fVar 1,fVar 2] [.val (.list (l.map .int)),.val (.int (m:Int)),.val (.int (n:Int))] s=some s
  have e1:f1 gLen (fVar 0) [.val (.list (l.map .int)),.val (.int (m:Int)),.val (.int (n:Int))] s=some (.int (l.length:Int),s):=zB (a:=.list (l.map .int)) rfl ln
  have step:∀ {F:FE} {Fs:List FE} {δ:Sl} {i:Int} {r:Option Sx},F δ s=some (.int i,s)→0≤i→i < 200→rFmt Fs δ s=r→rFmt (F::Fs) δ s=r:=fun{F Fs δ i r} h h0 h1 e=>by
   rw[rFmt]
   dsimp only
   rw[h]
   dsimp only
   rw[if_pos ⟨h0,h1⟩];exact e
  exact step e1 (by omega) (by omega) (step (i:=(m:Int)) rfl (by omega) (by omega) (step (i:=(n:Int)) rfl (by omega) (by omega) rfl))
 show(zG [.int p,.list (l.map .int),.int (m:Int),.int (n:Int)] s).map (fun s'=>(PyData.bool true,s'))=_
 rw[key];rfl
theorem zbL{p:Int}{l:List Int}{N:Nat}{s:Sx}{c0 c5 c6 c7 c8:Ce}(hp:Prm p)(rl:Rs p l)(h1:1≤l.length)(h24:l.length≤24)(h:Good (N + 4) s) :
  ∃ d6 d7 d8 s',z6r [c0,.val (.dict []),.val (.int p),.val (.list (l.map .int)),.val (.list (l.map .int)),c5,c6,c7,c8] s=some (.next [c0,.val (.dict []),.val (.int p),.val (.list (l.map .int)),.val (.list (l.map .int)),c5,d6,d7,d8],s')∧Good N s':=by
 have ht:=hp.two
 have ln:gLen (.list (l.map .int))=some (.int (l.length:Int)):=by rw[z0Y (xs:=l.map .int) rfl,List.length_map]
 obtain⟨a,s1,ea,ha,g1⟩:=z0e (n:=N + 3) (m:=l.length) h (by omega) (by omega)
 obtain⟨b,s2,eb,hb,g2⟩:=z0e (n:=N + 2) (m:=l.length - a) g1 (by omega) (by omega)
 obtain⟨w,s3,ew,hw,g3⟩:=z0e (n:=N + 1) (m:=4) g2 (by decide) (by decide)
 obtain⟨m,n,hmn,epick⟩:∃ m n:Nat,m + n + 1≤l.length∧gIx (.list [.tuple [.int (a:Int),.int (b:Int)],.tuple [.int (b:Int),.int (a:Int)],.tuple [.int 0,.int ((l.length - 1:Nat):Int)],.tuple [.int (a:Int),.int ((l.length - 1 - a:Nat):Int)]]) (.int (w:Int))=some (.tuple [.int (m:Int),.int (n:Int)]):=by
  have hw4:w=0∨w=1∨w=2∨w=3:=by omega
  rcases hw4 with rfl | rfl | rfl | rfl
  ·exact⟨a,b,by omega,rfl⟩
  ·exact⟨b,a,by omega,rfl⟩
  ·exact⟨0,l.length - 1,by omega,rfl⟩
  ·exact⟨a,l.length - 1 - a,by omega,rfl⟩
 obtain⟨T,B,e,F,ef⟩:=z7i (m:=m) (n:=n) s3 hp rl (by omega) (by omega) hmn
 have f1':=ef (.list (l.map .int)) l rfl rl hmn (fun _ _=>rfl)
 have lk:(l.take (m + n + 1)).length=m + n + 1:=by rw[List.length_take];omega
 have f2':=ef (.tuple ((l.take (m + n + 1)).map .int)) (l.take (m + n + 1)) rfl (fun x hx=>rl x (List.mem_of_mem_take hx)) (by omega) (fun k hk=>zdx (by omega))
 have q1:=zaG (rd:=.list (l.map .int)) hp s3 rfl F rl (by omega) (by omega) (by omega) hmn
 have q2:=zdw hp s3 F rl (by omega) (by omega) (by omega) hmn
 have lw:=F.low (by omega) (by omega)
 have q3:g__law_same [oneD T B,oneD T B] s3=some (.bool true,s3):=z8D (k:=5) s3 (fun d hd=>by
  simp only[List.mem_cons,List.not_mem_nil,or_false]at hd
  rcases hd with rfl | rfl
  ·exact z7l (k:=3) T s3 (by have:=lw.lT;omega)
  ·exact z7l (k:=3) B s3 (by have:=lw.lB;omega)) (by simp)
 have add3:∀ {δ:Sl} {s:Sx},δ[6]?=some (.val (.int (m:Int)))→δ[7]?=some (.val (.int (n:Int)))→f2 gAdd (f2 gAdd (fVar 6) (fVar 7)) (fC (.int 1)) δ s=some (.int ((m + n + 1:Nat):Int),s):=fun{δ s} x y=>z8 (z8 (z6F x) (z6F y) (show gAdd (.int (m:Int)) (.int (n:Int))=some (.int ((m + n:Nat):Int)) by simp[gAdd,gAddI,gI])) rfl (z0h (m + n))
 have ax:sUnp (.tup [6,7]) (f2 gIx (eLst (aCons (eTup (aCons (fVar 6) (aCons (fVar 7) aNil))) (aCons (eTup (aCons (fVar 7) (aCons (fVar 6) aNil))) (aCons (eTup (aCons (fC (.int 0)) (aCons (f2 gSubI (f1 gLen (fVar 3)) (fC (.int 1))) aNil))) (aCons (eTup (aCons (fVar 6) (aCons (f2 gSubI (f2 gSubI (f1 gLen (fVar 3)) (fC (.int 1))) (fVar 6)) aNil))) aNil))))) (fCall z9 (aCons (fVar 1) (aCons (fC (.int 4)) aNil)))) [c0,.val (.dict []),.val (.int p),.val (.list (l.map .int)),.val (.list (l.map .int)),c5,.val (.int (a:Int)),.val (.int (b:Int)),c8] s2=some (.next [c0,.val (.dict []),.val (.int p),.val (.list (l.map .int)),.val (.list (l.map .int)),c5,.val (.int (m:Int)),.val (.int (n:Int)),c8],s3):=by
  have l1:f2 gSubI (f1 gLen (fVar 3)) (fC (.int 1)) [c0,.val (.dict []),.val (.int p),.val (.list (l.map .int)),.val (.list (l.map .int)),c5,.val (.int (a:Int)),.val (.int (b:Int)),c8] s2=some (.int ((l.length - 1:Nat):Int),s2):=z8 (zB (a:=.list (l.map .int)) rfl ln) rfl (zd5 (by omega))
  have el:eLst (aCons (eTup (aCons (fVar 6) (aCons (fVar 7) aNil))) (aCons (eTup (aCons (fVar 7) (aCons (fVar 6) aNil))) (aCons (eTup (aCons (fC (.int 0)) (aCons (f2 gSubI (f1 gLen (fVar 3)) (fC (.int 1))) aNil))) (aCons (eTup (aCons (fVar 6) (aCons (f2 gSubI (f2 gSubI (f1 gLen (fVar 3)) (fC (.int 1))) (fVar 6)) aNil))) aNil)))) [c0,.val (.dict []),.val (.int p),.val (.list (l.map .int)),.val (.list (l.map .int)),c5,.val (.int (a:Int)),.val (.int (b:Int)),c8] s2=some (.list [.tuple [.int (a:Int),.int (b:Int)],.tuple [.int (b:Int),.int (a:Int)],.tuple [.int 0,.int ((l.length - 1:Nat):Int)],.tuple [.int (a:Int),.int ((l.length - 1 - a:Nat):Int)]],s2) :=
   z1n (z7 (z0q rfl (small2 _ _)) (z7 (z0q rfl (small2 _ _)) (z7 (z0q (z7 (F:=fC (.int 0)) rfl (z7 (FL:=aNil) l1 rfl)) (small2 _ _)) (z7 (FL:=aNil) (z0q (z7 (F:=fVar 6) rfl (z7 (FL:=aNil) (z8 l1 rfl (z3J (by omega))) rfl)) (small2 _ _)) rfl)))) (zJ (by simp))
  unfold sUnp
  rw[z8 el (ze (ds:=[.dict [],.int 4]) rfl ew) epick]
  rfl
 have t1:tOrF (tNotF (asT (fCall zI (aCons (fVar 2) (aCons (fVar 3) (aCons (fVar 6) (aCons (fVar 7) (aCons (fVar 8) aNil)))))))) (tNotF (asT (fCall z0g (aCons (fVar 2) (aCons (fVar 3) (aCons (fVar 6) (aCons (fVar 7) (aCons (fVar 8) aNil)))))))) [c0,.val (.dict []),.val (.int p),.val (.list (l.map .int)),.val (.list (l.map .int)),c5,.val (.int (m:Int)),.val (.int (n:Int)),.val (oneD T B)] s3=some (false,s3):=z5t (z31 (b:=true) (z6s (ze (ds:=[.int p,.list (l.map .int),.int (m:Int),.int (n:Int),oneD T B]) rfl q1))) (z31 (b:=true) (z6s (ze (ds:=[.int p,.list (l.map .int),.int (m:Int),.int (n:Int),oneD T B]) rfl q2)))
 have t2:tOrF (tNotF (asT (fCall g__law_same (aCons (fCall z0o (aCons (fVar 2) (aCons (f1 gTuple (fSl (fVar 3) pNo (pInt (f2 gAdd (f2 gAdd (fVar 6) (fVar 7)) (fC (.int 1)))))) (aCons (fVar 6) (aCons (fVar 7) aNil))))) (aCons (fVar 8) aNil))))) (asB (f2 gNe (fVar 3) (fVar 4))) [c0,.val (.dict []),.val (.int p),.val (.list (l.map .int)),.val (.list (l.map .int)),c5,.val (.int (m:Int)),.val (.int (n:Int)),.val (oneD T B)] s3=some (false,s3):=by
  have sl:f1 gTuple (fSl (fVar 3) pNo (pInt (f2 gAdd (f2 gAdd (fVar 6) (fVar 7)) (fC (.int 1))))) [c0,.val (.dict []),.val (.int p),.val (.list (l.map .int)),.val (.list (l.map .int)),c5,.val (.int (m:Int)),.val (.int (n:Int)),.val (oneD T B)] s3=some (.tuple ((l.take (m + n + 1)).map .int),s3):=zB (a:=.list ((l.take (m + n + 1)).map .int)) (z6D (xs:=l.map .int) rfl rfl (z44 (add3 rfl rfl)) zbK) rfl
  exact z5t (z31 (b:=true) (z6s (ze (ds:=[oneD T B,oneD T B]) (z7 (ze (ds:=[.int p,.tuple ((l.take (m + n + 1)).map .int),.int (m:Int),.int (n:Int)]) (z7 (F:=fVar 2) rfl (z7 sl (z7 (F:=fVar 6) rfl (z7 (F:=fVar 7) (FL:=aNil) rfl rfl)))) f2') (z7 (F:=fVar 8) (FL:=aNil) rfl rfl)) q3))) (z0j (z8 (a:=.list (l.map .int)) (b:=.list (l.map .int)) (s1:=s3) rfl rfl (zbv l)))
 have lm:f2 gSubI (f1 gLen (fVar 3)) (fVar 6) [c0,.val (.dict []),.val (.int p),.val (.list (l.map .int)),.val (.list (l.map .int)),c5,.val (.int (m:Int)),.val (.int (n:Int)),.val (oneD T B)] s3=some (.int ((l.length - m:Nat):Int),s3):=z8 (zB (a:=.list (l.map .int)) rfl ln) rfl (z3J (by omega))
 obtain⟨s4,t3,g4⟩:∃ s4,tAndF (asB (f2 gLt (f2 gSubI (f1 gLen (fVar 3)) (fVar 6)) (fC (.int 22)))) (tNotF (asT (fCall z0u (aCons (fVar 2) (aCons (fVar 3) (aCons (fVar 6) (aCons (f2 gAdd (f2 gSubI (f1 gLen (fVar 3)) (fVar 6)) (fCall z9 (aCons (fVar 1) (aCons (fC (.int 3)) aNil)))) aNil))))))) [c0,.val (.dict []),.val (.int p),.val (.list (l.map .int)),.val (.list (l.map .int)),c5,.val (.int (m:Int)),.val (.int (n:Int)),.val (oneD T B)] s3=some (false,s4)∧Good N s4:=by
  have tt:asB (f2 gLt (f2 gSubI (f1 gLen (fVar 3)) (fVar 6)) (fC (.int 22))) [c0,.val (.dict []),.val (.int p),.val (.list (l.map .int)),.val (.list (l.map .int)),c5,.val (.int (m:Int)),.val (.int (n:Int)),.val (oneD T B)] s3=some (decide (((l.length - m:Nat):Int) < 22),s3):=z0j (z8 lm rfl (by simp only[gLt,gI,if_true]))
  by_cases h22:((l.length - m:Nat):Int) < 22
  ·obtain⟨c,s4,ec,hc,g4⟩:=z0e (n:=N) (m:=3) g3 (by decide) (by decide)
   refine⟨s4,z3H (tt.trans (by rw[decide_eq_true h22])) (z31 (b:=true) (z6s (ze (ds:=[.int p,.list (l.map .int),.int (m:Int),.int ((l.length - m + c:Nat):Int)]) (z7 (F:=fVar 2) rfl (z7 (F:=fVar 3) rfl (z7 (F:=fVar 6) rfl (z7 (FL:=aNil) (z8 lm (ze (ds:=[.dict [],.int 3]) rfl ec) (show gAdd (.int ((l.length - m:Nat):Int)) (.int (c:Int))=some (.int ((l.length - m + c:Nat):Int)) by simp[gAdd,gAddI,gI])) rfl)))) (zaI s4 (by omega) (by omega) (by omega) (by omega))))),g4⟩
  ·exact⟨s3,z6A (tt.trans (by rw[decide_eq_false h22])),g3.mono (by omega)⟩
 refine⟨.val (.int (m:Int)),.val (.int (n:Int)),.val (oneD T B),s4,?_,g4⟩
 unfold z6r
 refine zk (zu (ze (ds:=[.dict [],.int (l.length:Int)]) (z7 (F:=fVar 1) rfl (z7 (FL:=aNil) (zB (a:=.list (l.map .int)) rfl ln) rfl)) ea)) (zk (zu (ze (ds:=[.dict [],.int ((l.length - a:Nat):Int)]) (z7 (F:=fVar 1) rfl (z7 (FL:=aNil) (z8 (zB (a:=.list (l.map .int)) rfl ln) rfl (z3J (by omega))) rfl)) eb)) (zk ax (zk (zu (ze (ds:=[.int p,.list (l.map .int),.int (m:Int),.int (n:Int)]) rfl f1')) (zk (z0i t1) (zk (z0i t2) (zaa t3 rfl))))))
theorem zdy:∀ cells:List Int,0 < cells.length→cells.length≤63→∃ s',zbl zd3 (cells,0)=some (.ret (.bool true),s'):=fun cells h0 h1=>by
 have g0:Good (16 + 100 + 3 + 1) ((cells,0):Sx):=⟨h0,h1,(by show(0:Int)≤0;decide),(by show(0:Int) + ((16 + 100 + 3 + 1:Nat):Int) < 1000000;decide)⟩
 obtain⟨p,s1,e1,hp,g1⟩:=zaw (n:=16 + 100 + 3) g0
 obtain⟨x,s2,e2,hx,g2⟩:=z0e (n:=16 + 100 + 2) (m:=12) g1 (by decide) (by decide)
 obtain⟨y,s3,e3,hy,g3⟩:=z0e (n:=16 + 100 + 1) (m:=12) g2 (by decide) (by decide)
 obtain⟨z,s4,e4,hz,g4⟩:=z0e (n:=16 + 100) (m:=8) g3 (by decide) (by decide)
 obtain⟨many,hm1,hm2,em⟩:∃ many:Nat,1≤many∧many≤24∧gIx (.list [.int ((1 + x:Nat):Int),.int ((13 + y:Nat):Int)]) (.int (if (z:Int)=0 then 1 else 0))=some (.int (many:Int)):=by
  by_cases hz0:(z:Int)=0
  ·rw[if_pos hz0];exact⟨13 + y,by omega,by omega,rfl⟩
  ·rw[if_neg hz0];exact⟨1 + x,by omega,by omega,rfl⟩
 obtain⟨l,s5,e5,rl,ll,g5⟩:=zaH (n:=16) hp hm1 hm2 s4 g4
 obtain⟨δ',s6,e6,x5,x6,x7,x8,hδ,g6⟩:=z6d (T:=.one 5) (G:=z6r) (fun k δ s=>∃ x5 x6 x7 x8,δ=[.non,.val (.dict []),.val (.int p),.val (.list (l.map .int)),.val (.list (l.map .int)),x5,x6,x7,x8]∧Good (4 * k) s) (rng 0 4) [.non,.val (.dict []),.val (.int p),.val (.list (l.map .int)),.val (.list (l.map .int)),.non,.non,.non,.non] s5 ⟨.non,.non,.non,.non,rfl,by rw[z1b];exact g5⟩ (fun k d δ s _ zgs=>by
  obtain⟨x5,x6,x7,x8,hδ,hg⟩:=zgs
  subst hδ
  obtain⟨d6,d7,d8,s',e,g⟩:=zbL (N:=4 * k) (c0:=.non) (c5:=.val d) (c6:=x6) (c7:=x7) (c8:=x8) hp rl (by omega) (by omega) (hg.mono (by omega))
  exact⟨_,_,s',rfl,e,_,_,_,_,rfl,g⟩)
 subst hδ
 refine⟨s6,?_⟩
 have ei:f1 gInt (f2 gEq (fCall z9 (aCons (fVar 1) (aCons (fC (.int 8)) aNil))) (fC (.int 0))) [.non,.val (.dict []),.val (.int p),.non,.non,.non,.non,.non,.non] s3=some (.int (if (z:Int)=0 then 1 else 0),s4):=by
  refine zB (a:=.bool (decide ((z:Int)=0))) (z8 (a:=.int (z:Int)) (b:=.int 0) (ze (ds:=[.dict [],.int 8]) rfl e4) rfl (z1d _ _)) ?_
  by_cases h0:(z:Int)=0
  ·rw[if_pos h0,decide_eq_true h0];rfl
  ·rw[if_neg h0,decide_eq_false h0];rfl
 have em':f2 gIx (eLst (aCons (f2 gAdd (fC (.int 1)) (fCall z9 (aCons (fVar 1) (aCons (fC (.int 12)) aNil)))) (aCons (f2 gAdd (fC (.int 13)) (fCall z9 (aCons (fVar 1) (aCons (fC (.int 12)) aNil)))) aNil))) (f1 gInt (f2 gEq (fCall z9 (aCons (fVar 1) (aCons (fC (.int 8)) aNil))) (fC (.int 0)))) [.non,.val (.dict []),.val (.int p),.non,.non,.non,.non,.non,.non] s1=some (.int (many:Int),s4) :=
  z8 (z1n (z7 (z8 (a:=.int 1) (b:=.int (x:Int)) (s1:=s1) rfl (ze (ds:=[.dict [],.int 12]) rfl e2) (show gAdd (.int 1) (.int (x:Int))=some (.int ((1 + x:Nat):Int)) by simp[gAdd,gAddI,gI])) (z7 (FL:=aNil) (z8 (a:=.int 13) (b:=.int (y:Int)) (s1:=s2) rfl (ze (ds:=[.dict [],.int 12]) rfl e3) (show gAdd (.int 13) (.int (y:Int))=some (.int ((13 + y:Nat):Int)) by simp[gAdd,gAddI,gI])) rfl)) (small2 _ _)) ei em
 unfold zbl
 refine zk (δ1:=[.non,.val (.dict []),.val (.int p),.non,.non,.non,.non,.non,.non]) (s1:=s1) (zu (ze (ds:=[.dict []]) rfl e1)) (zk (δ1:=[.non,.val (.dict []),.val (.int p),.val (.list (l.map .int)),.non,.non,.non,.non,.non]) (s1:=s5) (zu (ze (ds:=[.dict [],.int p,.int (many:Int)]) (z7 (F:=fVar 1) rfl (z7 (F:=fVar 2) rfl (z7 (FL:=aNil) em' rfl))) e5)) (zk (δ1:=[.non,.val (.dict []),.val (.int p),.val (.list (l.map .int)),.val (.list (l.map .int)),.non,.non,.non,.non]) (s1:=s5) rfl (zk (δ1:=[.non,.val (.dict []),.val (.int p),.val (.list (l.map .int)),.val (.list (l.map .int)),x5,x6,x7,x8]) (s1:=s6) ?_ (z0X rfl))))
 ·unfold za8 sFor
  rw[show iRange1 (fC (.int 4)) [.non,.val (.dict []),.val (.int p),.val (.list (l.map .int)),.val (.list (l.map .int)),.non,.non,.non,.non] s5=some (rng 0 4,s5) from z78 (z:=4) rfl (by decide) (by decide)]
  exact e6
theorem zeG{f:Addr}{fd:FuncData}(F:Fun K "law" "law" z7O f fd)(hb:∃ f fd,FnOk P w K mg base CX0 1 f fd ["_law_script"] (spBegin K)∧mg "_law_begin"=some (.ref f)∧PySem.W.keepIn K (.ref f)=true∧Binds K fd ["_law_script"] [])(z1O:Cal P w K mg base "furthest_by" ["p","row","m","n"] 6 z0o)(zp:Cal P w K mg base "_law_take" ["_law_state","_law_many"] 1 z9)(z3L:Cal P w K mg base "_law_same" ["_law_found","_law_due"] 7 g__law_same)(z34:Cal P w K mg base "_law_prime" ["_law_state"] 2 z1w)(z2C:Cal P w K mg base "_law_row_by" ["_law_state","_law_p","_law_many"] 3 z18)(z1I:Cal P w K mg base "_law_too_short" ["_law_p","_law_row","_law_m","_law_n"] 3 z0u)(z0F:Cal P w K mg base "_law_is_furthest_by" ["_law_p","_law_row","_law_m","_law_n","_law_found"] 5 zI)(z1U:Cal P w K mg base "_law_no_other" ["_law_p","_law_row","_law_m","_law_n","_law_found"] 4 z0g)(z4k:mg "int"=none)(zK:mg "len"=none)(z1c:mg "list"=none)(zA:mg "range"=none)(zQ:mg "tuple"=none)
  (run:∀ cells:List Int,0 < cells.length→cells.length≤63→∃ s',zbl zd3 (cells,0)=some (.ret (.bool true),s')):FnOk P w K mg base CX0 8 f fd ["_law_script"] (spLaw K):=by
 obtain⟨fb,fdb,Gb,mb,kb,bb⟩:=hb
 have nd:=sc_law.nd
 refine F.ok sc_law (fun vs H Q E zgt=>by obtain⟨a,ns,e,_⟩:=zgt;subst e;rfl) (fun cdv A outer s H vs Q E hr zgu=>?_)
 obtain⟨a,ns,e,sq,hl,q⟩:=zgu
 subst e
 refine⟨_,z0b (z2P (i:=1) nd rfl (by first | exact Or.inl rfl | exact Or.inr rfl) (z66 Gb (hr.mono (by decide)) rfl mb kb bb .nil pass0 (zy (pv 0) z0r)))
  (DSs.any ((dss_cons (ds_set (i:=2) nd (zw z34 hr (z0 (dv 1) zd)))
   (dss_cons (ds_set (i:=3) nd (zw z2C hr (z0 (dv 1) (z0 (dv 2) (z0 (zV (z1R (z0 (de_op dadd (de_int).w (zw zp hr (z0 (dv 1) (z0 de_int zd))).w) (z0 (de_op dadd (de_int).w (zw zp hr (z0 (dv 1) (z0 de_int zd))).w) zd))).w (z6b zc1 (by first | rfl | decide +kernel) z4k (z2E (deq hr.units) (zw zp hr (z0 (dv 1) (z0 de_int zd))).w (de_int).w (nomark _)).w).w (fun _ _=>rfl)) zd)))))
   (dss_cons (ds_set (i:=4) nd (z6b zcN (by first | rfl | decide +kernel) z1c (dv 3).w))
   (dss_cons (z1W (z0f zA de_int) (zS (i:=5) nd) (dss_cons (ds_set (i:=6) nd (zw zp hr (z0 (dv 1) (z0 (z0O z03 (by first | rfl | decide +kernel) zK (dv 3).w) zd))))
   (dss_cons (ds_set (i:=7) nd (zw zp hr (z0 (dv 1) (z0 (de_op zM (z0O z03 (by first | rfl | decide +kernel) zK (dv 3).w).w (dv 6).w) zd))))
   (dss_cons (z6Y (zV (z1R (z0 (z1p (z0 (dv 6) (z0 (dv 7) zd))) (z0 (z1p (z0 (dv 7) (z0 (dv 6) zd))) (z0 (z1p (z0 de_int (z0 (de_op zM (z0O z03 (by first | rfl | decide +kernel) zK (dv 3).w).w (de_int).w) zd))) (z0 (z1p (z0 (dv 6) (z0 (de_op zM (de_op zM (z0O z03 (by first | rfl | decide +kernel) zK (dv 3).w).w (de_int).w).w (dv 6).w) zd))) zd))))).w (zw zp hr (z0 (dv 1) (z0 de_int zd))).w (fun _ _=>rfl)) (z4p (z0c (i:=6) nd (z0c (i:=7) nd z2S))))
   (dss_cons (ds_set (i:=8) nd (zw z1O hr (z0 (dv 2) (z0 (dv 3) (z0 (dv 6) (z0 (dv 7) zd))))))
   (dss_cons (z1K (z6V (z3S (z1X (zw z0F hr (z0 (dv 2) (z0 (dv 3) (z0 (dv 6) (z0 (dv 7) (z0 (dv 8) zd)))))).w (fun _=>rfl))) (z56 (z3S (z1X (zw z1U hr (z0 (dv 2) (z0 (dv 3) (z0 (dv 6) (z0 (dv 7) (z0 (dv 8) zd)))))).w (fun _=>rfl))))).t (zh (zC z4a)) zW)
   (dss_cons (z1K (z6V (z3S (z1X (zw z3L hr (z0 (zw z1O hr (z0 (dv 2) (z0 (z6b z3e (by first | rfl | decide +kernel) zQ (z1Y (dv 3) z7L (z3U (de_op dadd (de_op dadd (dv 6).w (dv 7).w).w (de_int).w).w)).w) (z0 (dv 6) (z0 (dv 7) zd))))) (z0 (dv 8) zd))).w (fun _=>rfl))) (z56 (zP (dne hr.units) (dv 3).w (dv 4).w (nomark _)))).t (zh (zC z4a)) zW)
   (zh (z1K (z5T (zP dlt (de_op zM (z0O z03 (by first | rfl | decide +kernel) zK (dv 3).w).w (dv 6).w).w (de_int).w (nomark _)) (z4b (z3S (z1X (zw z1I hr (z0 (dv 2) (z0 (dv 3) (z0 (dv 6) (z0 (de_op dadd (de_op zM (z0O z03 (by first | rfl | decide +kernel) zK (dv 3).w).w (dv 6).w).w (zw zp hr (z0 (dv 1) (z0 de_int zd))).w) zd))))).w (fun _=>rfl))))).t (zh (zC z4a)) zW)))))))))
   (zh (zC z4a)))))):DSs _ _ zbl)),?_⟩
 refine⟨_,rfl,a,ns,rfl,sq,hl,fun st c H' same h1 h2=>?_⟩
 obtain⟨s',hrun⟩:=run (beginCells ns) (z72 ns hl).1 (z72 ns hl).2
 refine⟨some (st,c),[],[],zd3,(beginCells ns,0),_,s',Al.repS (.non (.val (.st rfl) (.non (.non (.non (.non (.non (.non (.non .nil))))))))) (fun q hq=>nomatch hq) (fun b o eb _=>same b o eb),(fun a c h=>by cases h;exact⟨h1,h2⟩),hrun,fun v H2 x S r=>by cases r;exact q H2⟩
end
theorem all_mk{l:PySem.W.OpenLaw}{w:World}{K:PySem.W.Frag}{h:Heap}{mg:Str→Option Value}{fa:Addr}(X:K.In h)(G:h.Ns mainGlobals mg)(hfa:mg "law"=some (.ref fa))
  {C0:Addr}
  {E_TooShort:Addr}
  {E_FarError:Addr}
  {E_NoQuotient:Addr}
  {E_Pole:Addr}
  {E_BadRow:Addr}
  (d0:FD K "_wall" za6)
  (d1:FD K "inverse_by" z2T)
  (d2:FD K "trimmed" z5c)
  (d3:FD K "check_places" z1i)
  (d4:FD K "number_at" z3B)
  (d5:FD K "weighed" z5d)
  (d6:FD K "least_pair" z1q)
  (d7:FD K "least_answer" z1j)
  (d8:FD K "leader" z6j)
  (d9:FD K "cleared" z5e)
  (d10:FD K "weights_back" z2c)
  (d11:FD K "settled_by" z1r)
  (d12:FD K "furthest_by" z1L)
  (d13:FD K "_law_begin" z2U)
  (d14:FD K "_law_take" z3C)
  (d15:FD K "_law_same" z3D)
  (d16:FD K "_law_prime" z2V)
  (d17:FD K "_law_inverse" z2d)
  (d18:FD K "_law_cut" z4d)
  (d19:FD K "_law_left_by" z2e)
  (d20:FD K "_law_factor_by" z1z)
  (d21:FD K "_law_series_by" z1A)
  (d22:FD K "_law_poly_by" z0Q)
  (d23:FD K "_law_is_quotient_by" z04)
  (d24:FD K "_law_agreed_by" z0U)
  (d25:FD K "_law_row_by" z11)
  (d26:FD K "_law_too_short" z1B)
  (d27:FD K "_law_is_furthest_by" z0z)
  (d28:FD K "_law_no_other" z0A)
  (d29:FD K "law" z7O)
  (aC0:PySem.W.nsIn K mainGlobals "PrimeField"=some (some (.ref C0))) (cl0:Cls K C0) (mk0:PySem.W.makesIn K C0=true) (kc0:PySem.W.keepIn K (.ref C0)=true)
  (na0_prime:PySem.W.findIn K (.ref C0) "prime"=some none)
  (na0_nought:PySem.W.findIn K (.ref C0) "nought"=some none)
  (na0_unit:PySem.W.findIn K (.ref C0) "unit"=some none)
  (m0___init__:MD K C0 "__init__" "PrimeField.__init__" z05)
  (m0_added:MD K C0 "added" "PrimeField.added" z12)
  (m0_lessened:MD K C0 "lessened" "PrimeField.lessened" z0B)
  (m0_multiplied:MD K C0 "multiplied" "PrimeField.multiplied" z0m)
  (m0_divided:MD K C0 "divided" "PrimeField.divided" z0P)
  (m0_simplest:MD K C0 "simplest" "PrimeField.simplest" z0C)
  (aE_TooShort:PySem.W.nsIn K mainGlobals "TooShort"=some (some (.ref E_TooShort)))
  (aE_FarError:PySem.W.nsIn K mainGlobals "FarError"=some (some (.ref E_FarError)))
  (aE_NoQuotient:PySem.W.nsIn K mainGlobals "NoQuotient"=some (some (.ref E_NoQuotient)))
  (aE_Pole:PySem.W.nsIn K mainGlobals "Pole"=some (some (.ref E_Pole)))
  (aE_BadRow:PySem.W.nsIn K mainGlobals "BadRow"=some (some (.ref E_BadRow)))
  (xE_TooShort:PySem.W.excIn K E_TooShort [.type "ValueError",.type "Exception",.type "BaseException",.type "object"] "ValueError.__new__"=true)
  (x7_TooShort:PySem.W.findIn K (.ref E_TooShort) "__getattribute__"=some (some (.builtin "BaseException.__getattribute__")))
  (x8_TooShort:PySem.W.findIn K (.ref E_TooShort) "__getattr__"=some none)
  (x9_TooShort:PySem.W.mroIn K E_TooShort (.type "BaseException")=some true)
  (x2_TooShort:PySem.W.hasDictIn K E_TooShort=true)
  (x3_TooShort:PySem.W.findIn K (.ref E_TooShort) "__class__"=some (some (.builtin "object.__class__")))
  (x4_TooShort:PySem.W.specialIn K (.builtin "object.__class__") "__get__"=some (some (.builtin "getset_descriptor.__get__")))
  (x5_TooShort:PySem.W.takesIn K (.builtin "object.__class__")=some true)
  (x6_TooShort:PySem.W.mroIn K E_TooShort (.type "object")=some true)
  (xm_TooShort:PySem.W.exmOne K (.ref E_TooShort) (.ref E_FarError)=some true)
  (xk_NoQuotient:PySem.W.kitOne K (.ref E_TooShort) (.ref E_NoQuotient)=some false)
  (xk_Pole:PySem.W.kitOne K (.ref E_TooShort) (.ref E_Pole)=some false)
  (xk_BadRow:PySem.W.kitOne K (.ref E_TooShort) (.ref E_BadRow)=some false)
  (xk_TooShort:PySem.W.kitOne K (.ref E_TooShort) (.ref E_TooShort)=some true)
  (xk_ValueError:PySem.W.kitOne K (.ref E_TooShort) (.type "ValueError")=some true)
  (z_ValueError:PySem.W.nsIn K mainGlobals "ValueError"=some none)
  (z_all:PySem.W.nsIn K mainGlobals "all"=some none)
  (z_any:PySem.W.nsIn K mainGlobals "any"=some none)
  (z_bool:PySem.W.nsIn K mainGlobals "bool"=some none)
  (z_divmod:PySem.W.nsIn K mainGlobals "divmod"=some none)
  (z_enumerate:PySem.W.nsIn K mainGlobals "enumerate"=some none)
  (z_int:PySem.W.nsIn K mainGlobals "int"=some none)
  (z_isinstance:PySem.W.nsIn K mainGlobals "isinstance"=some none)
  (z_len:PySem.W.nsIn K mainGlobals "len"=some none)
  (z_list:PySem.W.nsIn K mainGlobals "list"=some none)
  (z_min:PySem.W.nsIn K mainGlobals "min"=some none)
  (z_range:PySem.W.nsIn K mainGlobals "range"=some none)
  (z_reversed:PySem.W.nsIn K mainGlobals "reversed"=some none)
  (z_str:PySem.W.nsIn K mainGlobals "str"=some none)
  (z_sum:PySem.W.nsIn K mainGlobals "sum"=some none)
  (z_tuple:PySem.W.nsIn K mainGlobals "tuple"=some none)
  (z_zip:PySem.W.nsIn K mainGlobals "zip"=some none) :
  ∃ fd:FuncData,(∀ (s:Shared) (v:Value),BindsTo s fd ⟨[v],[]⟩ [("_law_script",v)])∧∀ base:Heap,K.In base→base.Ns mainGlobals mg→FnOk l.prog w K mg base CX0 8 fa fd ["_law_script"] (spLaw K):=by
 cases d29 with
 | @mk fL od an sl oc kV dc pm cd ct aL lL cL kL =>
 have e:=hfa.symm.trans (PySem.W.mg_of X G aL)
 cases e
 have z3a:=PySem.W.mg_none_of X G z_ValueError
 have z80:=PySem.W.mg_none_of X G z_all
 have zdA:=PySem.W.mg_none_of X G z_any
 have z5E:=PySem.W.mg_none_of X G z_bool
 have z6H:=PySem.W.mg_none_of X G z_divmod
 have z3M:=PySem.W.mg_none_of X G z_enumerate
 have z4k:=PySem.W.mg_none_of X G z_int
 have zn:=PySem.W.mg_none_of X G z_isinstance
 have zK:=PySem.W.mg_none_of X G z_len
 have z1c:=PySem.W.mg_none_of X G z_list
 have z4H:=PySem.W.mg_none_of X G z_min
 have zA:=PySem.W.mg_none_of X G z_range
 have z4l:=PySem.W.mg_none_of X G z_reversed
 have zaM:=PySem.W.mg_none_of X G z_str
 have zdB:=PySem.W.mg_none_of X G z_sum
 have zQ:=PySem.W.mg_none_of X G z_tuple
 have z81:=PySem.W.mg_none_of X G z_zip
 have ii0:IsI K mg "PrimeField" "PrimeField.__init__" z05 ["prime","nought","unit"]:=MD.init X G aC0 cl0 mk0 kc0 (by intro x hx;simp only[List.mem_cons,List.not_mem_nil,or_false]at hx;(rcases hx with rfl | rfl | rfl) <;> first | exact na0_prime | exact na0_nought | exact na0_unit) m0___init__
 have j_PrimeField_added:=MD.is aC0 cl0 m0_added
 have j_PrimeField_lessened:=MD.is aC0 cl0 m0_lessened
 have j_PrimeField_multiplied:=MD.is aC0 cl0 m0_multiplied
 have j_PrimeField_divided:=MD.is aC0 cl0 m0_divided
 have j_PrimeField_simplest:=MD.is aC0 cl0 m0_simplest
 have f_nought:∀ c∈(["PrimeField"]:List Str),FCal K c "nought":=by intro c hc;simp only[List.mem_cons,List.not_mem_nil,or_false]at hc;(rcases hc with rfl) <;> first | exact⟨C0,aC0,cl0,na0_nought⟩
 have f_prime:∀ c∈(["PrimeField"]:List Str),FCal K c "prime":=by intro c hc;simp only[List.mem_cons,List.not_mem_nil,or_false]at hc;(rcases hc with rfl) <;> first | exact⟨C0,aC0,cl0,na0_prime⟩
 have f_unit:∀ c∈(["PrimeField"]:List Str),FCal K c "unit":=by intro c hc;simp only[List.mem_cons,List.not_mem_nil,or_false]at hc;(rcases hc with rfl) <;> first | exact⟨C0,aC0,cl0,na0_unit⟩
 have zdz:=FD.is X G d0
 have z7q:=FD.is X G d1
 have zaK:=FD.is X G d2
 have z3x:=FD.is X G d3
 have z7Z:=FD.is X G d4
 have zaL:=FD.is X G d5
 have z7r:=FD.is X G d6
 have z5M:=FD.is X G d7
 have zbM:=FD.is X G d8
 have zaJ:=FD.is X G d9
 have z5N:=FD.is X G d10
 have z7s:=FD.is X G d11
 have z46:=FD.is X G d12
 have z7o:=FD.is X G d13
 have z7Y:=FD.is X G d14
 have z7X:=FD.is X G d15
 have z7p:=FD.is X G d16
 have z5J:=FD.is X G d17
 have z99:=FD.is X G d18
 have z5K:=FD.is X G d19
 have z4E:=FD.is X G d20
 have z4F:=FD.is X G d21
 have z5L:=FD.is X G d22
 have z39:=FD.is X G d23
 have z4D:=FD.is X G d24
 have z6G:=FD.is X G d25
 have z4G:=FD.is X G d26
 have z38:=FD.is X G d27
 have z5D:=FD.is X G d28
 refine⟨PySem.W.fnOf "law" "law" (defArgs z7O) (defBody z7O) (defScope z7O) .none kV dc pm an cd ct,fun s v=>.of_eq rfl,fun base _ _=>?_⟩
 have k_PrimeField:KCal l.prog w K mg base "PrimeField" 1 ["prime","nought","unit"] z0n:=z2K ii0
 have z45:MCal l.prog w K mg base "PrimeField" "added" 1 zx:=z3E j_PrimeField_added f_prime
 have z33:MCal l.prog w K mg base "PrimeField" "lessened" 1 zt:=z2L j_PrimeField_lessened f_prime
 have z2B:MCal l.prog w K mg base "PrimeField" "multiplied" 1 zg:=z2o j_PrimeField_multiplied f_prime
 have z35:Cal l.prog w K mg base "inverse_by" ["prime","one"] 1 z1s:=z6k z7q
 have z3l:MCal l.prog w K mg base "PrimeField" "divided" 2 zf:=z2W j_PrimeField_divided z35 f_prime
 have z7W:Cal l.prog w K mg base "_wall" ["k"] 1 z6l:=zbi zdz
 have z7m:MCal l.prog w K mg base "PrimeField" "simplest" 2 z1t:=z2M j_PrimeField_simplest z7W
 have z5B:Cal l.prog w K mg base "trimmed" ["nought","row"] 1 z2Y:=z91 zaK zK zQ
 have z2j:Cal l.prog w K mg base "check_places" ["row","m","n"] 1 z0R:=z5g z3x zK
 have z1h:Cal l.prog w K mg base "number_at" ["field","row","place"] 1 z0D:=z76 z7Z zK f_nought
 have m_added:∀ c g,([("PrimeField",zx)]:List (Str × GF)).lookup c=some g→∃ k,k≤1∧MCal l.prog w K mg base c "added" k g:=(z4N ⟨1,(by decide),z45⟩ z6g)
 have m_multiplied:∀ c g,([("PrimeField",zg)]:List (Str × GF)).lookup c=some g→∃ k,k≤1∧MCal l.prog w K mg base c "multiplied" k g:=(z4N ⟨1,(by decide),z2B⟩ z6g)
 have z5C:Cal l.prog w K mg base "weighed" ["field","weights","row","place"] 2 z2p:=z92 zaL z1h z3M f_nought m_added m_multiplied
 have z4U:Cal l.prog w K mg base "leader" ["field","equations","column"] 1 z0I:=za7 zbM zK zA f_nought
 have m_divided:∀ c g,([("PrimeField",zf)]:List (Str × GF)).lookup c=some g→∃ k,k≤2∧MCal l.prog w K mg base c "divided" k g:=(z4N ⟨2,(by decide),z3l⟩ z6g)
 have m_lessened:∀ c g,([("PrimeField",zt)]:List (Str × GF)).lookup c=some g→∃ k,k≤1∧MCal l.prog w K mg base c "lessened" k g:=(z4N ⟨1,(by decide),z33⟩ z6g)
 have z2l:Cal l.prog w K mg base "weights_back" ["field","equations","many","last"] 3 z0S:=z5i z5N zA z4l f_nought m_added m_divided m_lessened m_multiplied
 have z5A:Cal l.prog w K mg base "cleared" ["field","first","other","column","share"] 3 z2q:=z93 zaJ z81 m_divided m_lessened m_multiplied
 have z2k:Cal l.prog w K mg base "least_answer" ["field","equations"] 4 z0v:=z5l z5M z4U z2l z5A f_unit
 have z36:Cal l.prog w K mg base "least_pair" ["field","row","m","n"] 5 z1u:=z6n z7r z5B z1h z5C z2k zA f_nought
 have z37:Cal l.prog w K mg base "settled_by" ["field","top","below"] 3 z1v:=z6o z7s zQ f_nought m_divided
 have z1O:Cal l.prog w K mg base "furthest_by" ["p","row","m","n"] 6 z0o:=z5G z46 z2j z36 z37 k_PrimeField
 have z7n:=z6p (P:=l.prog) (w:=w) (base:=base) z7o z1c
 have zp:Cal l.prog w K mg base "_law_take" ["_law_state","_law_many"] 1 z9:=z77 z7Y zK z6H
 have z3L:Cal l.prog w K mg base "_law_same" ["_law_found","_law_due"] 7 g__law_same:=z3Y z7X z80 z5E z4k zn zK z1c zaM zQ z81 6
 have z34:Cal l.prog w K mg base "_law_prime" ["_law_state"] 2 z1w:=z6q z7p zp
 have z2h:Cal l.prog w K mg base "_law_inverse" ["_law_p","_law_one"] 1 z0a:=z5m z5J
 have z0w:Cal l.prog w K mg base "_law_cut" ["_law_numbers"] 1 z01:=z7P z99 z1c zQ
 have z2i:Cal l.prog w K mg base "_law_left_by" ["_law_p","_law_one","_law_other"] 2 zN:=z5n z5K z2h z0w zK z1c zA zQ
 have z02:Cal l.prog w K mg base "_law_factor_by" ["_law_p","_law_one","_law_other"] 3 zD:=z4f z4E z2i
 have hC__law_series_by:CalC l.prog w K mg base "_law_series_by" ["_law_p","_law_one","_law_many"] 1 zL:=z4g z4F zK z4H zA
 have z1H:Cal l.prog w K mg base "_law_series_by" ["_law_p","_law_one","_law_many"] 1 z1E:=hC__law_series_by.cal
 have z1o:Cal l.prog w K mg base "_law_poly_by" ["_law_state","_law_p","_law_most"] 2 zY:=z5o z5L zp z0w z4k zA
 have z0G:Cal l.prog w K mg base "_law_is_quotient_by" ["_law_p","_law_thing"] 4 zH:=z2N z39 z02 z80 z5E z4k zn zK zQ
 have zU:Cal l.prog w K mg base "_law_agreed_by" ["_law_p","_law_row","_law_one"] 2 zE:=z4h z4D z1H zK z4H zA
 have z2C:Cal l.prog w K mg base "_law_row_by" ["_law_state","_law_p","_law_many"] 3 z18:=z5H z6G zp z1o hC__law_series_by zA
 have z0E:=z4A (P:=l.prog) (w:=w) (base:=base) (C:=E_TooShort) z3x zK xE_TooShort (PySem.W.mg_of X G aE_TooShort)
 have zG:=z5r z46 z0E
 have z1I:Cal l.prog w K mg base "_law_too_short" ["_law_p","_law_row","_law_m","_law_n"] 3 z0u:=z40 z4G zG ⟨x7_TooShort,x8_TooShort,x9_TooShort,x2_TooShort,x3_TooShort,x4_TooShort,x5_TooShort,x6_TooShort⟩ (PySem.W.mg_of X G aE_FarError) (PySem.W.mg_of X G aE_NoQuotient) (PySem.W.mg_of X G aE_Pole) (PySem.W.mg_of X G aE_BadRow) (PySem.W.mg_of X G aE_TooShort) z3a zn zdA xm_TooShort xk_NoQuotient xk_Pole xk_BadRow xk_TooShort xk_ValueError
 have z0F:Cal l.prog w K mg base "_law_is_furthest_by" ["_law_p","_law_row","_law_m","_law_n","_law_found"] 5 zI:=z2O z38 z0G zU zK z4H
 have z1U:Cal l.prog w K mg base "_law_no_other" ["_law_p","_law_row","_law_m","_law_n","_law_found"] 4 z0g:=z4B z5D z0w z02 zU zK z4H zA zdB
 exact zeG (z86 (st:=z7O) lL cL kL) z7n z1O zp z3L z34 z2C z1I z0F z1U z4k zK z1c zA zQ zdy
theorem walk{l:PySem.W.OpenLaw}{q:Program}{loose:List Str}{XP:(Str→Option Value)→Heap→Prop}{YP:World→Heap→Prop}{d:DefRec}{K:Params→PySem.W.Frag}(hn:l.most=some 63)(hdf:d.params.defaults=[])
  (hY:∀ (w:World) (h:Heap),YP w h→(K w.params).In h)
  (F:∀ (w:World) (mg:Str→Option Value) (fa:Addr) (h:Heap),(K w.params).In h→h.Ns mainGlobals mg→mg d.name=some (.ref fa) →
   ∃ fd:FuncData,(∀ (s:Shared) (u:Value),BindsTo s fd ⟨[u],[]⟩ [("_law_script",u)])∧∀ base:Heap,(K w.params).In base→base.Ns mainGlobals mg→FnOk l.prog w (K w.params) mg base CX0 8 fa fd ["_law_script"] (spLaw (K w.params))) :
  PySem.W.WalkO q loose XP YP l.row.toRowW d [] (fun f vs=>PySem.call f vs) :=
 L2.walk_ofK (n:=63) (k:=8) (x:="_law_script") (CX:=CX0) (sp:=spLaw) hn (by decide) hdf ⟨rfl,by decide,by decide⟩ hY F (fun _ H a ns hl _ hS=>⟨a,ns,rfl,hS,hl,fun _=>rfl⟩) fun _ _ _ _ z=>z
end Law
namespace PySem.W.Fast
theorem tw5761162560682662513:True:=⟨⟩
theorem tw11350688260545114928:True:=⟨⟩
theorem tw8414077478735503444:True:=⟨⟩
theorem tw12541450001336307215:True:=⟨⟩
theorem tw14639468257494472589:True:=⟨⟩
theorem tw17680090530815559753:True:=⟨⟩
theorem tw4094093907382881385:True:=⟨⟩
theorem tw3255347876166668865:True:=⟨⟩
theorem tw13755752093359978948:True:=⟨⟩
theorem tw646694513712079887:True:=⟨⟩
theorem tw8381490073247822010:True:=⟨⟩
theorem tw15207761613146465297:True:=⟨⟩
theorem tw6316602743823589713:True:=⟨⟩
theorem tw14911588538756314936:True:=⟨⟩
theorem tw10016638305898650335:True:=⟨⟩
theorem tw4744551966771740089:True:=⟨⟩
theorem tw15154757696621512578:True:=⟨⟩
theorem tw7077615817849196882:True:=⟨⟩
theorem tw14015259522304653910:True:=⟨⟩
theorem tw9287008788515870152:True:=⟨⟩
theorem tw1559513251891109993:True:=⟨⟩
end PySem.W.Fast
open PySem PySem.W PyProof.Rows
set_option maxRecDepth 100000 in
set_option maxHeartbeats 0 in
theorem PySem.Challenge.cw_farquotient_k53_furthest_by_a_prime_holds : PySem.Challenge.rw_farquotient_k53_furthest_by_a_prime.Holds := by
 w_on;o_law;k_head;(case hw=>w_witness2)
 k_fill
 refine Law.walk (l:=PySem.Challenge.rw_farquotient_k53_furthest_by_a_prime) rfl rfl (fun w h Y=>PySem.W.kIn_of Y) ?F
 case F =>
  intro w mg fa h KX G hmg
  refine' Law.all_mk KX G hmg (.mk ?a0 ?l0 ?c0 ?k0) (.mk ?a1 ?l1 ?c1 ?k1) (.mk ?a2 ?l2 ?c2 ?k2) (.mk ?a3 ?l3 ?c3 ?k3) (.mk ?a4 ?l4 ?c4 ?k4) (.mk ?a5 ?l5 ?c5 ?k5) (.mk ?a6 ?l6 ?c6 ?k6) (.mk ?a7 ?l7 ?c7 ?k7) (.mk ?a8 ?l8 ?c8 ?k8) (.mk ?a9 ?l9 ?c9 ?k9) (.mk ?a10 ?l10 ?c10 ?k10) (.mk ?a11 ?l11 ?c11 ?k11) (.mk ?a12 ?l12 ?c12 ?k12) (.mk ?a13 ?l13 ?c13 ?k13) (.mk ?a14 ?l14 ?c14 ?k14) (.mk ?a15 ?l15 ?c15 ?k15) (.mk ?a16 ?l16 ?c16 ?k16) (.mk ?a17 ?l17 ?c17 ?k17) (.mk ?a18 ?l18 ?c18 ?k18) (.mk ?a19 ?l19 ?c19 ?k19) (.mk ?a20 ?l20 ?c20 ?k20) (.mk ?a21 ?l21 ?c21 ?k21) (.mk ?a22 ?l22 ?c22 ?k22) (.mk ?a23 ?l23 ?c23 ?k23) (.mk ?a24 ?l24 ?c24 ?k24) (.mk ?a25 ?l25 ?c25 ?k25) (.mk ?a26 ?l26 ?c26 ?k26) (.mk ?a27 ?l27 ?c27 ?k27) (.mk ?a28 ?l28 ?c28 ?k28) (.mk ?a29 ?l29 ?c29 ?k29) ?aC0 ⟨?pg0,?hd0,?po0,?sa0⟩ ?mk0 ?kc0 ?na0_prime ?na0_nought ?na0_unit (.mk ?am0___init__ ?im0___init__ ?lm0___init__ ?cm0___init__ ?km0___init__) (.mk ?am0_added ?im0_added ?lm0_added ?cm0_added ?km0_added) (.mk ?am0_lessened ?im0_lessened ?lm0_lessened ?cm0_lessened ?km0_lessened) (.mk ?am0_multiplied ?im0_multiplied ?lm0_multiplied ?cm0_multiplied ?km0_multiplied) (.mk ?am0_divided ?im0_divided ?lm0_divided ?cm0_divided ?km0_divided) (.mk ?am0_simplest ?im0_simplest ?lm0_simplest ?cm0_simplest ?km0_simplest) ?aE_TooShort ?aE_FarError ?aE_NoQuotient ?aE_Pole ?aE_BadRow ?xE_TooShort ?x7_TooShort ?x8_TooShort ?x9_TooShort ?x2_TooShort ?x3_TooShort ?x4_TooShort ?x5_TooShort ?x6_TooShort ?xm_TooShort ?xk_NoQuotient ?xk_Pole ?xk_BadRow ?xk_TooShort ?xk_ValueError ?z_ValueError ?z_all ?z_any ?z_bool ?z_divmod ?z_enumerate ?z_int ?z_isinstance ?z_len ?z_list ?z_min ?z_range ?z_reversed ?z_str ?z_sum ?z_tuple ?z_zip
  (case a0=>k_is)
  (case l0=>k_is)
  (case c0=>k_is)
  (case k0=>k_is)
  (case a1=>k_is)
  (case l1=>k_is)
  (case c1=>k_is)
  (case k1=>k_is)
  (case a2=>k_is)
  (case l2=>k_is)
  (case c2=>k_is)
  (case k2=>k_is)
  (case a3=>k_is)
  (case l3=>k_is)
  (case c3=>k_is)
  (case k3=>k_is)
  (case a4=>k_is)
  (case l4=>k_is)
  (case c4=>k_is)
  (case k4=>k_is)
  (case a5=>k_is)
  (case l5=>k_is)
  (case c5=>k_is)
  (case k5=>k_is)
  (case a6=>k_is)
  (case l6=>k_is)
  (case c6=>k_is)
  (case k6=>k_is)
  (case a7=>k_is)
  (case l7=>k_is)
  (case c7=>k_is)
  (case k7=>k_is)
  (case a8=>k_is)
  (case l8=>k_is)
  (case c8=>k_is)
  (case k8=>k_is)
  (case a9=>k_is)
  (case l9=>k_is)
  (case c9=>k_is)
  (case k9=>k_is)
  (case a10=>k_is)
  (case l10=>k_is)
  (case c10=>k_is)
  (case k10=>k_is)
  (case a11=>k_is)
  (case l11=>k_is)
  (case c11=>k_is)
  (case k11=>k_is)
  (case a12=>k_is)
  (case l12=>k_is)
  (case c12=>k_is)
  (case k12=>k_is)
  (case a13=>k_is)
  (case l13=>k_is)
  (case c13=>k_is)
  (case k13=>k_is)
  (case a14=>k_is)
  (case l14=>k_is)
  (case c14=>k_is)
  (case k14=>k_is)
  (case a15=>k_is)
  (case l15=>k_is)
  (case c15=>k_is)
  (case k15=>k_is)
  (case a16=>k_is)
  (case l16=>k_is)
  (case c16=>k_is)
  (case k16=>k_is)
  (case a17=>k_is)
  (case l17=>k_is)
  (case c17=>k_is)
  (case k17=>k_is)
  (case a18=>k_is)
  (case l18=>k_is)
  (case c18=>k_is)
  (case k18=>k_is)
  (case a19=>k_is)
  (case l19=>k_is)
  (case c19=>k_is)
  (case k19=>k_is)
  (case a20=>k_is)
  (case l20=>k_is)
  (case c20=>k_is)
  (case k20=>k_is)
  (case a21=>k_is)
  (case l21=>k_is)
  (case c21=>k_is)
  (case k21=>k_is)
  (case a22=>k_is)
  (case l22=>k_is)
  (case c22=>k_is)
  (case k22=>k_is)
  (case a23=>k_is)
  (case l23=>k_is)
  (case c23=>k_is)
  (case k23=>k_is)
  (case a24=>k_is)
  (case l24=>k_is)
  (case c24=>k_is)
  (case k24=>k_is)
  (case a25=>k_is)
  (case l25=>k_is)
  (case c25=>k_is)
  (case k25=>k_is)
  (case a26=>k_is)
  (case l26=>k_is)
  (case c26=>k_is)
  (case k26=>k_is)
  (case a27=>k_is)
  (case l27=>k_is)
  (case c27=>k_is)
  (case k27=>k_is)
  (case a28=>k_is)
  (case l28=>k_is)
  (case c28=>k_is)
  (case k28=>k_is)
  (case a29=>k_is)
  (case l29=>k_is)
  (case c29=>k_is)
  (case k29=>k_is)
  (case aC0=>k_is)
  (case pg0=>k_is)
  (case hd0=>k_is)
  (case po0=>k_is)
  (case sa0=>k_is)
  (case mk0=>k_is)
  (case kc0=>k_is)
  (case na0_prime=>k_is)
  (case na0_nought=>k_is)
  (case na0_unit=>k_is)
  (case am0___init__=>k_is)
  (case im0___init__=>k_is)
  (case lm0___init__=>k_is)
  (case cm0___init__=>k_is)
  (case km0___init__=>k_is)
  (case am0_added=>k_is)
  (case im0_added=>k_is)
  (case lm0_added=>k_is)
  (case cm0_added=>k_is)
  (case km0_added=>k_is)
  (case am0_lessened=>k_is)
  (case im0_lessened=>k_is)
  (case lm0_lessened=>k_is)
  (case cm0_lessened=>k_is)
  (case km0_lessened=>k_is)
  (case am0_multiplied=>k_is)
  (case im0_multiplied=>k_is)
  (case lm0_multiplied=>k_is)
  (case cm0_multiplied=>k_is)
  (case km0_multiplied=>k_is)
  (case am0_divided=>k_is)
  (case im0_divided=>k_is)
  (case lm0_divided=>k_is)
  (case cm0_divided=>k_is)
  (case km0_divided=>k_is)
  (case am0_simplest=>k_is)
  (case im0_simplest=>k_is)
  (case lm0_simplest=>k_is)
  (case cm0_simplest=>k_is)
  (case km0_simplest=>k_is)
  (case aE_TooShort=>k_is)
  (case aE_FarError=>k_is)
  (case aE_NoQuotient=>k_is)
  (case aE_Pole=>k_is)
  (case aE_BadRow=>k_is)
  (case xE_TooShort=>k_exc)
  (case x7_TooShort=>k_is)
  (case x8_TooShort=>k_is)
  (case x9_TooShort=>k_is)
  (case x2_TooShort=>k_is)
  (case x3_TooShort=>k_is)
  (case x4_TooShort=>k_is)
  (case x5_TooShort=>k_is)
  (case x6_TooShort=>k_is)
  (case xm_TooShort=>kts_exm)
  (case xk_NoQuotient=>kit_is)
  (case xk_Pole=>kit_is)
  (case xk_BadRow=>kit_is)
  (case xk_TooShort=>kit_is)
  (case xk_ValueError=>kit_is)
  (case z_ValueError=>k_is)
  (case z_all=>k_is)
  (case z_any=>k_is)
  (case z_bool=>k_is)
  (case z_divmod=>k_is)
  (case z_enumerate=>k_is)
  (case z_int=>k_is)
  (case z_isinstance=>k_is)
  (case z_len=>k_is)
  (case z_list=>k_is)
  (case z_min=>k_is)
  (case z_range=>k_is)
  (case z_reversed=>k_is)
  (case z_str=>k_is)
  (case z_sum=>k_is)
  (case z_tuple=>k_is)
  (case z_zip=>k_is)
