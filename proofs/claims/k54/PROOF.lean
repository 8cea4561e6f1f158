import PyProof.Rows.All
import Wide.All
import OpenK.AllK
import Wide.FinOn
import Lean
import PyProof.EqAt
import PyProof.EqKinds
import PyProof.TupleCall
import PySem.Challenge.RW_farquotient_k54_shortest_by_a_prime
set_option Elab.async false
set_option linter.all false
set_option maxRecDepth 100000
namespace L2
open PySem PySem.Spec PyProof.Rows
abbrev Key:=Sum Int Str
def keyIs:Key->Value->Bool
 | .inl k,v=>Value.isInt k v
 | .inr x,v=>Value.isStrOf x v
def keyH(w:World):Key->Int
 | .inl k=>hashInt k
 | .inr x=>hashStr w x
theorem z0w:∀ {k:Key} {v:Value},keyIs k v=true->(∃ i t,k=Sum.inl i/\v=Value.int i t)\/(∃ x t,k=Sum.inr x/\v=Value.str x t)
 | .inl i,v,h=>by
  obtain⟨t,e⟩:=Value.isInt_shape (k:=i) (v:=v) h
  exact .inl ⟨i,t,rfl,e⟩
 | .inr x,v,h=>by
  obtain⟨t,e⟩:=Value.isStrOf_shape (x:=x) (v:=v) h
  exact .inr ⟨x,t,rfl,e⟩
theorem z9L(i:Int)(t:Tok):keyIs (.inl i) (.int i t)=true:=by simp[keyIs,Value.isInt]
theorem z9M(x:Str)(t:Tok):keyIs (.inr x) (.str x t)=true:=by simp[keyIs,Value.isStrOf]
theorem ze0(a b:Int):decide ((Sum.inl a:Key)=Sum.inl b)=(a == b):=by
 by_cases e:a=b
 ·subst e;simp
 ·have h:¬ (Sum.inl a:Key)=Sum.inl b:=fun q=>e (Sum.inl.inj q)
  rw[decide_eq_false h]
  exact(beq_eq_false_iff_ne.mpr e).symm
theorem ze1(a b:Str):decide ((Sum.inr a:Key)=Sum.inr b)=decide (a=b):=by
 by_cases e:a=b
 ·subst e;simp
 ·have h:¬ (Sum.inr a:Key)=Sum.inr b:=fun q=>e (Sum.inr.inj q)
  rw[decide_eq_false h,decide_eq_false e]
theorem ze2(a:Int)(b:Str):decide ((Sum.inl a:Key)=Sum.inr b)=false:=decide_eq_false (fun q=>nomatch q)
theorem ze3(a:Str)(b:Int):decide ((Sum.inr a:Key)=Sum.inl b)=false:=decide_eq_false (fun q=>nomatch q)
def mixKind(prog:Program)(w:World):PySem.KeyKind prog w Key where
 is:=keyIs
 hash:=keyH w
 inj:=fun v a b ha hb=>by
  rcases z0w ha with ⟨i,t,rfl,rfl⟩ | ⟨x,t,rfl,rfl⟩
  ·rcases z0w hb with ⟨j,u,rfl,e⟩ | ⟨y,u,rfl,e⟩
   ·injection e with e1 _;rw[e1]
   ·exact nomatch e
  ·rcases z0w hb with ⟨j,u,rfl,e⟩ | ⟨y,u,rfl,e⟩
   ·exact nomatch e
   ·injection e with e1 _;rw[e1]
 byValue:=fun k v h=>by
  rcases z0w h with ⟨i,t,rfl,rfl⟩ | ⟨x,t,rfl,rfl⟩ <;> rfl
 pyHash:=fun hv h=>by
  rcases z0w hv with ⟨i,t,rfl,rfl⟩ | ⟨x,t,rfl,rfl⟩
  ·exact wpAny_pyHash_int h
  ·exact wpAny_pyHash_str h
 eqBool:=fun hu hv h=>by
  rcases z0w hu with ⟨i,t,rfl,rfl⟩ | ⟨x,t,rfl,rfl⟩
  ·rcases z0w hv with ⟨j,u,rfl,rfl⟩ | ⟨y,u,rfl,rfl⟩
   ·rw[ze0]at h;exact wpAny_eqBool_int h
   ·rw[ze2]at h;exact SeqAt.EqAt.int_str i t y u _ _ _ _ h
  ·rcases z0w hv with ⟨j,u,rfl,rfl⟩ | ⟨y,u,rfl,rfl⟩
   ·rw[ze3]at h;exact SeqAt.EqAt.str_int x t j u _ _ _ _ h
   ·rw[ze1]at h;exact wpAny_eqBool_str h
 «strs»:=fun k x t v h=>by
  rcases z0w h with ⟨i,u,rfl,e⟩ | ⟨y,u,rfl,e⟩
  ·exact nomatch e
  ·injection e with e1 _
   subst e1
   cases v <;> rfl
theorem z7G(prog:Program)(w:World)(i:Int)(t:Tok):(mixKind prog w).is (.inl i) (.int i t)=true:=z9L i t
theorem z7H(prog:Program)(w:World)(x:Str)(t:Tok):(mixKind prog w).is (.inr x) (.str x t)=true:=z9M x t
end L2
namespace L2
open PySem PySem.Spec PyProof.Rows
inductive V where
 | non | bl (b:Bool) | int (i:Int) | str (x:Str) | byt (b:Array UInt8) | flt (b:UInt64) | ref (a:Addr) | ty (n:String)
 deriving DecidableEq
def RelV:V->Value->Prop
 | .non,u=>u=Value.none
 | .bl b,u=>u=Value.bool b
 | .int i,u=>∃ t,u=Value.int i t
 | .str x,u=>∃ t,u=Value.str x t
 | .byt b,u=>∃ t,u=Value.bytes b t
 | .flt b,u=>∃ t,u=Value.float b t
 | .ref a,u=>u=Value.ref a
 | .ty n,u=>u=Value.type n
abbrev Vals:List V->List Value->Prop:=Paired RelV
theorem Vals.length{xs:List V}{us:List Value}(r:Vals xs us):xs.length=us.length:=Paired.length r
theorem Vals.get:∀ {xs:List V} {us:List Value} {i:Nat} {x:V},Vals xs us->xs[i]?=some x->∃ u,us[i]?=some u/\RelV x u
 | _,_,_,_,.nil,e=>by simp at e
 | _,_,0,_,.cons r _,e=>by simp at e;subst e;exact⟨_,rfl,r⟩
 | _,_,i + 1,x,.cons _ t,e=>by
  obtain⟨u,h1,h2⟩:=Vals.get (i:=i) (x:=x) t (by simpa using e)
  exact⟨u,by simpa using h1,h2⟩
theorem Vals.set{x:V}{u:Value}(r:RelV x u):∀ {xs:List V} {us:List Value} (i:Nat),Vals xs us->Vals (xs.set i x) (us.set i u)
 | _,_,_,.nil=>.nil
 | _,_,0,.cons _ t=>.cons r t
 | _,_,i + 1,.cons q t=>.cons q (Vals.set r i t)
theorem Vals.append{xs ys:List V}{us ws:List Value}(h:Vals xs us)(s:Vals ys ws):Vals (xs++ys) (us++ws):=by
 induction h with
 | nil=>exact s
 | cons r t ih=>exact .cons r ih
theorem Vals.take:∀ {xs:List V} {us:List Value} (n:Nat),Vals xs us->Vals (xs.take n) (us.take n)
 | _,_,0,_=>.nil
 | _,_,_ + 1,.nil=>.nil
 | _,_,n + 1,.cons r t=>.cons r (Vals.take n t)
theorem Vals.drop:∀ {xs:List V} {us:List Value} (n:Nat),Vals xs us->Vals (xs.drop n) (us.drop n)
 | _,_,0,r=>r
 | _,_,_ + 1,.nil=>.nil
 | _,_,n + 1,.cons _ t=>Vals.drop n t
theorem Vals.none_of:∀ {xs:List V} {us:List Value} {i:Nat},Vals xs us->xs[i]?=none->us[i]?=none:=fun{xs us i} r e=>by
 have h1:=r.length
 have h2:xs.length<=i:=List.getElem?_eq_none_iff.mp e
 exact List.getElem?_eq_none_iff.mpr (by omega)
def RelO:Option V->Option Value->Prop
 | some v,some u=>RelV v u
 | none,none=>True
 | _,_=>False
def KV{κ:Type}:List (κ × V)->List (κ × Value)->Prop:=Paired fun(p:κ × V) (q:κ × Value)=>p.1=q.1/\RelV p.2 q.2
def kV:Key->V
 | .inl i=>.int i
 | .inr x=>.str x
inductive HO where
 | lst (xs:List V)
 | tup (xs:List V)
 | dK (kvs:List (Key × V)) | dT (kvs:List (List Key × V))
 | set (S:Int->Bool) (n:Nat)
 | ins (C dx:Addr) (fs:List (Str × V))
 | own (x:Addr)
 | xd (fs:List (Str × V))
 | met (f x:Addr)
 | rng (lo hi:Int)
 | frz (o:Obj) (u:HO)
 | tbl (ps:Array Value)
 | ext (φ:Heap->Prop)
abbrev Hp:=Addr->Option HO
def upd(H:Hp)(a:Addr)(o:HO):Hp:=fun b=>if b=a then some o else H b
theorem ze{H:Hp}{a:Addr}{o:HO}:upd H a o a=some o:=by unfold upd;rw[if_pos rfl]
theorem zd{H:Hp}{a b:Addr}{o:HO}(h:b≠a):upd H a o b=H b:=by unfold upd;rw[if_neg h]
theorem ze4{H:Hp}{a b:Addr}{o u:HO}(h:H a=some o)(h':H b=some u)(d:o≠u):a≠b:=by
 intro e;subst e;rw[h]at h';exact d (Option.some.inj h')
theorem zf{H:Hp}{a b:Addr}{o:HO}(h:H a=some o)(h':H b=none):a≠b:=by
 intro e;subst e;rw[h]at h';cases h'
section
variable (P:Program) (w:World)
def ObjOk(H:Hp)(h:Heap)(a:Addr):HO->Prop
 | .lst xs=>xs.length<=sizeLine/\∃ (its:List Value) (n:Nat),Vals xs its/\h.get? a=some {cls:=.type "list",data:=.seq its.toArray n}
 | .tup xs=>xs.length<=sizeLine/\∃ its:List Value,Vals xs its/\IsTup h a its.toArray
 | .dK kvs=>kvs.length<=sizeLine/\(a == sysModules)=false/\∃ vs,KV kvs vs/\h.DictOf (mixKind P w) a vs
 | .dT kvs=>kvs.length<=sizeLine/\(a == sysModules)=false/\∃ xs:List (List Key × Addr × Value),
   Paired (fun(p:List Key × V) (q:List Key × Addr × Value)=>p.1=q.1/\H q.2.1=some (.tup (p.1.map kV))/\RelV p.2 q.2.2) kvs xs /\
   ∃ o es ep,h.get? a=some o/\o.ExactDict/\o.data=.dict es ep/\es.toList=xs.map (entryOfKey (tupleKind (mixKind P w)))/\(xs.map (·.1)).Nodup
 | .set S n=>h.SetOf (intKind P w) a S n
 | .ins C dx fs=>H dx=some (.own a)/\fs.length<=1000/\dx≠a/\h.get? a=some (PySem.W.instObj C dx) /\
   ∃ mA,h.Ns1 dx mA/\(∀ f,RelO (fs.lookup f) (mA f))/\PySem.Within mA (fs.map (·.1))
 | .own _=>∃ o,h.get? a=some o
 | .xd fs=>∃ mA,h.Ns1 a mA/\∀ f,RelO (fs.lookup f) (mA f)
 | .rng lo hi=>∃ t u v,h.get? a=some {cls:=.type "range",data:=.fields #[.int lo t,.int hi u,.int 1 v]}
 | .frz o u=>h.get? a=some o/\ObjOk H h a u
 | .tbl ps=>h.get? a=some {cls:=.none,data:=.fields ps}
 | .met f x=>h.get? a=some (PySem.W.methodObj (.ref f) (.ref x))
 | .ext φ=>φ h/\(∃ o,h.get? a=some o)/\∀ h1 h2:Heap,φ h1->(∀ o,h1.get? a=some o->h2.get? a=some o)->φ h2
def HOk(H:Hp)(h:Heap):Prop:=∀ a o,H a=some o->ObjOk P w H h a o
end
section
variable {P:Program} {w:World} {H H':Hp} {h h':Heap} {a:Addr} {o:HO}
theorem ObjOk.lt(x:ObjOk P w H h a o):a < h.objs.size:=by
 cases o with
 | lst xs=>obtain⟨_,_,_,_,e⟩:=x;exact Heap.lt_size e
 | tup xs=>obtain⟨_,_,_,p⟩:=x;exact p.lt
 | dK kvs=>obtain⟨_,_,_,_,o,_,_,e,_⟩:=x;exact Heap.lt_size e
 | dT kvs=>obtain⟨_,_,_,_,o,_,_,e,_⟩:=x;exact Heap.lt_size e
 | set S n=>obtain⟨o,_,_,_,e,_⟩:=x;exact Heap.lt_size e
 | ins C dx fs=>obtain⟨_,_,_,e,_⟩:=x;exact Heap.lt_size e
 | own y=>obtain⟨_,e⟩:=x;exact Heap.lt_size e
 | xd fs=>obtain⟨_,⟨_,_,_,e,_⟩,_⟩:=x;exact Heap.lt_size e
 | rng lo hi=>obtain⟨_,_,_,e⟩:=x;exact Heap.lt_size e
 | frz ob u=>obtain⟨e,_⟩:=x;exact Heap.lt_size e
 | tbl ps=>exact Heap.lt_size (show h.get? a=some _ from x)
 | met f y=>exact Heap.lt_size (show h.get? a=some _ from x)
 | ext φ=>obtain⟨_,⟨_,e⟩,_⟩:=x;exact Heap.lt_size e
theorem Paired.mapP{α β:Type}{F G:α->β->Prop}{l₁:List α}{l₂:List β}(h:Paired F l₁ l₂)(f:∀ a b,F a b->G a b):Paired G l₁ l₂:=by
 induction h with
 | nil=>exact .nil
 | cons r t ih=>exact .cons (f _ _ r) ih
theorem ObjOk.stay(x:ObjOk P w H h a o)(k:∀ b u,(b=a\/H b=some (.own a))->h.get? b=some u->h'.get? b=some u)
  (ho:∀ b,H b=some (.own a)->H' b=some (.own a)) (ht:∀ b xs,H b=some (.tup xs)->H' b=some (.tup xs)):ObjOk P w H' h' a o:=by
 induction o with
 | lst xs=>obtain⟨z,its,n,r,e⟩:=x;exact⟨z,its,n,r,k _ _ (.inl rfl) e⟩
 | tup xs=>obtain⟨z,its,r,ob,e,c⟩:=x;exact⟨z,its,r,ob,k _ _ (.inl rfl) e,c⟩
 | dK kvs=>obtain⟨z,y,vs,r,ob,es,ep,e,c⟩:=x;exact⟨z,y,vs,r,ob,es,ep,k _ _ (.inl rfl) e,c⟩
 | dT kvs =>
  obtain⟨z,y,xs,r,ob,es,ep,e,c⟩:=x
  exact⟨z,y,xs,Paired.mapP r fun p q z=>⟨z.1,ht _ _ z.2.1,z.2.2⟩,ob,es,ep,k _ _ (.inl rfl) e,c⟩
 | set S n=>obtain⟨ob,es,ep,t,e,c⟩:=x;exact⟨ob,es,ep,t,k _ _ (.inl rfl) e,c⟩
 | ins C dx fs =>
  obtain⟨d,z,ne,e,mA,⟨od,es,ep,e2,c⟩,r⟩:=x
  exact⟨ho _ d,z,ne,k _ _ (.inl rfl) e,mA,⟨od,es,ep,k _ _ (.inr d) e2,c⟩,r⟩
 | own y=>obtain⟨ob,e⟩:=x;exact⟨ob,k _ _ (.inl rfl) e⟩
 | xd fs=>obtain⟨mA,⟨od,es,ep,e,c⟩,r⟩:=x;exact⟨mA,⟨od,es,ep,k _ _ (.inl rfl) e,c⟩,r⟩
 | rng lo hi=>obtain⟨t,u,v,e⟩:=x;exact⟨t,u,v,k _ _ (.inl rfl) e⟩
 | frz ob u ih=>obtain⟨e,q⟩:=x;exact⟨k _ _ (.inl rfl) e,ih q⟩
 | tbl ps =>
  have e:h.get? a=some {cls:=.none,data:=.fields ps}:=x
  show h'.get? a=some {cls:=.none,data:=.fields ps}
  exact k a _ (.inl rfl) e
 | met f y =>
  have e:h.get? a=some (PySem.W.methodObj (.ref f) (.ref y)):=x
  show h'.get? a=some (PySem.W.methodObj (.ref f) (.ref y))
  exact k a _ (.inl rfl) e
 | ext φ=>obtain⟨p,⟨o,e⟩,st⟩:=x;exact⟨st _ _ p fun o q=>k _ _ (.inl rfl) q,⟨o,k _ _ (.inl rfl) e⟩,st⟩
theorem HOk.lt(x:HOk P w H h)(e:H a=some o):a < h.objs.size:=(x a o e).lt
theorem HOk.fresh(x:HOk P w H h)(e:h.objs.size<=a):H a=none:=by
 cases q:H a with
 | none=>rfl
 | some u=>exact absurd (Nat.lt_of_lt_of_le (x.lt q) e) (Nat.lt_irrefl _)
theorem HOk.kept(x:HOk P w H h)(k:∀ b u,h.get? b=some u->h'.get? b=some u):HOk P w H h':=fun a o e =>
 (x a o e).stay (fun b u _ q=>k b u q) (fun _ q=>q) fun _ _ q=>q
theorem HOk.laid(x:HOk P w H h)(k:∀ b u,h.get? b=some u->h'.get? b=some u)(hp:h.objs.size<=a)(new:ObjOk P w (upd H a o) h' a o):HOk P w (upd H a o) h':=fun b u e=>by
 have hn:=x.fresh hp
 by_cases hb:b=a
 ·subst hb;rw[ze]at e;cases e;exact new
 ·rw[zd hb]at e
  exact(x b u e).stay (fun c v _ q=>k c v q) (fun c q=>by rw[zd (zf q hn)];exact q) fun c xs q=>by rw[zd (zf q hn)];exact q
end
def Rd(H:Hp)(a:Addr)(u:HO):Prop:=H a=some u\/∃ o,H a=some (.frz o u)
theorem Rd.ok{P:Program}{w:World}{H:Hp}{h:Heap}{a:Addr}{u:HO}(r:Rd H a u)(x:HOk P w H h):ObjOk P w H h a u:=by
 rcases r with r | ⟨o,r⟩
 ·exact x a u r
 ·obtain⟨_,q⟩:=x a _ r
  exact q
def Mut:Option HO->Prop
 | some (.lst _)=>True
 | some (.dK _)=>True
 | some (.dT _)=>True
 | some (.set _ _)=>True
 | some (.ins _ _ _)=>True
 | some (.ext _)=>True
 | _=>False
section
variable {P:Program} {w:World} {H:Hp} {h h':Heap} {x e:Addr} {o':HO}
theorem HOk.write(ok:HOk P w H h)(mu:Mut (H x))(he:e=x\/H e=some (.own x))(k:∀ b u,b≠e->h.get? b=some u->h'.get? b=some u)(heo:∃ u,h'.get? e=some u)
  (new:ObjOk P w (upd H x o') h' x o'):HOk P w (upd H x o') h':=fun b u q=>by
 have nown:∀ c y,H c=some (.own y)->c≠x:=fun c y r z=>by subst z;rw[r]at mu;exact mu
 have ntup:∀ c xs,H c=some (.tup xs)->c≠x:=fun c xs r z=>by subst z;rw[r]at mu;exact mu
 by_cases hb:b=x
 ·subst hb;rw[ze]at q;cases q;exact new
 ·rw[zd hb]at q
  by_cases hbe:b=e
  ·have q':H b=some (.own x):=by
    rcases he with z | z
    ·exact absurd (hbe.trans z) hb
    ·rw[hbe];exact z
   rw[q]at q';cases q'
   obtain⟨v,hv⟩:=heo
   exact⟨v,by rw[hbe];exact hv⟩
  ·refine(ok b u q).stay (fun c v hc r=>k c v ?_ r) (fun c r=>by rw[zd (nown c b r)];exact r) fun c xs r=>by rw[zd (ntup c xs r)];exact r
   rcases hc with rfl | hc
   ·exact hbe
   ·rintro rfl
    rcases he with z | z
    ·exact nown c b hc z
    ·rw[hc]at z;cases z;exact hb rfl
end
structure Un(fs ex:List Addr)(H H':Hp)(h h':Heap):Prop where
 keep:∀ b o,h.get? b=some o->H b=none->b ∉ fs->b ∉ ex->h'.get? b=some o
 slot:∀ b o,h.get? b=some o->H b=none->b∈fs->b ∉ ex->∃ sl,h'.get? b=some {o with slots:=sl}
 free:∀ b o,h.get? b=some o->H b=none->b ∉ ex->H' b=none
 there:∀ b o,h.get? b=some o->b ∉ ex->∃ o',h'.get? b=some o'
 tups:∀ b xs,H b=some (.tup xs)->H' b=some (.tup xs)
 frzs:∀ b o u,H b=some (.frz o u)->H' b=some (.frz o u)
 tbls:∀ b ps,H b=some (.tbl ps)->∃ more,H' b=some (.tbl (ps++more))
section
variable {fs fs' ex ex':List Addr} {H H1 H2:Hp} {h h1 h2 h':Heap} {a x e:Addr} {o:HO}
theorem Un.any(u:Un fs ex H H1 h h1){b:Addr}{ob:Obj}(q:h.get? b=some ob)(n:H b=none)(hx:b ∉ ex):∃ sl,h1.get? b=some {ob with slots:=sl}:=by
 by_cases hb:b∈fs
 ·exact u.slot b ob q n hb hx
 ·exact⟨ob.slots,u.keep b ob q n hb hx⟩
theorem Un.kept(k:∀ b u,h.get? b=some u->h'.get? b=some u):Un fs ex H H h h' :=
 ⟨fun b ob q _ _ _=>k b ob q,fun b ob q _ _ _=>⟨ob.slots,k b ob q⟩,fun _ _ _ n _=>n,fun b ob q _=>⟨ob,k b ob q⟩,fun _ _ q=>q,fun _ _ _ q=>q,fun _ ps q=>⟨#[],by rw[q];simp⟩⟩
theorem Un.refl:Un fs ex H H h h:=Un.kept fun _ _ q=>q
theorem Un.laid(k:∀ b u,h.get? b=some u->h'.get? b=some u)(hp:h.objs.size<=a)(hn:H a=none):Un fs ex H (upd H a o) h h' where
 keep:=fun b u q _ _ _=>k b u q
 slot:=fun b u q _ _ _=>⟨u.slots,k b u q⟩
 free:=fun b u q n _=>by rw[zd (Nat.ne_of_lt (Nat.lt_of_lt_of_le (Heap.lt_size q) hp))];exact n
 there:=fun b u q _=>⟨u,k b u q⟩
 tups:=fun b xs q=>by rw[zd (zf q hn)];exact q
 frzs:=fun b u xs q=>by rw[zd (zf q hn)];exact q
 tbls:=fun b ps q=>⟨#[],by rw[zd (zf q hn),q];simp⟩
theorem Un.write(mu:Mut (H x))(he:e=x\/H e=some (.own x))(k:∀ b u,b≠e->h.get? b=some u->h'.get? b=some u)(heo:∃ u,h'.get? e=some u):Un fs ex H (upd H x o) h h':=by
 have hx:∀ b,H b=none->b≠x:=fun b n z=>by subst z;rw[n]at mu;exact mu
 have hb:∀ b,H b=none->b≠e:=fun b n z=>by
  subst z
  rcases he with r | r
  ·exact hx b n r
  ·rw[n]at r;cases r
 have hm:∀ b u,H b=some u->¬ Mut (some u)->b≠x:=fun b u q nm z=>by subst z;rw[q]at mu;exact nm mu
 refine⟨fun b u q n _ _=>k b u (hb b n) q,fun b u q n _ _=>⟨u.slots,k b u (hb b n) q⟩,fun b u q n _=>by rw[zd (hx b n)];exact n,fun b u q _=>?_,
  fun b xs q=>by rw[zd (hm b _ q fun z=>z)];exact q,fun b u xs q=>by rw[zd (hm b _ q fun z=>z)];exact q,fun b ps q=>⟨#[],by rw[zd (hm b _ q fun z=>z),q];simp⟩⟩
 by_cases hbe:b=e
 ·subst hbe;exact heo
 ·exact⟨u,k b u hbe q⟩
end
def trk(h:Heap)(H:Hp):List Addr:=(List.range h.objs.size).filter fun a=>(H a).isSome
def hidT(h:Heap)(H:Hp):Heap:=PySem.W.hideAll h (trk h H)
theorem z9N(h:Heap)(H:Hp):(hidT h H).objs.size=h.objs.size:=PySem.W.hideAll_size _ _
theorem zbn{h:Heap}{H:Hp}{b:Addr}{o:Obj}(e:h.get? b=some o)(n:H b=none):(hidT h H).get? b=some o :=
 PySem.W.hideAll_get _ e fun hm=>by
  have q:(H b).isSome=true:=(List.mem_filter.mp hm).2
  rw[n]at q;simp at q
theorem zd1{h:Heap}{H:Hp}{b:Addr}{o:Obj}(e:(hidT h H).get? b=some o):h.get? b=some o/\H b=none:=by
 have e':h.get? b=some o:=PySem.W.of_hideAll (trk h H) e
 refine⟨e',?_⟩
 cases q:H b with
 | none=>rfl
 | some x =>
  have hm:b∈trk h H:=List.mem_filter.mpr ⟨List.mem_range.mpr (Heap.lt_size e'),by simp[q]⟩
  have z:(hidT h H).get? b=none:=PySem.W.hideAll_none (trk h H) hm
  rw[z]at e;cases e
end L2
namespace L2
open PySem PySem.Spec PyProof.Rows
structure Mod(K:PySem.W.Frag)(mg:Str->Option Value)(base:Heap):Prop where
 kin:K.In base
 glob:base.Ns mainGlobals mg
 blt:∃ mb,base.Ns builtinsNs mb/\∀ x:Str,x≠"__name__"->mb x=bootBuiltins x
 nolimit:base.NoLimit
structure Cx where
 prog:Program
 w:World
 K:PySem.W.Frag
 mg:Str->Option Value
 base:Heap
 A:Around
 N:List Str
 s₀:Shared
 H₀:Hp
 env:Env
 outer:List Env
 stack:List Env
 ex:List Addr
 fn:Str->Bool
 calm:Bool
 pn:List (Addr × Obj)
 xe:Value->Shared->Prop
def frs(l:List Env):List Addr:=l.filterMap (·.frame)
abbrev Cx.fs(X:Cx):List Addr:=frs X.outer
def Vis(sc:Scope)(x:Str):Prop:=sc.names.lookup x=some .local\/sc.names.lookup x=some .cell\/sc.names.lookup x=some .free
def Loc(sc:Scope)(x:Str):Prop:=sc.names.lookup x=some .local\/sc.names.lookup x=some .cell
def Look(env:Env)(h:Heap)(m:Str->Option Value)(x:Str)(u:Value):Prop :=
 (env.kindOf x=some .local/\m x=some u)\/((env.kindOf x=some .cell\/env.kindOf x=some .free)/\∃ c,env.cells.lookup x=some c/\h.IsCell c (some u))
structure Cx.Ok(X:Cx):Prop where
 mod:Mod X.K X.mg X.base
 kind:X.env.scope.kind=.function
 glob:X.env.globals=mainGlobals
 blt:X.env.builtins=builtinsNs
 above:X.s₀.heap.objs.size<=X.env.locals
 inj:∀ x y c,X.env.cells.lookup x=some c->X.env.cells.lookup y=some c->x=y
 has:∀ x,(X.env.kindOf x=some .cell\/X.env.kindOf x=some .free)->∃ c,X.env.cells.lookup x=some c
 cab:∀ x c,X.fn x=true->X.env.cells.lookup x=some c->X.s₀.heap.objs.size<=c
 hd:X.calm=true->X.A.handled=none
 frames:X.A.frames=some X.stack
 stk:X.stack=X.outer\/(X.stack=X.env::X.outer/\X.env.frame=some X.env.locals)
 exf:∀ b∈X.ex,b≠X.env.locals/\∀ x c,X.env.cells.lookup x=some c->c≠b
 bs:∀ b o,X.base.get? b=some o->X.s₀.heap.get? b=some o/\X.H₀ b=none
 bsz:X.base.objs.size<=X.s₀.heap.objs.size
 noex:∀ b o,X.base.get? b=some o->b ∉ X.ex
 exfs:∀ b∈X.ex,b ∉ X.fs
 funs:X.s₀.heap.FunFrames X.base X.outer
 frf:∀ b∈X.fs,X.H₀ b=none
structure Inv(X:Cx)(pins:List (Addr × Obj))(σ:List (Option V))(H:Hp)(s:Shared):Prop where
 ok:X.Ok
 os:s.os=X.s₀.os
 bare:AllBare s.gens
 base:Un X.fs X.ex X.H₀ H X.s₀.heap s.heap
 loc:∃ m,s.heap.Ns X.env.locals m/\∀ (i:Nat) (x:Str) (v:V),X.N[i]?=some x->σ[i]?=some (some v)->Vis X.env.scope x->∃ u,RelV v u/\Look X.env s.heap m x u
 cell:∀ x c,X.env.cells.lookup x=some c->∃ v,s.heap.IsCell c v
 free:H X.env.locals=none
 freeC:∀ x c,X.env.cells.lookup x=some c->H c=none
 pin:∀ p∈X.pn++pins,s.heap.get? p.1=some p.2/\H p.1=none/\p.1≠X.env.locals/\p.1 ∉ X.fs/\∀ v,p.2.data≠.cell v
 hok:HOk X.prog X.w H s.heap
 len:σ.length=X.N.length
section
variable {X:Cx} {pins:List (Addr × Obj)} {σ:List (Option V)} {H H':Hp} {s:Shared} {h':Heap}
theorem Cx.Ok.nofr(ok:X.Ok){b:Addr}{o:Obj}(e:X.base.get? b=some o):b ∉ X.fs:=fun hb=>by
 have:=(ok.funs.mem hb).1
 rw[e]at this;cases this
theorem Inv.bs(I:Inv X pins σ H s):∀ b o,X.base.get? b=some o->s.heap.get? b=some o/\H b=none:=fun b o e =>
 ⟨I.base.keep b o (I.ok.bs b o e).1 (I.ok.bs b o e).2 (I.ok.nofr e) (I.ok.noex b o e),I.base.free b o (I.ok.bs b o e).1 (I.ok.bs b o e).2 (I.ok.noex b o e)⟩
theorem Inv.bk(I:Inv X pins σ H s):∀ b o,X.base.get? b=some o->s.heap.get? b=some o:=fun b o e=>(I.bs b o e).1
theorem Inv.mod(I:Inv X pins σ H s):Mod X.K X.mg X.base:=I.ok.mod
theorem Inv.kIn(I:Inv X pins σ H s):X.K.In s.heap:=I.ok.mod.kin.keeps I.bk
theorem Inv.fr(I:Inv X pins σ H s):∃ m,Fr X.base X.env.locals s.heap m :=
 let ⟨m,hn,_⟩:=I.loc
 ⟨m,hn,I.bk,Nat.le_trans I.ok.bsz I.ok.above⟩
theorem Inv.lt(I:Inv X pins σ H s):X.env.locals < s.heap.objs.size:=let ⟨_,hn,_⟩:=I.loc;hn.lt
theorem Inv.sz(I:Inv X pins σ H s):X.s₀.heap.objs.size<=s.heap.objs.size:=Nat.le_trans I.ok.above (Nat.le_of_lt I.lt)
theorem Inv.nofs(I:Inv X pins σ H s){a:Addr}(h:s.heap.objs.size<=a):a ∉ X.fs:=fun hb=>by
 obtain⟨_,o,ho,_⟩:=I.ok.funs.mem hb
 exact absurd (Nat.lt_of_lt_of_le (Heap.lt_size ho) (Nat.le_trans I.sz h)) (Nat.lt_irrefl _)
theorem Inv.cne(I:Inv X pins σ H s):∀ x c,X.env.cells.lookup x=some c->c≠X.env.locals:=fun x c e z=>by
 obtain⟨v,o,ho,hd⟩:=I.cell x c e
 obtain⟨m,⟨o',es,ep,ho',hd',_⟩,_⟩:=I.loc
 rw[z,ho']at ho;cases ho;rw[hd']at hd;cases hd
theorem Inv.funs(I:Inv X pins σ H s):s.heap.FunFrames X.base X.outer:=by
 have all:∀ (l:List Env),(∀ b∈frs l,b∈X.fs)->X.s₀.heap.FunFrames X.base l->s.heap.FunFrames X.base l:=by
  intro l
  induction l with
  | nil=>intro _ _;trivial
  | cons env r ih =>
   intro hs hl
   obtain⟨hk,⟨L,o,hf,hn,ho,hd⟩,hr⟩:=hl
   have hL:L∈X.fs:=hs L (by unfold frs;rw[List.filterMap_cons,hf];exact List.mem_cons_self)
   obtain⟨sl,e⟩:=I.base.slot L o ho (I.ok.frf L hL) hL fun z=>I.ok.exfs L z hL
   exact⟨hk,⟨L,_,hf,hn,e,hd⟩,ih (fun b hb=>hs b (by unfold frs;rw[List.filterMap_cons,hf];exact List.mem_cons_of_mem _ hb)) hr⟩
 exact all X.outer (fun _ hb=>hb) I.ok.funs
theorem Inv.stack(I:Inv X pins σ H s):s.heap.FunFrames X.base X.stack:=by
 rcases I.ok.stk with e | ⟨e,hf⟩
 ·rw[e];exact I.funs
 ·rw[e]
  obtain⟨m,hn,_⟩:=I.loc
  refine .cons (by rw[I.ok.kind];decide) hf hn ?_ I.funs
  exact Heap.get?_none_of_le (Nat.le_trans I.ok.bsz I.ok.above)
theorem Inv.stkSub(I:Inv X pins σ H s):∀ b∈frs X.stack,b∈X.env.locals::X.fs:=fun b hb=>by
 rcases I.ok.stk with e | ⟨e,hf⟩
 ·rw[e]at hb;exact List.mem_cons_of_mem _ hb
 ·rw[e]at hb
  unfold frs at hb
  rw[List.filterMap_cons,hf]at hb
  exact hb
theorem Inv.stkFree(I:Inv X pins σ H s):∀ b∈frs X.stack,H b=none:=fun b hb=>by
 rcases List.mem_cons.mp (I.stkSub b hb) with e | hb
 ·rw[e];exact I.free
 ·obtain⟨_,o,ho,_⟩:=I.ok.funs.mem hb
  exact I.base.free b o ho (I.ok.frf b hb) fun z=>I.ok.exfs b z hb
theorem Inv.step{g':Array GenState}{t':Nat}{d':Drawn}{ch:List Addr}(I:Inv X pins σ H s)
  (hch:∀ b∈ch,(b∈X.ex\/X.s₀.heap.objs.size<=b)/\b≠X.env.locals/\(∀ x c,X.env.cells.lookup x=some c->c≠b)/\∀ p∈X.pn++pins,p.1≠b)
  (keep:∀ b o,b≠X.env.locals->b ∉ X.fs->b ∉ ch->s.heap.get? b=some o->H b=none->h'.get? b=some o)
  (slot:∀ b o,b≠X.env.locals->b∈X.fs->b ∉ ch->s.heap.get? b=some o->H b=none->∃ sl,h'.get? b=some {o with slots:=sl}) (free:∀ b o,b ∉ ch->s.heap.get? b=some o->H b=none->H' b=none)
  (there:∀ b o,b ∉ ch->s.heap.get? b=some o->∃ o',h'.get? b=some o')
  (tups:∀ b xs,H b=some (.tup xs)->H' b=some (.tup xs)) (frzs:∀ b o u,H b=some (.frz o u)->H' b=some (.frz o u)) (tbls:∀ b ps,H b=some (.tbl ps)->∃ more,H' b=some (.tbl (ps++more)))
  (ns:∀ m,s.heap.Ns X.env.locals m->h'.Ns X.env.locals m) (hok:HOk X.prog X.w H' h') (hg:AllBare g') :
  Inv X pins σ H' {s with heap:=h',gens:=g',drawn:=d',toks:=t'}:=by
 have neL:∀ b o,X.s₀.heap.get? b=some o->b≠X.env.locals:=fun b o e=>Nat.ne_of_lt (Nat.lt_of_lt_of_le (Heap.lt_size e) I.ok.above)
 have neC:∀ b o,X.s₀.heap.get? b=some o->b ∉ X.ex->b ∉ ch:=fun b o e hx hb=>by
  rcases(hch b hb).1 with z | z
  ·exact hx z
  ·exact absurd (Nat.lt_of_lt_of_le (Heap.lt_size e) z) (Nat.lt_irrefl _)
 have cellK:∀ x c,X.env.cells.lookup x=some c->∀ v,s.heap.IsCell c v->h'.IsCell c v:=fun x c e v x__1=>by
  obtain⟨o,ho,hd⟩:=x__1
  have nch:c ∉ ch:=fun z=>(hch c z).2.2.1 x c e rfl
  by_cases hc:c∈X.fs
  ·obtain⟨sl,q⟩:=slot c o (I.cne x c e) hc nch ho (I.freeC x c e)
   exact⟨_,q,hd⟩
  ·exact⟨o,keep c o (I.cne x c e) hc nch ho (I.freeC x c e),hd⟩
 refine⟨I.ok,I.os,hg,⟨fun b o e n hb hx=>?_,fun b o e n hb hx=>?_,fun b o e n hx=>?_,fun b o e hx=>?_,fun b xs e=>tups b xs (I.base.tups b xs e),fun b o xs e=>frzs b o xs (I.base.frzs b o xs e),fun b ps e=>?_⟩,?_,fun x c e=>?_,?_,fun x c e=>?_,fun p hp=>?_,hok,I.len⟩
 ·exact keep b o (neL b o e) hb (neC b o e hx) (I.base.keep b o e n hb hx) (I.base.free b o e n hx)
 ·obtain⟨sl,e1⟩:=I.base.slot b o e n hb hx
  obtain⟨sl',e2⟩:=slot b _ (neL b o e) hb (neC b o e hx) e1 (I.base.free b o e n hx)
  exact⟨sl',e2⟩
 ·obtain⟨o',e1⟩:=I.base.there b o e hx
  exact free b o' (neC b o e hx) e1 (I.base.free b o e n hx)
 ·obtain⟨o',e1⟩:=I.base.there b o e hx
  exact there b o' (neC b o e hx) e1
 ·obtain⟨m1,e1⟩:=I.base.tbls b ps e
  obtain⟨m2,e2⟩:=tbls b _ e1
  exact⟨m1++m2,by rw[e2,Array.append_assoc]⟩
 ·obtain⟨m,hn,hl⟩:=I.loc
  refine⟨m,ns m hn,fun i x v e1 e2 e3=>?_⟩
  obtain⟨u,r,l⟩:=hl i x v e1 e2 e3
  refine⟨u,r,?_⟩
  rcases l with l | ⟨k,c,e,z⟩
  ·exact .inl l
  ·exact .inr ⟨k,c,e,cellK x c e _ z⟩
 ·obtain⟨v,z⟩:=I.cell x c e
  exact⟨v,cellK x c e v z⟩
 ·obtain⟨m,⟨o,_,_,ho,_⟩,_⟩:=I.loc
  exact free _ o (fun z=>(hch _ z).2.1 rfl) ho I.free
 ·obtain⟨v,o,ho,hd⟩:=I.cell x c e
  exact free c o (fun z=>(hch c z).2.2.1 x c e rfl) ho (I.freeC x c e)
 ·obtain⟨e,n,ne,nf,d⟩:=I.pin p hp
  have nch:p.1 ∉ ch:=fun z=>(hch p.1 z).2.2.2 p hp rfl
  exact⟨keep p.1 p.2 ne nf nch e n,free p.1 p.2 nch e n,ne,nf,d⟩
theorem Inv.un{t':Nat}(I:Inv X pins σ H s)(u:Un X.fs [] H H' s.heap h')(hok:HOk X.prog X.w H' h'):Inv X pins σ H' {s with heap:=h',toks:=t'}:=by
 obtain⟨m,⟨o,es,ep,ho,r⟩,_⟩:=id I.loc
 obtain⟨sl,hL⟩:=u.any ho I.free (by simp)
 exact I.step (g':=s.gens) (d':=s.drawn) (ch:=[]) (fun _ z=>nomatch z) (fun b o _ hb _ e n=>u.keep b o e n hb (by simp)) (fun b o _ hb _ e n=>u.slot b o e n hb (by simp)) (fun b o _ e n=>u.free b o e n (by simp)) (fun b o _ e=>u.there b o e (by simp)) u.tups u.frzs u.tbls (fun m' hm=>by
  obtain⟨o',es',ep',ho',r'⟩:=hm
  rw[ho]at ho';cases ho'
  exact⟨_,es',ep',hL,r'⟩) hok I.bare
theorem Inv.call{g':Array GenState}{t':Nat}{d':Drawn}{ch:List Addr}(I:Inv X pins σ H s)(u:Un (frs X.stack) ch H H' s.heap h')(hok:HOk X.prog X.w H' h')(hg:AllBare g')
  (hch:∀ b∈ch,(b∈X.ex\/X.s₀.heap.objs.size<=b)/\b≠X.env.locals/\(∀ x c,X.env.cells.lookup x=some c->c≠b)/\∀ p∈X.pn++pins,p.1≠b) :
  Inv X pins σ H' {s with heap:=h',gens:=g',drawn:=d',toks:=t'}:=by
 obtain⟨m,⟨o,es,ep,ho,r⟩,_⟩:=id I.loc
 obtain⟨sl,hL⟩:=u.any ho I.free fun z=>(hch _ z).2.1 rfl
 exact I.step (ch:=ch) hch (fun b o hL hb hc e n=>u.keep b o e n (fun z=>(List.mem_cons.mp (I.stkSub b z)).elim hL hb) hc) (fun b o _ _ hc e n=>u.any e n hc) (fun b o hc e n=>u.free b o e n hc) (fun b o hc e=>u.there b o e hc) u.tups u.frzs u.tbls (fun m' hm=>by
  obtain⟨o',es',ep',ho',r'⟩:=hm
  rw[ho]at ho';cases ho'
  exact⟨_,es',ep',hL,r'⟩) hok hg
theorem Inv.turned{t':Nat}{it:Addr}(I:Inv X pins σ H s)(k:∀ b o,b≠it->s.heap.get? b=some o->h'.get? b=some o)(hn:H it=none)(hL:it≠X.env.locals)
  (h1:it∈X.ex\/X.s₀.heap.objs.size<=it) (h2:∀ x c,X.env.cells.lookup x=some c->c≠it) (h3:∀ p∈X.pn++pins,p.1≠it):Inv X pins σ H {s with heap:=h',toks:=t'}:=by
 have nit:∀ b u,H b=some u->b≠it:=fun b u e z=>by rw[z,hn]at e;cases e
 refine I.step (g':=s.gens) (d':=s.drawn) (ch:=[it]) (fun b hb=>?_) (fun b o _ _ hc e _=>k b o (fun z=>hc (by simp[z])) e) (fun b o _ _ hc e _=>⟨o.slots,k b o (fun z=>hc (by simp[z])) e⟩) (fun _ _ _ _ n=>n)
  (fun b o hc e=>⟨o,k b o (fun z=>hc (by simp[z])) e⟩) (fun _ _ e=>e) (fun _ _ _ e=>e) (fun b ps e=>⟨#[],by rw[e];simp⟩) (fun m hm=>?_) (fun b u e=>?_) I.bare
 ·have e:b=it:=by simpa using hb
  subst e
  exact⟨h1,hL,h2,h3⟩
 ·obtain⟨o,es,ep,ho,r⟩:=hm
  exact⟨o,es,ep,k _ o (Ne.symm hL) ho,r⟩
 ·refine(I.hok b u e).stay (fun c v hc q=>k c v ?_ q) (fun _ q=>q) fun _ _ q=>q
  rcases hc with z | z
  ·rw[z];exact nit b u e
  ·exact nit c _ z
theorem Inv.tok(I:Inv X pins σ H s)(t:Nat):Inv X pins σ H {s with toks:=t}:=I.un (h':=s.heap) (t':=t) Un.refl I.hok
theorem Inv.kept{t':Nat}(I:Inv X pins σ H s)(k:∀ b u,s.heap.get? b=some u->h'.get? b=some u):Inv X pins σ H {s with heap:=h',toks:=t'}:=I.un (Un.kept k) (I.hok.kept k)
theorem Inv.laid{a:Addr}{o:HO}{t':Nat}(I:Inv X pins σ H s)(k:∀ b u,s.heap.get? b=some u->h'.get? b=some u)(hp:s.heap.objs.size<=a)(new:ObjOk X.prog X.w (upd H a o) h' a o) :
  Inv X pins σ (upd H a o) {s with heap:=h',toks:=t'}:=I.un (Un.laid k hp (I.hok.fresh hp)) (I.hok.laid k hp new)
theorem Inv.write{x e:Addr}{o:HO}{t':Nat}(I:Inv X pins σ H s)(mu:Mut (H x))(he:e=x\/H e=some (.own x))(k:∀ b u,b≠e->s.heap.get? b=some u->h'.get? b=some u)(heo:∃ u,h'.get? e=some u)
  (new:ObjOk X.prog X.w (upd H x o) h' x o):Inv X pins σ (upd H x o) {s with heap:=h',toks:=t'}:=I.un (Un.write mu he k heo) (I.hok.write mu he k heo new)
theorem Inv.weak{σ':List (Option V)}(I:Inv X pins σ H s)(hl:σ'.length=σ.length)(w:∀ (i:Nat) v,σ'[i]?=some (some v)->σ[i]?=some (some v)):Inv X pins σ' H s :=
 ⟨I.ok,I.os,I.bare,I.base,let ⟨m,hn,hl'⟩:=I.loc;⟨m,hn,fun i x v e1 e2 e3=>hl' i x v e1 (w i v e2) e3⟩,I.cell,I.free,I.freeC,I.pin,I.hok,hl.trans I.len⟩
theorem Inv.pins_of{pins':List (Addr × Obj)}(I:Inv X pins σ H s)(h:∀ p∈pins',s.heap.get? p.1=some p.2/\H p.1=none/\p.1≠X.env.locals/\p.1 ∉ X.fs/\∀ v,p.2.data≠.cell v):Inv X pins' σ H s :=
 ⟨I.ok,I.os,I.bare,I.base,I.loc,I.cell,I.free,I.freeC,fun p hp=>(List.mem_append.mp hp).elim (fun z=>I.pin p (List.mem_append_left _ z)) (h p),I.hok,I.len⟩
theorem z8s{N:List Str}(hN:N.Nodup){i j:Nat}{x:Str}(a:N[i]?=some x)(b:N[j]?=some x):i=j:=by
 obtain⟨h1,e1⟩:=List.getElem?_eq_some_iff.mp a
 obtain⟨h2,e2⟩:=List.getElem?_eq_some_iff.mp b
 exact(List.getElem_inj hN).mp (e1.trans e2.symm)
theorem z53{M:Model}{A:Around}{E:Value->Shared->Prop}{i:Nat}{x:Str}{v:V}{u:Value}{Q:Unit->Shared->Prop}(I:Inv X pins σ H s)(hN:X.N.Nodup)(hi:X.N[i]?=some x)(hx:Loc X.env.scope x)(r:RelV v u)
  (h:∀ s',Inv X pins (σ.set i (some v)) H s'->(∃ a,Heap.SameBut a s.heap s'.heap/\(a=X.env.locals\/X.env.cells.lookup x=some a))->Q () s') (hf:X.fn x=true\/X.env.scope.names.lookup x=some .local:=by first | exact .inl rfl | exact .inr rfl | assumption):wpAny M A (storeName X.env x u) Q E s:=by
 obtain⟨m,hn,hl⟩:=id I.loc
 have hcls:(X.env.scope.kind == .class || (X.env.scope.kind == .module && X.env.locals != X.env.globals))=false:=by rw[I.ok.kind];rfl
 have hiσ:i < σ.length:=by rw[I.len];exact(List.getElem?_eq_some_iff.mp hi).1
 have cne:=I.cne
 have tracked:∀ {a:Addr} {h':Heap},(∃ o,s.heap.get? a=some o/\H a=none)->Heap.SameBut a s.heap h'->HOk X.prog X.w H h':=fun{a h'} ha hs b ob e=>by
  obtain⟨_,_,hfree⟩:=ha
  refine(I.hok b ob e).stay (fun c w' hc q=>(hs.2 c ?_).trans q) (fun _ q=>q) fun _ _ q=>q
  rintro rfl
  rcases hc with rfl | hc
  ·rw[hfree]at e;cases e
  ·rw[hfree]at hc;cases hc
 rcases hx with hk | hk
 ·refine wpAny_storeName_local hk hn (fun h' hn' hs=>?_) hcls
  obtain⟨oL,_,_,hoL,_⟩:=id hn
  refine h _ ⟨I.ok,I.os,I.bare,⟨fun b o e n hb hx=>?_,fun b o e n hb hx=>?_,I.base.free,fun b o e hx=>?_,I.base.tups,I.base.frzs,I.base.tbls⟩,⟨_,hn',fun j y v' e1 e2 e3=>?_⟩,fun y c e=>?_,I.free,I.freeC,fun p hp=>?_,tracked ⟨oL,hoL,I.free⟩ hs,by simpa using I.len⟩ ⟨_,hs,.inl rfl⟩
  ·exact(hs.2 b (Nat.ne_of_lt (Nat.lt_of_lt_of_le (Heap.lt_size e) I.ok.above))).trans (I.base.keep b o e n hb hx)
  ·obtain⟨sl,e1⟩:=I.base.slot b o e n hb hx
   exact⟨sl,(hs.2 b (Nat.ne_of_lt (Nat.lt_of_lt_of_le (Heap.lt_size e) I.ok.above))).trans e1⟩
  ·obtain⟨o',e1⟩:=I.base.there b o e hx
   exact⟨o',(hs.2 b (Nat.ne_of_lt (Nat.lt_of_lt_of_le (Heap.lt_size e) I.ok.above))).trans e1⟩
  ·by_cases hj:j=i
   ·subst hj
    rw[hi]at e1;cases e1
    rw[List.getElem?_set_self hiσ]at e2
    cases e2
    exact⟨u,r,.inl ⟨hk,by simp⟩⟩
   ·rw[List.getElem?_set_ne (Ne.symm hj)]at e2
    obtain⟨u',r',q⟩:=hl j y v' e1 e2 e3
    refine⟨u',r',?_⟩
    rcases q with ⟨k,e⟩ | ⟨k,c,e,z⟩
    ·refine .inl ⟨k,?_⟩
     have:y≠x:=fun e=>hj (z8s hN e1 (e ▸ hi))
     simp[this,e]
    ·exact .inr ⟨k,c,e,z.sameBut hs (cne y c e)⟩
  ·obtain⟨w',z⟩:=I.cell y c e
   exact⟨w',z.sameBut hs (cne y c e)⟩
  ·obtain⟨e,n,ne,nf,d⟩:=I.pin p hp
   exact⟨(hs.2 p.1 ne).trans e,n,ne,nf,d⟩
 ·have hfn:X.fn x=true:=by
   rcases hf with z | z
   ·exact z
   ·rw[z]at hk;cases hk
  obtain⟨c,hc⟩:=I.ok.has x (.inl hk)
  obtain⟨w',z⟩:=I.cell x c hc
  refine wpAny_storeName_cell I.ok.kind hk hc z (fun h' hc' hs=>?_)
  obtain⟨oc,hoc,hocd⟩:=id z
  refine h {s with heap:=h'} ⟨I.ok,I.os,I.bare,⟨fun b o e n hb hx=>?_,fun b o e n hb hx=>?_,I.base.free,fun b o e hx=>?_,I.base.tups,I.base.frzs,I.base.tbls⟩,⟨m,hn.sameBut hs (Ne.symm (cne x c hc)),fun j y v' e1 e2 e3=>?_⟩,fun y c' e=>?_,I.free,I.freeC,fun p hp=>?_,tracked ⟨oc,hoc,I.freeC x c hc⟩ hs,by simpa using I.len⟩ ⟨c,hs,.inr hc⟩
  ·exact(hs.2 b (Nat.ne_of_lt (Nat.lt_of_lt_of_le (Heap.lt_size e) (I.ok.cab x c hfn hc)))).trans (I.base.keep b o e n hb hx)
  ·obtain⟨sl,e1⟩:=I.base.slot b o e n hb hx
   exact⟨sl,(hs.2 b (Nat.ne_of_lt (Nat.lt_of_lt_of_le (Heap.lt_size e) (I.ok.cab x c hfn hc)))).trans e1⟩
  ·obtain⟨o',e1⟩:=I.base.there b o e hx
   exact⟨o',(hs.2 b (Nat.ne_of_lt (Nat.lt_of_lt_of_le (Heap.lt_size e) (I.ok.cab x c hfn hc)))).trans e1⟩
  ·by_cases hj:j=i
   ·subst hj
    rw[hi]at e1;cases e1
    rw[List.getElem?_set_self hiσ]at e2
    cases e2
    exact⟨u,r,.inr ⟨.inl hk,c,hc,hc'⟩⟩
   ·rw[List.getElem?_set_ne (Ne.symm hj)]at e2
    obtain⟨u',r',q⟩:=hl j y v' e1 e2 e3
    refine⟨u',r',?_⟩
    rcases q with q | ⟨k,c',e,z'⟩
    ·exact .inl q
    ·refine .inr ⟨k,c',e,z'.sameBut hs ?_⟩
     rintro rfl
     exact hj (z8s hN e1 (I.ok.inj _ _ _ e hc ▸ hi))
  ·by_cases hcc:c'=c
   ·subst hcc;exact⟨_,hc'⟩
   ·obtain⟨w2,z2⟩:=I.cell y c' e
    exact⟨w2,z2.sameBut hs hcc⟩
  ·obtain⟨e,n,ne,nf,d⟩:=I.pin p hp
   refine⟨(hs.2 p.1 ?_).trans e,n,ne,nf,d⟩
   intro q
   rw[q,hoc]at e
   have q':oc=p.2:=Option.some.inj e
   exact d w' (by rw[<- q'];exact hocd)
theorem z29{M:Model}{A:Around}{E:Value->Shared->Prop}{i:Nat}{x:Str}{v:V}{u:Value}{Q:Unit->Shared->Prop}(I:Inv X pins σ H s)(hN:X.N.Nodup)(hi:X.N[i]?=some x)(hx:Loc X.env.scope x)(r:RelV v u)
  (h:∀ s',Inv X pins (σ.set i (some v)) H s'->Q () s') (hf:X.fn x=true\/X.env.scope.names.lookup x=some .local:=by first | exact .inl rfl | exact .inr rfl | assumption):wpAny M A (storeName X.env x u) Q E s :=
 z53 I hN hi hx r (fun s' I' _=>h s' I') hf
theorem Inv.call'{s':Shared}{ch:List Addr}(I:Inv X pins σ H s)(ho:s'.os=s.os)(u:Un (frs X.stack) ch H H' s.heap s'.heap)(hok:HOk X.prog X.w H' s'.heap)(hg:AllBare s'.gens)
  (hch:∀ b∈ch,(b∈X.ex\/X.s₀.heap.objs.size<=b)/\b≠X.env.locals/\(∀ x c,X.env.cells.lookup x=some c->c≠b)/\∀ p∈X.pn++pins,p.1≠b):Inv X pins σ H' s':=by
 obtain⟨h',g',d',t',o'⟩:=s'
 have e:o'=s.os:=ho
 subst e
 exact I.call (g':=g') (t':=t') (d':=d') u hok hg hch
end
abbrev XK:=Value->Option Addr->Hp->Prop
abbrev St:=List (Option V)
abbrev VK:=V->Hp->Prop
abbrev TE:=St->Hp->VK->Prop
abbrev TT:=St->Hp->(Bool->Hp->Prop)->Prop
abbrev TA:=St->Hp->(List V->Hp->Prop)->Prop
structure Ends where
 nx:St->Hp->Prop
 rt:VK
 bk:St->Hp->Prop:=fun _ _=>False
 ct:St->Hp->Prop:=fun _ _=>False
abbrev TS:=Ends->St->Hp->Prop
inductive NP(X:Cx)(pins:List (Addr × Obj))(Q:St->Hp->Prop)(s':Shared):Prop
 | mk (σ':St) (H':Hp) (h0:Inv X pins σ' H' s') (h1:Q σ' H')
inductive RP(X:Cx)(pins:List (Addr × Obj))(Q:VK)(u:Value)(s':Shared):Prop
 | mk (v:V) (σ':St) (H':Hp) (h0:Inv X pins σ' H' s') (h1:RelV v u) (h2:Q v H')
inductive EP(X:Cx)(pins:List (Addr × Obj))(σ:St)(Q:VK)(u:Value)(s':Shared):Prop
 | mk (v:V) (H':Hp) (h0:Inv X pins σ H' s') (h1:RelV v u) (h2:Q v H')
inductive TP(X:Cx)(pins:List (Addr × Obj))(σ:St)(Q:Bool->Hp->Prop)(b:Bool)(s':Shared):Prop
 | mk (H':Hp) (h0:Inv X pins σ H' s') (h1:Q b H')
inductive AP(X:Cx)(pins:List (Addr × Obj))(σ:St)(Q:List V->Hp->Prop)(us:List Value)(s':Shared):Prop
 | mk (vs:List V) (H':Hp) (h0:Inv X pins σ H' s') (h1:Vals vs us) (h2:Q vs H')
def SP(X:Cx)(pins:List (Addr × Obj))(D:Ends)(f:Flow)(s':Shared):Prop :=
 match f with
 | .next=>NP X pins D.nx s'
 | .brk=>NP X pins D.bk s'
 | .cont=>NP X pins D.ct s'
 | .ret u=>RP X pins D.rt u s'
def PE(X:Cx)(e:Expr)(t:TE):Prop :=
 ∀ (pins:List (Addr × Obj)) (s:Shared) (σ:St) (H:Hp) (Q:VK),Inv X pins σ H s->t σ H Q->wpAny (model X.prog X.w) X.A (eval e X.env) (EP X pins σ Q) X.xe s
def PT(X:Cx)(e:Expr)(t:TT):Prop :=
 ∀ (pins:List (Addr × Obj)) (s:Shared) (σ:St) (H:Hp) (Q:Bool->Hp->Prop),Inv X pins σ H s->t σ H Q->wpAny (model X.prog X.w) X.A (isTrue e X.env (eval e X.env)) (TP X pins σ Q) X.xe s
def PW(X:Cx)(e:Expr)(t:TT):Prop :=
 ∀ (whole:Sem Value) (pins:List (Addr × Obj)) (s:Shared) (σ:St) (H:Hp) (Q:Bool->Hp->Prop),Inv X pins σ H s->t σ H Q->wpAny (model X.prog X.w) X.A (isTrue e X.env whole) (TP X pins σ Q) X.xe s
theorem PW.pt{X:Cx}{e:Expr}{t:TT}(h:PW X e t):PT X e t:=h _
def PA(X:Cx)(es:List Expr)(t:TA):Prop :=
 ∀ (pos:Pos) (pins:List (Addr × Obj)) (s:Shared) (σ:St) (H:Hp) (Q:List V->Hp->Prop),Inv X pins σ H s->t σ H Q->wpAny (model X.prog X.w) X.A (spliced (backTo pos (starEach es X.env))) (AP X pins σ Q) X.xe s
def PS(X:Cx)(st:Stmt)(t:TS):Prop :=
 ∀ (pins:List (Addr × Obj)) (s:Shared) (σ:St) (H:Hp) (D:Ends),Inv X pins σ H s->t D σ H->wpAny (model X.prog X.w) X.A (exec st X.env) (SP X pins D) X.xe s
def PSs(X:Cx)(st:List Stmt)(t:TS):Prop :=
 ∀ (pins:List (Addr × Obj)) (s:Shared) (σ:St) (H:Hp) (D:Ends),Inv X pins σ H s->t D σ H->wpAny (model X.prog X.w) X.A (execs st X.env) (SP X pins D) X.xe s
theorem thn{α:Type}{t:Sem α}{Q Q':α->Shared->Prop}{M:Model}{A:Around}{E:Value->Shared->Prop}{s:Shared}(h:wpAny M A t Q E s)(hQ:∀ a s,Q a s->Q' a s):wpAny M A t Q' E s:=wpAny_mono h hQ fun _ _ x=>x
end L2
namespace L2
open PySem PySem.Spec PyProof.Rows
section
variable {X:Cx}
def tVar(i:Nat):TE:=fun σ H Q=>∃ v,σ[i]?=some (some v)/\Q v H
def tC(v:V):TE:=fun _ H Q=>Q v H
theorem ze5{i:Nat}{x:Str}{pos:Pos}(hN:X.N[i]?=some x)(hv:Vis X.env.scope x)(hd:(x == ("__debug__":Str))=false:=by decide)(hcd:(x == ("__classdict__":Str))=false:=by decide):PE X (.Name x pos) (tVar i):=by
 intro pins s σ H Q I h
 obtain⟨v,e,h⟩:=h
 obtain⟨m,hn,hl⟩:=I.loc
 obtain⟨u,r,l⟩:=hl i x v hN e hv
 have fin:EP X pins σ Q u s:=⟨v,H,I,r,h⟩
 rcases l with ⟨hk,hm⟩ | ⟨hk,c,hc,hcell⟩
 ·exact wpAny_Name (wpAny_loadName_local I.ok.kind hk hn hm fin) hd
 ·rcases hk with hk | hk
  ·exact wpAny_Name (wpAny_loadName_cell I.ok.kind hk hc hcell fin) hd
  ·exact wpAny_Name (wpAny_loadName_free I.ok.kind hk hc hcell fin hcd) hd
theorem z2t{i j pos}:PE X (.Constant (.int i) j pos) (tC (.int i)):=fun _ _ _ H _ I h=>wpAny_Constant_int ⟨.int i,H,I.tok _,⟨_,rfl⟩,h⟩
theorem zgH{b j pos}:PE X (.Constant (.bool b) j pos) (tC (.bl b)):=fun _ _ _ H _ I h=>Constant_bool ⟨.bl b,H,I,rfl,h⟩
theorem ze6{j pos}:PE X (.Constant .none j pos) (tC .non):=fun _ _ _ H _ I h=>Constant_none ⟨.non,H,I,rfl,h⟩
theorem z4v{x j pos}:PE X (.Constant (.str x) j pos) (tC (.str x)):=fun _ _ _ H _ I h=>Calls.Constant_str ⟨.str x,H,I.tok _,⟨_,rfl⟩,h⟩
def Gl(X:Cx)(x:Str):Prop:=X.env.kindOf x=some .globalImplicit
theorem z9O{E:Value->Shared->Prop}{pins:List (Addr × Obj)}{s:Shared}{σ:St}{H:Hp}{x:Str}{u:Value}{pos:Pos}{Q:Value->Shared->Prop}(I:Inv X pins σ H s)(hg:Gl X x)(hm:X.mg x=some u)(h:Q u s)
  (hd:(x == ("__debug__":Str))=false:=by decide):wpAny (model X.prog X.w) X.A (eval (.Name x pos) X.env) Q E s :=
 Calls.Name_function_global I.ok.kind hg (Calls.loadGlobal_global (by rw[I.ok.glob];exact I.mod.glob.keeps I.bk) hm h) hd
theorem z3S{E:Value->Shared->Prop}{pins:List (Addr × Obj)}{s:Shared}{σ:St}{H:Hp}{x:Str}{u:Value}{pos:Pos}{Q:Value->Shared->Prop}(I:Inv X pins σ H s)(hg:Gl X x)(hm:X.mg x=none)(hv:bootBuiltins x=some u)(h:Q u s)
  (hn:x≠"__name__":=by decide) (hd:(x == ("__debug__":Str))=false:=by decide):wpAny (model X.prog X.w) X.A (eval (.Name x pos) X.env) Q E s:=by
 obtain⟨mb,h1,h2⟩:=I.mod.blt
 exact Calls.Name_function_global I.ok.kind hg (Calls.loadGlobal_builtin (by rw[I.ok.glob];exact I.mod.glob.keeps I.bk) hm (by rw[I.ok.blt];exact h1.keeps I.bk) ((h2 x hn).trans hv) h) hd
theorem zd2{x:Str}{v:V}{u:Value}{pos:Pos}(hg:Gl X x)(hm:X.mg x=none)(hv:bootBuiltins x=some u)(r:RelV v u)(hn:x≠"__name__":=by decide)(hd:(x == ("__debug__":Str))=false:=by decide):PE X (.Name x pos) (tC v) :=
 fun _ _ _ H _ I h=>z3S I hg hm hv ⟨v,H,I,r,h⟩ hn hd
variable {a b:Expr} {ta tb:TE} {pos:Pos}
variable {tA tB':TT} {rest:List Expr}
def tAnd(t u:TT):TT:=fun σ H Q=>t σ H fun c H1=>if c=true then u σ H1 Q else Q false H1
def tOr(t u:TT):TT:=fun σ H Q=>t σ H fun c H1=>if c=true then Q true H1 else u σ H1 Q
def tNot(t:TT):TT:=fun σ H Q=>t σ H fun c H1=>Q (!c) H1
theorem zd3(ha:PT X a tA):PW X (.BoolOp .And [a] pos) tA:=by
 intro wh pins s σ H Q I h
 refine isTrue_and (thn (ha pins s σ H Q I h) fun c s1 e=>?_)
 cases c with
 | true=>exact isTrue_and_nil e
 | false=>exact e
theorem ze7(ha:PT X a tA):PW X (.BoolOp .Or [a] pos) tA:=by
 intro wh pins s σ H Q I h
 refine isTrue_or (thn (ha pins s σ H Q I h) fun c s1 e=>?_)
 cases c with
 | false=>exact isTrue_or_nil e
 | true=>exact e
theorem ze8(ha:PT X a tA)(hb:PW X (.BoolOp .And (b::rest) pos) tB'):PW X (.BoolOp .And (a::b::rest) pos) (tAnd tA tB'):=by
 intro wh pins s σ H Q I h
 refine isTrue_and (thn (ha pins s σ H _ I h) fun c s1 x__2=>?_)
 obtain⟨H1,I1,q1⟩:=x__2
 cases c with
 | true=>exact hb wh pins s1 σ H1 Q I1 q1
 | false=>exact⟨H1,I1,q1⟩
theorem zgI(ha:PT X a tA)(hb:PW X (.BoolOp .Or (b::rest) pos) tB'):PW X (.BoolOp .Or (a::b::rest) pos) (tOr tA tB'):=by
 intro wh pins s σ H Q I h
 refine isTrue_or (thn (ha pins s σ H _ I h) fun c s1 x__3=>?_)
 obtain⟨H1,I1,q1⟩:=x__3
 cases c with
 | true=>exact⟨H1,I1,q1⟩
 | false=>exact hb wh pins s1 σ H1 Q I1 q1
theorem ze9(ha:PT X a tA):PT X (.UnaryOp .Not a pos) (tNot tA):=by
 intro pins s σ H Q I h
 exact isTrue_not (thn (ha pins s σ H (fun c H1=>Q (!c) H1) I h) fun c s1 x__4=>(by obtain⟨H1,I1,q1⟩:=x__4;exact⟨H1,I1,q1⟩))
def tAndV(ta tb:TE):TE:=fun σ H Q=>ta σ H fun x H1=>∃ c,x=.bl c/\if c=true then tb σ H1 Q else Q (.bl false) H1
def tNotV(ta:TE):TE:=fun σ H Q=>ta σ H fun x H1=>∃ c,x=.bl c/\Q (.bl (!c)) H1
theorem zea{op}{t:TE}(h:PE X a t):PE X (.BoolOp op [a] pos) t:=fun pins s σ H Q I hw=>BoolOp_one (h pins s σ H Q I hw)
theorem zeb(ha:PE X a ta)(hb:PE X (.BoolOp .And (b::rest) pos) tb):PE X (.BoolOp .And (a::b::rest) pos) (tAndV ta tb):=by
 intro pins s σ H Q I h
 refine BoolOp_and (thn (ha pins s σ H _ I h) fun v s1 x__5=>?_)
 obtain⟨x,H1,I1,r1,q1⟩:=x__5
 obtain⟨c,rfl,q1⟩:=q1
 cases r1
 refine wpAny_truthy_bool ?_
 cases c with
 | true=>exact hb pins s1 σ H1 Q I1 q1
 | false=>exact⟨.bl false,H1,I1,rfl,q1⟩
theorem zec(ha:PE X a ta):PE X (.UnaryOp .Not a pos) (tNotV ta):=by
 intro pins s σ H Q I h
 refine UnaryOp_ (thn (ha pins s σ H _ I h) fun v s1 x__6=>?_)
 obtain⟨x,H1,I1,r1,q1⟩:=x__6
 obtain⟨c,rfl,q1⟩:=q1
 cases r1
 exact not_of (wpAny_truthy_bool ⟨.bl (!c),H1,I1,rfl,q1⟩)
def tIf(t:TT)(ta tb:TE):TE:=fun σ H Q=>t σ H fun c H1=>if c=true then ta σ H1 Q else tb σ H1 Q
theorem zbo{c:Expr}(hc:PT X c tA)(ha:PE X a ta)(hb:PE X b tb):PE X (.IfExp c a b pos) (tIf tA ta tb):=by
 intro pins s σ H Q I h
 refine wpAny_IfExp (thn (hc pins s σ H _ I h) fun d s1 x__7=>?_)
 obtain⟨H1,I1,q1⟩:=x__7
 cases d with
 | true=>exact ha pins s1 σ H1 Q I1 q1
 | false=>exact hb pins s1 σ H1 Q I1 q1
end
end L2
namespace L2
open PySem PySem.Spec PyProof.Rows
def SqL(K:PySem.W.Frag)(H:Hp)(a:Addr)(xs:List V):Prop :=
 Rd H a (.lst xs) \/
  ∃ (o:Obj) (its:Array Value) (n:Nat),K.lookup a=some o/\o.cls=.type "list"/\o.dict=none/\o.data=.seq its n/\its.size<=sizeLine/\Vals xs its.toList
def SqT(K:PySem.W.Frag)(H:Hp)(a:Addr)(xs:List V):Prop :=
 Rd H a (.tup xs) \/
  ∃ (o:Obj) (its:Array Value) (n:Nat),K.lookup a=some o/\o.cls=.type "tuple"/\o.data=.seq its n/\its.size<=sizeLine/\Vals xs its.toList
def absV:Value->Option V
 | .none=>some .non
 | .bool b=>some (.bl b)
 | .int i _=>some (.int i)
 | .str x _=>some (.str x)
 | .bytes b _=>some (.byt b)
 | .float b _=>some (.flt b)
 | .ref a=>some (.ref a)
 | .type n=>some (.ty n)
 | _=>none
theorem RelV.abs{x:V}{u:Value}(r:RelV x u):absV u=some x:=by
 cases x with
 | non=>cases r;rfl
 | bl _=>cases r;rfl
 | int _=>obtain⟨t,rfl⟩:=r;rfl
 | str _=>obtain⟨t,rfl⟩:=r;rfl
 | byt _=>obtain⟨t,rfl⟩:=r;rfl
 | flt _=>obtain⟨t,rfl⟩:=r;rfl
 | ref _=>cases r;rfl
 | ty _=>cases r;rfl
theorem RelV.inj{x y:V}{u:Value}(r:RelV x u)(q:RelV y u):x=y:=Option.some.inj (r.abs.symm.trans q.abs)
theorem Vals.inj{xs ys:List V}{us:List Value}(h:Vals xs us)(g:Vals ys us):xs=ys:=by
 induction h generalizing ys with
 | nil=>cases g;rfl
 | cons r t ih =>
  cases g with
  | cons r' t'=>rw[r.inj r',ih t']
section
variable {X:Cx} {pins:List (Addr × Obj)} {σ:St} {H:Hp} {s:Shared} {a:Addr} {xs ys:List V}
theorem SqL.of{K:PySem.W.Frag}(h:H a=some (.lst xs)):SqL K H a xs:=.inl (.inl h)
theorem SqT.of{K:PySem.W.Frag}(h:H a=some (.tup xs)):SqT K H a xs:=.inl (.inl h)
theorem Inv.list(I:Inv X pins σ H s)(h:SqL X.K H a xs):∃ its:List Value,Vals xs its/\PlainL s.heap a its.toArray/\xs.length<=sizeLine:=by
 rcases h with h | ⟨o,its,n,hk,hc,hd,hs,hz,r⟩
 ·obtain⟨z,its,n,r,e⟩:=h.ok I.hok
  exact⟨its,r,⟨_,n,e,rfl,rfl,rfl⟩,z⟩
 ·refine⟨its.toList,r,⟨o,n,I.kIn a o hk,hc,hd,by simpa using hs⟩,?_⟩
  have e:=r.length
  simp only[Array.length_toList]at e
  omega
theorem Inv.tuple(I:Inv X pins σ H s)(h:SqT X.K H a xs):∃ its:List Value,Vals xs its/\IsTup s.heap a its.toArray/\xs.length<=sizeLine:=by
 rcases h with h | ⟨o,its,n,hk,hc,hs,hz,r⟩
 ·obtain⟨z,its,r,p⟩:=h.ok I.hok
  exact⟨its,r,p,z⟩
 ·refine⟨its.toList,r,⟨o,I.kIn a o hk,hc,n,by simpa using hs⟩,?_⟩
  have e:=r.length
  simp only[Array.length_toList]at e
  omega
theorem Inv.list_inj(I:Inv X pins σ H s)(h:SqL X.K H a xs)(h':SqL X.K H a ys):xs=ys:=by
 obtain⟨its,r,⟨o,n,e,_,_,d⟩,_⟩:=I.list h
 obtain⟨its',r',⟨o',n',e',_,_,d'⟩,_⟩:=I.list h'
 rw[e]at e';cases e'
 rw[d]at d'
 injection d' with d1 _
 have:its=its':=by simpa using congrArg Array.toList d1
 subst this
 exact r.inj r'
theorem Inv.tuple_inj(I:Inv X pins σ H s)(h:SqT X.K H a xs)(h':SqT X.K H a ys):xs=ys:=by
 obtain⟨its,r,⟨o,e,_,n,d⟩,_⟩:=I.tuple h
 obtain⟨its',r',⟨o',e',_,n',d'⟩,_⟩:=I.tuple h'
 rw[e]at e';cases e'
 rw[d]at d'
 injection d' with d1 _
 have:its=its':=by simpa using congrArg Array.toList d1
 subst this
 exact r.inj r'
end
abbrev Cx.wish(X:Cx)(E:Value->Shared->Prop):Cx:={X with xe:=E}
abbrev Cx.nox(X:Cx):Cx:=X.wish fun _ _=>False
theorem Cx.Ok.wish{X:Cx}(ok:X.Ok)(E:Value->Shared->Prop):(X.wish E).Ok :=
 ⟨ok.mod,ok.kind,ok.glob,ok.blt,ok.above,ok.inj,ok.has,ok.cab,ok.hd,ok.frames,ok.stk,ok.exf,ok.bs,ok.bsz,ok.noex,ok.exfs,ok.funs,ok.frf⟩
theorem Cx.Ok.unwish{X:Cx}{E:Value->Shared->Prop}(ok:(X.wish E).Ok):X.Ok :=
 ⟨ok.mod,ok.kind,ok.glob,ok.blt,ok.above,ok.inj,ok.has,ok.cab,ok.hd,ok.frames,ok.stk,ok.exf,ok.bs,ok.bsz,ok.noex,ok.exfs,ok.funs,ok.frf⟩
section
variable {X:Cx} {pins:List (Addr × Obj)} {σ:St} {H:Hp} {s:Shared} {E:Value->Shared->Prop}
theorem Inv.wish(I:Inv X pins σ H s)(E:Value->Shared->Prop):Inv (X.wish E) pins σ H s:=⟨I.ok.wish E,I.os,I.bare,I.base,I.loc,I.cell,I.free,I.freeC,I.pin,I.hok,I.len⟩
theorem Inv.unwish(I:Inv (X.wish E) pins σ H s):Inv X pins σ H s:=⟨I.ok.unwish,I.os,I.bare,I.base,I.loc,I.cell,I.free,I.freeC,I.pin,I.hok,I.len⟩
theorem SP.unwish{D:Ends}{f:Flow}{s':Shared}(h:SP (X.wish E) pins D f s'):SP X pins D f s':=by
 cases f with
 | next=>obtain⟨σ',H',I,q⟩:=h;exact⟨σ',H',I.unwish,q⟩
 | brk=>obtain⟨σ',H',I,q⟩:=h;exact⟨σ',H',I.unwish,q⟩
 | cont=>obtain⟨σ',H',I,q⟩:=h;exact⟨σ',H',I.unwish,q⟩
 | ret u=>obtain⟨v,σ',H',I,r,q⟩:=h;exact⟨v,σ',H',I.unwish,r,q⟩
theorem PSs.nox{st:List Stmt}{t:TS}(h:PSs X.nox st t):PSs X st t:=fun pins s σ H D I hw =>
 wpAny_mono (h pins s σ H D (I.wish _) hw) (fun _ _ q=>q.unwish) fun _ _ z=>False.elim z
end
section
variable {X:Cx} {st:Stmt} {rest:List Stmt} {t u:TS} {e:Expr} {te:TE} {pos:Pos}
def tNext:TS:=fun D σ H=>D.nx σ H
def tSeq(t u:TS):TS:=fun D σ H=>t {D with nx:=u D} σ H
theorem z54:PSs X [] tNext:=fun _ _ σ H _ I h=>wpAny_execs_nil ⟨σ,H,I,h⟩
theorem zK(h1:PS X st t)(h2:PSs X rest u):PSs X (st::rest) (tSeq t u):=by
 intro pins s σ H D I h
 refine wpAny_execs_cons (thn (h1 pins s σ H {D with nx:=u D} I h) fun f s1 q=>?_)
 cases f with
 | next =>
  obtain⟨σ',H',I',q⟩:=q
  exact h2 pins s1 σ' H' D I' q
 | ret v=>exact q
 | brk=>exact q
 | cont=>exact q
theorem z2m(h1:PS X st t):PSs X [st] t:=by
 intro pins s σ H D I h
 refine wpAny_execs_cons (thn (h1 pins s σ H D I h) fun f s1 q=>?_)
 cases f with
 | next=>exact wpAny_execs_nil q
 | ret v=>exact q
 | brk=>exact q
 | cont=>exact q
theorem Inv.quiet{pins:List (Addr × Obj)}{σ:St}{H:Hp}{s:Shared}(I:Inv X pins σ H s):interactive X.env=false:=by simp[interactive,I.ok.kind]
def tDrop(te:TE):TS:=fun D σ H=>te σ H fun _ H1=>D.nx σ H1
theorem z6d(he:PE X e te)(hs:swapsWith e none pos.line X.env=pure false:=by rfl):PS X (.Expr e pos) (tDrop te):=by
 intro pins s σ H D I h
 exact wpAny_Expr_any (thn (he pins s σ H _ I h) fun v s1 x__8=>(by obtain⟨x,H1,I1,r1,q1⟩:=x__8;exact⟨σ,H1,I1,q1⟩)) I.quiet hs
def tRet(te:TE):TS:=fun D σ H=>te σ H D.rt
theorem z8t(he:PE X e te):PS X (.Return (some e) pos) (tRet te):=by
 intro pins s σ H D I h
 exact wpAny_Return_some (thn (he pins s σ H _ I h) fun v s1 x__9=>(by obtain⟨x,H1,I1,r1,q1⟩:=x__9;exact⟨x,σ,H1,I1,r1,q1⟩))
def tRetN:TS:=fun D _ H=>D.rt .non H
theorem z9P:PS X (.Return none pos) tRetN:=fun _ _ σ H _ I h=>wpAny_Return_none ⟨.non,σ,H,I,rfl,h⟩
def tIfS(c:TT)(t u:TS):TS:=fun D σ H=>c σ H fun b H1=>if b=true then t D σ H1 else u D σ H1
theorem z9Q{c:Expr}{a b:List Stmt}{tc:TT}(hc:PT X c tc)(ha:PSs X a t)(hb:PSs X b u):PS X (.If c a b pos) (tIfS tc t u):=by
 intro pins s σ H D I h
 refine wpAny_If (thn (hc pins s σ H _ I h) fun d s1 zgW=>?_)
 obtain⟨H1,I1,q1⟩:=zgW
 cases d with
 | true=>exact ha pins s1 σ H1 D I1 q1
 | false=>exact hb pins s1 σ H1 D I1 q1
end
abbrev TG:=V->St->Hp->(St->Hp->Prop)->Prop
abbrev TGs:=List V->St->Hp->(St->Hp->Prop)->Prop
def PG(X:Cx)(target:Expr)(t:TG):Prop :=
 ∀ (pins:List (Addr × Obj)) (s:Shared) (σ:St) (H:Hp) (v:V) (u:Value) (Q:St->Hp->Prop),Inv X pins σ H s->RelV v u->t v σ H Q ->
  wpAny (model X.prog X.w) X.A (assign target X.env u) (fun _ s'=>NP X pins Q s') X.xe s
def PGs(X:Cx)(ts:List Expr)(t:TGs):Prop :=
 ∀ (pins:List (Addr × Obj)) (s:Shared) (σ:St) (H:Hp) (vs:List V) (us:List Value) (Q:St->Hp->Prop),Inv X pins σ H s->Vals vs us->t vs σ H Q ->
  wpAny (model X.prog X.w) X.A (assignInOrder ((assignEach ts X.env).map (·.2)) us) (fun _ s'=>NP X pins Q s') X.xe s
abbrev TSet:=V->V->V->Hp->(Hp->Prop)->Prop
def PSet(X:Cx)(t:TSet):Prop :=
 ∀ (pins:List (Addr × Obj)) (s:Shared) (σ:St) (H:Hp) (o i v:V) (ov iv u:Value) (Q:Hp->Prop),Inv X pins σ H s->RelV o ov->RelV i iv->RelV v u->t o i v H Q ->
  wpAny (model X.prog X.w) X.A (setItem ov iv u) (fun _ s'=>∃ H',Inv X pins σ H' s'/\Q H') X.xe s
abbrev TIp:=V->V->Hp->VK->Prop
def PIp(X:Cx)(op:Operator)(t:TIp):Prop :=
 ∀ (pins:List (Addr × Obj)) (s:Shared) (σ:St) (H:Hp) (x y:V) (v u:Value) (Q:VK),Inv X pins σ H s->RelV x v->RelV y u->t x y H Q ->
  wpAny (model X.prog X.w) X.A (inplaceOp op v u) (EP X pins σ Q) X.xe s
section
variable {X:Cx} {pos:Pos}
def gName(i:Nat):TG:=fun v σ H Q=>Q (σ.set i (some v)) H
theorem z6e{i:Nat}{x:Str}(hN:X.N.Nodup)(hi:X.N[i]?=some x)(hx:Loc X.env.scope x)(hf:X.fn x=true\/X.env.scope.names.lookup x=some .local:=by first | exact .inl rfl | exact .inr rfl | assumption):PG X (.Name x pos) (gName i):=by
 intro pins s σ H v u Q I r h
 exact wpAny_assign_Name (z29 I hN hi hx r (fun s' I'=>⟨_,H,I',h⟩) hf)
def gNil:TGs:=fun vs σ H Q=>vs=[]/\Q σ H
def gCons(t:TG)(u:TGs):TGs:=fun vs σ H Q=>∃ v r,vs=v::r/\t v σ H fun σ' H'=>u r σ' H' Q
theorem z7I:PGs X [] gNil:=by
 intro pins s σ H vs us Q I r h
 obtain⟨e,h⟩:=h
 subst e
 cases r
 exact assignInOrder_nil ⟨σ,H,I,h⟩
theorem z3j{e:Expr}{es:List Expr}{t:TG}{u:TGs}(h1:PG X e t)(h2:PGs X es u)
  (hs:(assignEach (e::es) X.env).map (·.2)=assign e X.env::(assignEach es X.env).map (·.2):=by rfl):PGs X (e::es) (gCons t u):=by
 intro pins s σ H vs us Q I r h
 obtain⟨v,vr,e1,h⟩:=h
 subst e1
 cases r with
 | cons r rr =>
  rw[hs]
  refine assignInOrder_cons (thn (h1 pins s σ H _ _ _ I r h) fun _ s1 zgX=>?_)
  obtain⟨σ1,H1,I1,q1⟩:=zgX
  exact h2 pins s1 σ1 H1 _ _ Q I1 rr q1
def gTup(K:PySem.W.Frag)(n:Nat)(t:TGs):TG:=fun v σ H Q=>∃ a xs,v=.ref a/\SqT K H a xs/\xs.length=n/\t xs σ H Q
theorem z9R{es:List Expr}{k:Nat}{t:TGs}{n:Nat}(hc:X.calm=true)(h:PGs X es t)
  (hn:(assignEach es X.env).length=n:=by rfl) (hst:(assignEach es X.env).findIdx? (·.1)=none:=by rfl):PG X (.Tuple es k pos) (gTup X.K n t):=by
 intro pins s σ H v u Q I r hw
 obtain⟨a,xs,e1,hq,hl,hw⟩:=hw
 subst e1
 cases r
 obtain⟨its,rv,ht,hz⟩:=I.tuple hq
 refine assign_Tuple_tuple (I.ok.hd hc) ht (by simp[hn,<- hl,rv.length]) hst fun h' hx=>?_
 have I1:Inv X pins σ H {s with heap:=h'}:=I.kept (t':=s.toks) fun b o e=>hx b o (Nat.ne_of_lt (Heap.lt_size e)) e
 exact h pins _ σ H xs _ Q I1 (by simpa using rv) hw
def gSub(to ti:TE)(t:TSet):TG:=fun v σ H Q=>to σ H fun o H1=>ti σ H1 fun i H2=>t o i v H2 fun H3=>Q σ H3
theorem zcw{o i:Expr}{to ti:TE}{t:TSet}(ho:PE X o to)(hi:PE X i ti)(hs:PSet X t)
  (ha:∀ v,assign (.Subscript o i pos) X.env v=(do
   let ov <- holding [v] (eval o X.env)
   let iv <- holding [v,ov] (eval i X.env)
   standAt pos
   holding [v,ov,iv] (setItem ov iv v)
   release [v,ov,iv] []):=by intro _;rfl):PG X (.Subscript o i pos) (gSub to ti t):=by
 intro pins s σ H v u Q I r h
 rw[ha]
 refine wpAny_bind (wpAny_holding (thn (ho pins s σ H _ I h) fun ov s1 zgY=>?_))
 obtain⟨x,H1,I1,r1,q1⟩:=zgY
 refine wpAny_bind (wpAny_holding (thn (hi pins s1 σ H1 _ I1 q1) fun iv s2 zgZ=>?_))
 obtain⟨y,H2,I2,r2,q2⟩:=zgZ
 refine wpAny_bind (wpAny_standAt (wpAny_bind (wpAny_holding (thn (hs pins s2 σ H2 x y v ov iv u _ I2 r1 r2 r q2) fun _ s3 zh0=>?_))))
 obtain⟨H3,I3,q3⟩:=zh0
 exact wpAny_release ⟨σ,H3,I3,q3⟩
def tAsg(te:TE)(g:TG):TS:=fun D σ H=>te σ H fun x H1=>g x σ H1 D.nx
theorem z8u{tg e:Expr}{te:TE}{g:TG}(he:PE X e te)(hg:PG X tg g)(hs:swapsWithSole [tg] e pos.line X.env=pure false:=by rfl)(hw:swappedStores [tg] e X.env=pure none:=by rfl)
  (h1:(assignEach [tg] X.env).map (·.2)=[assign tg X.env]:=by rfl):PS X (.Assign [tg] e pos) (tAsg te g):=by
 intro pins s σ H D I h
 refine wpAny_Assign_stores (thn (he pins s σ H _ I h) fun v s1 zh1=>?_) hs hw
 obtain⟨x,H1,I1,r1,q1⟩:=zh1
 rw[h1]
 exact thn (hg pins s1 σ H1 x v _ I1 r1 q1) fun _ s2 q=>q
theorem z2u{i:Nat}{x:Str}{e:Expr}{te:TE}{pos':Pos}(hN:X.N.Nodup)(hi:X.N[i]?=some x)(hx:Loc X.env.scope x)(he:PE X e te)(hs:swapsWith e (some (.Name x pos')) pos.line X.env=pure false:=by rfl)(hf:X.fn x=true\/X.env.scope.names.lookup x=some .local:=by first | exact .inl rfl | exact .inr rfl | assumption) :
  PS X (.Assign [.Name x pos'] e pos) (tAsg te (gName i)):=by
 intro pins s σ H D I h
 refine wpAny_Assign_Name (thn (he pins s σ H _ I h) fun v s1 zh2=>?_) hs
 obtain⟨y,H1,I1,r1,q1⟩:=zh2
 exact z29 I1 hN hi hx r1 (fun s2 I2=>⟨_,H1,I2,q1⟩) hf
def tPar(i j:Nat)(ta:TA):TS:=fun D σ H=>ta σ H fun vs H1=>∃ v w,vs=[v,w]/\D.nx ((σ.set i (some v)).set j (some w)) H1
theorem zed{i j:Nat}{x y:Str}{a b:Expr}{ta:TA}{px py pt:Pos}{kt k2 pt2}(hc:X.calm=true)(hN:X.N.Nodup)(hi:X.N[i]?=some x)(hj:X.N[j]?=some y)(hij:i≠j)
  (hx:X.env.scope.names.lookup x=some .local) (hy:X.env.scope.names.lookup y=some .local) (ha:PA X [a,b] ta)
  (hw:swappedStores [.Tuple [.Name x px,.Name y py] kt pt] (.Tuple [a,b] k2 pt2) X.env=pure (some [x,y]))
  (hs:swapsWithSole [.Tuple [.Name x px,.Name y py] kt pt] (.Tuple [a,b] k2 pt2) pos.line X.env=pure false:=by rfl) :
  PS X (.Assign [.Tuple [.Name x px,.Name y py] kt pt] (.Tuple [a,b] k2 pt2) pos) (tPar i j ta):=by
 intro pins s σ H D I h
 rw[exec_Assign_arm]
 refine wpAny_bind (wpAny_standAt ?_)
 rw[hs]
 refine wpAny_bind (wpAny_pure ?_)
 rw[if_neg (by decide)]
 refine wpAny_bind (Tuple_ (thn (ha _ pins s σ H _ I h) fun us s1 zh3=>?_))
 obtain⟨vs,H1,I1,r1,q1⟩:=zh3
 obtain⟨v,w,e1,q1⟩:=q1
 subst e1
 obtain⟨u1,u2,rfl,rv,rw'⟩:∃ u1 u2,us=[u1,u2]/\RelV v u1/\RelV w u2:=by
  cases r1 with
  | cons p q =>
   cases q with
   | cons p' q' =>
    cases q'
    exact⟨_,_,rfl,p,p'⟩
 refine wpAny_newObj_type ?_ (by show 2<=sizeLine;decide)
 have I2:Inv X pins σ H1 {s1 with heap:=s1.heap.push {cls:=.type "tuple",data:=.seq [u1,u2].toArray}}:=I1.kept (t':=s1.toks) fun b o e=>Heap.get?_push_of_some _ e
 rw[hw]
 refine wpAny_bind (wpAny_pure ?_)
 show wpAny (model X.prog X.w) X.A (do rule "assign.swapped-stores";let items <- unpackItems (.ref s1.heap.objs.size) 2 none;assignInOrder [fun v=>bindName X.env y v,fun v=>bindName X.env x v] items.reverse;pure Flow.next) _ _ _
 refine wpAny_bind (wpAny_rule (wpAny_bind (unpackItems_tuple (items:=#[u1,u2]) (I.ok.hd hc) (IsTup.new s1.heap _) fun h' hx'=>?_)))
 have I3:=I2.kept (h':=h') (t':=s1.toks) fun b o e=>hx' b o (Nat.ne_of_lt (Heap.lt_size e)) e
 show wpAny _ _ (assignInOrder [fun v=>bindName X.env y v,fun v=>bindName X.env x v] [u2,u1] >>= fun _=>pure Flow.next) _ _ _
 refine wpAny_bind (assignInOrder_cons (wpAny_bindName (z29 I3 hN hj (.inl hy) rw' (fun s2 I4=>?_) (.inr hy))))
 refine assignInOrder_cons (wpAny_bindName (z29 I4 hN hi (.inl hx) rv (fun s3 I5=>assignInOrder_nil (wpAny_pure ?_)) (.inr hx)))
 rw[List.set_comm _ _ (Ne.symm hij)]at I5
 exact⟨_,H1,I5,q1⟩
def tAug(i:Nat)(te:TE)(ti:TIp):TS:=fun D σ H=>∃ x,σ[i]?=some (some x)/\te σ H fun y H1=>ti x y H1 fun z H2=>D.nx (σ.set i (some z)) H2
theorem zee{i:Nat}{x:Str}{e:Expr}{te:TE}{op:Operator}{ti:TIp}{pos':Pos}(hN:X.N.Nodup)(hi:X.N[i]?=some x)(hx:Loc X.env.scope x)(he:PE X e te)(ho:PIp X op ti)(hf:X.fn x=true\/X.env.scope.names.lookup x=some .local:=by first | exact .inl rfl | exact .inr rfl | assumption) :
  PS X (.AugAssign (.Name x pos') op e pos) (tAug i te ti):=by
 intro pins s σ H D I h
 obtain⟨v,e1,h⟩:=h
 obtain⟨m,hn,hl⟩:=I.loc
 have vis:Vis X.env.scope x:=by rcases hx with k | k;exact .inl k;exact .inr (.inl k)
 obtain⟨u,r,l⟩:=hl i x v hi e1 vis
 refine wpAny_AugAssign_Name ?_
 have go:wpAny (model X.prog X.w) X.A (eval e X.env) (fun w s₂=>wpAny (model X.prog X.w) X.A (inplaceOp op u w) (fun r s₃=>wpAny (model X.prog X.w) X.A (storeName X.env x r) (fun _=>SP X pins D .next) X.xe s₃) X.xe s₂) X.xe s:=by
  refine thn (he pins s σ H _ I h) fun w s1 zh4=>?_
  obtain⟨y,H1,I1,r1,q1⟩:=zh4
  refine thn (ho pins s1 σ H1 v y u w _ I1 r r1 q1) fun z s2 zh5=>?_
  obtain⟨zv,H2,I2,r2,q2⟩:=zh5
  exact z29 I2 hN hi hx r2 (fun s3 I3=>⟨_,H2,I3,q2⟩) hf
 rcases l with ⟨hk,hm⟩ | ⟨hk,c,hc,hcell⟩
 ·exact wpAny_loadName_local I.ok.kind hk hn hm go
 ·rcases hk with hk | hk
  ·exact wpAny_loadName_cell I.ok.kind hk hc hcell go
  ·rcases hx with k | k
   ·have:X.env.scope.names.lookup x=some .free:=hk
    rw[k]at this;cases this
   ·have:X.env.scope.names.lookup x=some .free:=hk
    rw[k]at this;cases this
end
section
variable {X:Cx} {pos:Pos}
def tWhile(c:TT)(tb:TS):TS:=fun D σ H=>∃ W:Nat->St->Hp->Prop,(∃ m,W m σ H)/\∀ m σ H,W m σ H ->
 c σ H fun b H1=>if b=true then ∃ N:St->Hp->Prop,(∀ σ' H',N σ' H'->∃ m',m' < m/\W m' σ' H')/\tb {D with nx:=N,ct:=N,bk:=D.nx} σ H1 else D.nx σ H1
theorem zbp{c:Expr}{body:List Stmt}{tc:TT}{tb:TS}(hp:PassesOwn (model X.prog X.w) X.A X.env X.xe)(hc:PT X c tc)(hb:PSs X body tb):PS X (.While c body [] pos) (tWhile tc tb):=by
 intro pins s σ H D I h
 obtain⟨W,⟨m0,w0⟩,turn⟩:=h
 refine wpAny_While (codeAny_whileLoop (fun n s'=>NP X pins (W n) s') ?_ m0 ⟨σ,H,I,w0⟩)
 rintro n s1 ⟨σ1,H1,I1,w1⟩
 refine wpAny_passesOwn hp (thn (hc pins s1 σ1 H1 _ I1 (turn n σ1 H1 w1)) fun b s2 zh6=>?_)
 obtain⟨H2,I2,q2⟩:=zh6
 cases b with
 | true =>
  obtain⟨N,hN,q2⟩:=q2
  rw[if_pos rfl]
  refine wpAny_passesOwn hp (thn (hb pins s2 σ1 H2 _ I2 q2) fun f s3 q3=>?_)
  cases f with
  | next =>
   obtain⟨σ3,H3,I3,n3⟩:=q3
   obtain⟨m',hm,w3⟩:=hN σ3 H3 n3
   exact⟨m',hm,σ3,H3,I3,w3⟩
  | cont =>
   obtain⟨σ3,H3,I3,n3⟩:=q3
   obtain⟨m',hm,w3⟩:=hN σ3 H3 n3
   exact⟨m',hm,σ3,H3,I3,w3⟩
  | brk=>exact q3
  | ret v=>exact q3
 | false =>
  rw[if_neg Bool.false_ne_true]
  exact wpAny_execs_nil ⟨σ1,H2,I2,q2⟩
end
structure It where
 go:Nat->Hp->Prop
 yld:Nat->Hp->V->Hp->Prop
 stop:Nat->Hp->Prop
def FpOk(X:Cx)(pins:List (Addr × Obj))(H:Hp)(b:Addr):Prop :=
 H b=none/\b≠X.env.locals/\b ∉ X.fs/\(b∈X.ex\/X.s₀.heap.objs.size<=b)/\(∀ x c,X.env.cells.lookup x=some c->c≠b)/\∀ p∈X.pn++pins,p.1≠b
theorem Inv.fpOk{X:Cx}{pins:List (Addr × Obj)}{σ:St}{H H':Hp}{s:Shared}{b:Addr}(I:Inv X pins σ H s)(hb:s.heap.objs.size<=b)(hn:H' b=none):FpOk X pins H' b:=by
 refine⟨hn,Nat.ne_of_gt (Nat.lt_of_lt_of_le I.lt hb),I.nofs hb,.inr (Nat.le_trans I.sz hb),fun x c e z=>?_,fun p hp z=>?_⟩
 ·obtain⟨v,q⟩:=I.cell x c e
  exact absurd (Nat.lt_of_lt_of_le q.lt (by rw[z];exact hb)) (Nat.lt_irrefl _)
 ·exact absurd (Nat.lt_of_lt_of_le (Heap.lt_size (I.pin p hp).1) (by rw[z];exact hb)) (Nat.lt_irrefl _)
inductive Yl(X:Cx)(pins:List (Addr × Obj))(σ:St)(J:It)(i:Nat)(H:Hp)(fp:List Addr)(tn:Nat->Heap->Prop)(u:Value)(s2:Shared):Prop
 | mk (x:V) (H':Hp) (h0:Inv X pins σ H' s2) (h1:RelV x u) (h2:J.yld i H x H') (h3:tn (i + 1) s2.heap) (h4:∀ b∈fp,H' b=none)
inductive ForI(X:Cx)(pins:List (Addr × Obj))(fp:List Addr)(tn:Nat->Heap->Prop)(W:Nat->Nat->St->Hp->Prop)(n:Nat)(s':Shared):Prop
 | mk (i:Nat) (σ':St) (H':Hp) (h0:Inv X pins σ' H' s') (h1:tn i s'.heap) (h2:∀ b∈fp,H' b=none) (h3:W i n σ' H')
structure Turn(P:Program)(w:World)(K:PySem.W.Frag)(tg:Expr)(J:It)(fp:List Addr)(it:Addr)(tn:Nat->Heap->Prop):Prop where
 mem:it∈fp
 obj:∀ i h,tn i h->∀ b∈fp,∃ o,h.get? b=some o/\∀ v,o.data≠.cell v
 keep:∀ i h h',tn i h->(∀ b∈fp,∀ o,h.get? b=some o->h'.get? b=some o)->tn i h'
 item:∀ (X:Cx),X.prog=P->X.w=w->X.K=K->X.calm=true->∀ (i:Nat) (pins:List (Addr × Obj)) (s:Shared) (σ:St) (H:Hp) (E:Value->Shared->Prop),Inv X pins σ H s->(∀ b∈fp,FpOk X pins H b)->tn i s.heap->J.go i H ->
  wpAny (model P w) X.A (pyNext (.ref it)) (fun r s1=>∃ u,r=some u /\
   wpAny (model P w) X.A (letOwnedTupleGo tg (.ref it) u) (fun _ s2=>Yl X pins σ J i H fp tn u s2) E s1) E s
 done:∀ (X:Cx),X.prog=P->X.w=w->X.K=K->X.calm=true->∀ (i:Nat) (pins:List (Addr × Obj)) (s:Shared) (σ:St) (H:Hp) (E:Value->Shared->Prop),Inv X pins σ H s->(∀ b∈fp,FpOk X pins H b)->tn i s.heap->J.stop i H ->
  wpAny (model P w) X.A (pyNext (.ref it)) (fun r s1=>r=none/\Inv X pins σ H s1) E s
 self:∀ (A:Around) (i:Nat) (s:Shared) (Q:Value->Shared->Prop) (E:Value->Shared->Prop),tn i s.heap->Q (.ref it) s->wpAny (model P w) A (pyIter (.ref it)) Q E s
abbrev TI:=St->Hp->(It->Hp->Prop)->Prop
inductive PIE(X:Cx)(pins:List (Addr × Obj))(σ:St)(tg:Expr)(R:It->Hp->Prop)(itv:Value)(s2:Shared):Prop
 | mk (it:Addr) (fp:List Addr) (tn:Nat->Heap->Prop) (J:It) (H':Hp) (h0:itv=.ref it) (h1:Inv X pins σ H' s2) (h2:Turn X.prog X.w X.K tg J fp it tn) (h3:tn 0 s2.heap) (h4:(∀ b∈fp,FpOk X pins H' b)) (h5:R J H')
def PI(X:Cx)(tg iter:Expr)(wi:TI):Prop :=
 ∀ (pins:List (Addr × Obj)) (s:Shared) (σ:St) (H:Hp) (R:It->Hp->Prop),Inv X pins σ H s->wi σ H R ->
  wpAny (model X.prog X.w) X.A (eval iter X.env) (fun v s1=>wpAny (model X.prog X.w) X.A (pyIter v) (PIE X pins σ tg R) X.xe s1) X.xe s
theorem zd4{M:Model}{A:Around}{E:Value->Shared->Prop}{s:Shared}{tg:Expr}{it:Addr}{u:Value}{o:Obj}{n:String}{vs:Array Value}{Q:Unit->Shared->Prop}(ho:s.heap.get? it=some o)(hc:o.cls=.type n)(hd:o.data=.fields vs)
    (hn:["enumerate","zip","dict_itemiterator","dict_reverseitemiterator","odict_iterator","itertools.zip_longest","itertools.pairwise"].contains n=false) (hQ:Q () s):wpAny M A (letOwnedTupleGo tg (.ref it) u) Q E s:=by
  unfold letOwnedTupleGo
  cases tg <;> first
    | exact wpAny_pure hQ
    | (cases u <;> first
        | exact wpAny_pure hQ
        | (refine wpAny_bind (wpAny_load ho ?_)
           rw[hc,hd]
           show wpAny M A (if (["enumerate","zip","dict_itemiterator","dict_reverseitemiterator","odict_iterator","itertools.zip_longest","itertools.pairwise"].contains n && vs[0]? == some (rawInt _))=true then _ else _) Q E s
           rw[if_neg (by intro h;rw[hn,Bool.false_and]at h;cases h)]
           exact wpAny_pure hQ))
def Itl(K:PySem.W.Frag)(a:Addr):It :=
 ⟨fun i H=>∃ xs x,SqL K H a xs/\xs[i]?=some x,fun i H x H'=>H'=H/\∀ xs,SqL K H a xs->xs[i]?=some x,fun i H=>∃ xs,SqL K H a xs/\xs.length<=i⟩
def Itt(K:PySem.W.Frag)(a:Addr):It :=
 ⟨fun i H=>∃ xs x,SqT K H a xs/\xs[i]?=some x,fun i H x H'=>H'=H/\∀ xs,SqT K H a xs->xs[i]?=some x,fun i H=>∃ xs,SqT K H a xs/\xs.length<=i⟩
def Itr(lo:Int)(n:Nat):It:=⟨fun i _=>i < n,fun i H x H'=>H'=H/\x=.int (lo + i),fun i _=>n<=i⟩
theorem z9S{P:Program}{w:World}{K:PySem.W.Frag}{tg:Expr}(a it:Addr):Turn P w K tg (Itl K a) [it] it (fun i h=>h.IsListIter it a i) where
 mem:=by simp
 obj:=fun i h st b hb=>by
  have e:b=it:=by simpa using hb
  subst e
  obtain⟨o,e,c,d⟩:=st
  exact⟨o,e,fun v z=>by rw[d]at z;cases z⟩
 keep:=fun i h h' st k=>st.at fun o e=>k it (by simp) o e
 item:=by
  intro X hP hw hK hc i pins s σ H E I hf st hg
  subst hP hw hK
  obtain⟨xs,x,hq,hx⟩:=hg
  obtain⟨its,rv,p,hz⟩:=I.list hq
  obtain⟨u,hu,ru⟩:=rv.get hx
  obtain⟨f0,f1,f2,f3,f4,f5⟩:=hf it (by simp)
  refine wpAny_pyNext_list_item st p.isList (x:=u) (by simpa using hu) fun h' st' sb=>?_
  have I1:Inv X pins σ H {s with heap:=h'}:=I.turned (t':=s.toks) (fun b o hb e=>(sb.2 b hb).trans e) f0 f1 f3 f4 f5
  obtain⟨o,e,c,d⟩:=id st'
  exact⟨u,rfl,zd4 (s:={s with heap:=h'}) e c d (by decide) ⟨x,H,I1,ru,⟨rfl,fun ys hy=>by rw[I.list_inj hy hq];exact hx⟩,st',fun b hb=>(hf b hb).1⟩⟩
 done:=by
  intro X hP hw hK hc i pins s σ H E I hf st hg
  subst hP hw hK
  obtain⟨xs,hq,hx⟩:=hg
  obtain⟨its,rv,p,hz⟩:=I.list hq
  obtain⟨f0,f1,f2,f3,f4,f5⟩:=hf it (by simp)
  have hl:=rv.length
  exact wpAny_pyNext_list_end (I.ok.hd hc) st p.isList (by simp;omega) fun h' eb=>⟨rfl,I.turned (t':=s.toks) (fun b o hb e=>eb b o hb e) f0 f1 f3 f4 f5⟩
 self:=fun _ _ _ _ _ st h=>wpAny_pyIter_listiter st h
theorem z93{P:Program}{w:World}{K:PySem.W.Frag}{tg:Expr}(a it:Addr):Turn P w K tg (Itt K a) [it] it (fun i h=>h.IsTupleIter it a i) where
 mem:=by simp
 obj:=fun i h st b hb=>by
  have e:b=it:=by simpa using hb
  subst e
  obtain⟨o,e,c,d⟩:=st
  exact⟨o,e,fun v z=>by rw[d]at z;cases z⟩
 keep:=fun i h h' st k=>st.at fun o e=>k it (by simp) o e
 item:=by
  intro X hP hw hK hc i pins s σ H E I hf st hg
  subst hP hw hK
  obtain⟨xs,x,hq,hx⟩:=hg
  obtain⟨its,rv,p,hz⟩:=I.tuple hq
  obtain⟨u,hu,ru⟩:=rv.get hx
  obtain⟨f0,f1,f2,f3,f4,f5⟩:=hf it (by simp)
  refine wpAny_pyNext_tuple_item st (show s.heap.IsTuple a its.toArray from p) (x:=u) (by simpa using hu) fun h' st' sb=>?_
  have I1:Inv X pins σ H {s with heap:=h'}:=I.turned (t':=s.toks) (fun b o hb e=>(sb.2 b hb).trans e) f0 f1 f3 f4 f5
  obtain⟨o,e,c,d⟩:=id st'
  exact⟨u,rfl,zd4 (s:={s with heap:=h'}) e c d (by decide) ⟨x,H,I1,ru,⟨rfl,fun ys hy=>by rw[I.tuple_inj hy hq];exact hx⟩,st',fun b hb=>(hf b hb).1⟩⟩
 done:=by
  intro X hP hw hK hc i pins s σ H E I hf st hg
  subst hP hw hK
  obtain⟨xs,hq,hx⟩:=hg
  obtain⟨its,rv,p,hz⟩:=I.tuple hq
  obtain⟨f0,f1,f2,f3,f4,f5⟩:=hf it (by simp)
  have hl:=rv.length
  exact wpAny_pyNext_tuple_end (I.ok.hd hc) st (show s.heap.IsTuple a its.toArray from p) (by simp;omega) fun h' eb=>⟨rfl,I.turned (t':=s.toks) (fun b o hb e=>eb b o hb e) f0 f1 f3 f4 f5⟩
 self:=fun _ _ _ _ _ st h=>wpAny_pyIter_tupleiter st h
theorem z94{P:Program}{w:World}{K:PySem.W.Frag}{tg:Expr}(it:Addr)(lo:Int)(n:Nat):Turn P w K tg (Itr lo n) [it] it (fun i h=>IsRangeIter h it (lo + (i:Nat) * 1) ((n:Int) - (i:Nat)) 1) where
 mem:=by simp
 obj:=fun i h st b hb=>by
  have e:b=it:=by simpa using hb
  subst e
  exact⟨_,st,fun v z=>by
   have z':Data.fields _=Data.cell v:=z
   cases z'⟩
 keep:=fun i h h' st k=>k it (by simp) _ st
 item:=by
  intro X hP hw hK hc i pins s σ H E I hf st hg
  subst hP hw hK
  obtain⟨f0,f1,f2,f3,f4,f5⟩:=hf it (by simp)
  have W:=Walks.range (prog:=X.prog) (w:=X.w) (I.ok.hd hc) it lo 1 n
  refine W.item i s _ _ hg st fun v h' tk hv st' kk=>?_
  obtain⟨t,rfl⟩:=hv
  have I1:Inv X pins σ H {s with heap:=h',toks:=tk}:=I.turned (fun b o hb e=>kk b o (by simpa using hb) e) f0 f1 f3 f4 f5
  refine⟨_,rfl,zd4 (s:={s with heap:=h',toks:=tk}) (n:="range_iterator") st' rfl rfl (by decide) ⟨.int (lo + i),H,I1,⟨t,?_⟩,⟨rfl,rfl⟩,st',fun b hb=>(hf b hb).1⟩⟩
  rw[Int.mul_one]
 done:=by
  intro X hP hw hK hc i pins s σ H E I hf st hg
  subst hP hw hK
  obtain⟨f0,f1,f2,f3,f4,f5⟩:=hf it (by simp)
  exact wpAny_pyNext_range_end (I.ok.hd hc) st (by have:n<=i:=hg;omega) fun h' eb=>⟨rfl,I.turned (t':=s.toks) (fun b o hb e=>eb b o hb e) f0 f1 f3 f4 f5⟩
 self:=fun _ _ _ _ _ st h=>wpAny_pyIter_rangeiter st h
end L2
namespace L2
open PySem PySem.Spec PyProof.Rows
section
variable {X:Cx} {tg:Expr}
theorem z8v{pins:List (Addr × Obj)}{σ:St}{H:Hp}{s:Shared}{R:It->Hp->Prop}{E:Value->Shared->Prop}{lo hi:Int}{t u v:Tok}{tk:Nat}(I:Inv X pins σ H s)(h1:-(2 ^ 62)<=lo)(h2:lo < 2 ^ 62)(h3:-(2 ^ 62)<=hi)(h4:hi < 2 ^ 62)
  (q:R (Itr lo (hi - lo).toNat) H):wpAny (model X.prog X.w) X.A (pyIter (.ref s.heap.objs.size)) (PIE X pins σ tg R) E {s with heap:=s.heap.push {cls:=.type "range",data:=.fields #[.int lo t,.int hi u,.int 1 v]},toks:=tk}:=by
 refine wpAny_pyIter_range (IsRange.new ..) (small_one h1 h2 h3 h4) ?_
 have I1:Inv X pins σ H {s with heap:=s.heap.push {cls:=.type "range",data:=.fields #[.int lo t,.int hi u,.int 1 v]},toks:=tk}:=I.kept fun b o e=>Heap.get?_push_of_some _ e
 refine⟨(s.heap.push {cls:=.type "range",data:=.fields #[.int lo t,.int hi u,.int 1 v]}).objs.size,[(s.heap.push {cls:=.type "range",data:=.fields #[.int lo t,.int hi u,.int 1 v]}).objs.size],_,_,H,rfl,
  I1.kept (t':=tk) fun b o e=>Heap.get?_push_of_some _ e,z94 _ lo (hi - lo).toNat,?_,fun b hb=>?_,q⟩
 ·have e1:lo + ((0:Nat):Int) * 1=lo:=by simp
  have e2:(((hi - lo).toNat:Nat):Int) - ((0:Nat):Int)=Builtin.Range.rangeSize lo hi 1:=by rw[rangeSize_one];split <;> omega
  show IsRangeIter _ _ (lo + ((0:Nat):Int) * 1) ((((hi - lo).toNat:Nat):Int) - ((0:Nat):Int)) 1
  rw[e1,e2]
  exact Heap.get?_push_size _ rfl
 ·have e:b=(s.heap.push {cls:=.type "range",data:=.fields #[.int lo t,.int hi u,.int 1 v]}).objs.size:=by simpa using hb
  subst e
  exact I1.fpOk (Nat.le_refl _) (I1.hok.fresh (Nat.le_refl _))
def iRng1(ta:TA):TI:=fun σ H R=>ta σ H fun vs H1=>∃ j:Int,vs=[.int j]/\-(2 ^ 62)<=j/\j < 2 ^ 62/\R (Itr 0 j.toNat) H1
def iRng2(ta:TA):TI:=fun σ H R=>ta σ H fun vs H1=>∃ i j:Int,vs=[.int i,.int j]/\(-(2 ^ 62)<=i/\i < 2 ^ 62/\-(2 ^ 62)<=j/\j < 2 ^ 62)/\R (Itr i (j - i).toNat) H1
theorem z9T{a:Expr}{ta:TA}{p pos:Pos}(hg:Gl X "range")(hm:X.mg "range"=none)(ha:PA X [a] ta)(hs:starEach [a] X.env=[(false,eval a X.env)]:=by rfl):PI X tg (.Call (.Name "range" p) [a] [] pos) (iRng1 ta):=by
 intro pins s σ H R I h
 refine Call_ (z3S I hg hm boot_range (PyProof.Rows.callWith_type1 (thn (ha pos pins s σ H _ I h) fun us s1 zh7=>?_) hs rfl))
 obtain⟨vs,H1,I1,r1,q1⟩:=zh7
 obtain⟨j,e,q1,q2,q⟩:=q1
 subst e
 cases r1 with
 | cons r rr =>
  cases rr
  obtain⟨t,rfl⟩:=r
  exact call_range_1 (z8v I1 (by omega) (by omega) q1 q2 (by simpa using q))
theorem z6R{a b:Expr}{ta:TA}{p pos:Pos}(hg:Gl X "range")(hm:X.mg "range"=none)(ha:PA X [a,b] ta)(hs:starEach [a,b] X.env=[(false,eval a X.env),(false,eval b X.env)]:=by rfl)(hs2:starEach [b] X.env=[(false,eval b X.env)]:=by rfl) :
  PI X tg (.Call (.Name "range" p) [a,b] [] pos) (iRng2 ta):=by
 intro pins s σ H R I h
 refine Call_ (z3S I hg hm boot_range (PyProof.Rows.callWith_type1 (thn (ha pos pins s σ H _ I h) fun us s1 zh8=>?_) (by rw[hs,hs2]) (by rw[hs2];rfl)))
 obtain⟨vs,H1,I1,r1,q1⟩:=zh8
 obtain⟨i,j,e,⟨q1,q2,q3,q4⟩,q⟩:=q1
 subst e
 cases r1 with
 | cons r rr =>
  cases rr with
  | cons r' rr =>
   cases rr
   obtain⟨t,rfl⟩:=r
   obtain⟨t',rfl⟩:=r'
   exact call_range_2 (z8v I1 q1 q2 q3 q4 q)
def tFor(wi:TI)(g:TG)(tb:TS):TS:=fun D σ H=>wi σ H fun J H1=>∃ W:Nat->Nat->St->Hp->Prop,(∃ m,W 0 m σ H1)/\∀ i m σ H,W i m σ H ->
 (J.stop i H/\D.nx σ H)\/(J.go i H/\∃ N:St->Hp->Prop,(∀ σ' H',N σ' H'->∃ m',m' < m/\W (i + 1) m' σ' H')/\∀ x H',J.yld i H x H'->g x σ H' fun σ2 H2=>tb {D with nx:=N,ct:=N,bk:=D.nx} σ2 H2)
def pinsAt(fp:List Addr)(h:Heap):List (Addr × Obj):=fp.filterMap fun b=>(h.get? b).map fun o=>(b,o)
theorem z1X{fp:List Addr}{h:Heap}{b:Addr}{o:Obj}(hb:b∈fp)(e:h.get? b=some o):(b,o)∈pinsAt fp h:=List.mem_filterMap.mpr ⟨b,hb,by rw[e];rfl⟩
theorem z9U{fp:List Addr}{h:Heap}{p:Addr × Obj}(hp:p∈pinsAt fp h):p.1∈fp/\h.get? p.1=some p.2:=by
 obtain⟨b,hb,e⟩:=List.mem_filterMap.mp hp
 cases q:h.get? b with
 | none=>rw[q]at e;cases e
 | some o =>
  rw[q]at e
  have e':(b,o)=p:=Option.some.inj e
  subst e'
  exact⟨hb,q⟩
theorem Inv.pinned{pins:List (Addr × Obj)}{σ:St}{H:Hp}{s:Shared}{fp:List Addr}(I:Inv X pins σ H s)(hf:∀ b∈fp,FpOk X pins H b)(ho:∀ b∈fp,∃ o,s.heap.get? b=some o/\∀ v,o.data≠.cell v):Inv X (pins++pinsAt fp s.heap) σ H s :=
 I.pins_of fun p hp=>(List.mem_append.mp hp).elim (fun z=>I.pin p (List.mem_append_right _ z)) fun z=>by
  obtain⟨hb,e⟩:=z9U z
  obtain⟨f0,f1,f2,_⟩:=hf p.1 hb
  obtain⟨o,e',d⟩:=ho p.1 hb
  rw[e]at e';cases e'
  exact⟨e,f0,f1,f2,d⟩
theorem Inv.unpinned{pins pl:List (Addr × Obj)}{σ:St}{H:Hp}{s:Shared}(I:Inv X (pins++pl) σ H s):Inv X pins σ H s:=I.pins_of fun p hp=>I.pin p (List.mem_append_right _ (List.mem_append_left _ hp))
theorem zcx{iter:Expr}{body:List Stmt}{wi:TI}{g:TG}{tb:TS}{pos:Pos}(hp:PassesOwn (model X.prog X.w) X.A X.env X.xe)(hc:X.calm=true)(hi:PI X tg iter wi)(hg:PG X tg g)(hb:PSs X body tb)
  (hs:∀ x,foldedSetIterable iter X.env x=pure x:=by intro _;rfl):PS X (.For tg iter body [] pos) (tFor wi g tb):=by
 intro pins s σ H D I h
 refine wpAny_For (thn (hi pins s σ H _ I h) fun v s1 h1=>thn h1 fun itv s2 h2=>?_) hs
 obtain⟨it,fp,tn,J,H2,e,I2,T,st2,f2,W,⟨m0,w0⟩,turn⟩:=h2
 subst e
 have stat:∀ {H':Hp},(∀ b∈fp,H' b=none)->∀ b∈fp,FpOk X pins H' b:=fun hn b hb=>⟨hn b hb,(f2 b hb).2⟩
 refine codeAny_forLoop_any (ForI X pins fp tn W) ?_ m0 ⟨0,σ,H2,I2,st2,fun b hb=>(f2 b hb).1,w0⟩
 rintro n s3 ⟨i,σ3,H3,I3,st3,fr3,w3⟩
 rcases turn i n σ3 H3 w3 with ⟨stop,qn⟩ | ⟨go,N,hN,step⟩
 ·refine wpAny_passesOwn hp (thn (T.done X rfl rfl rfl hc i pins s3 σ3 H3 X.xe I3 (stat fr3) st3 stop) fun r s4 ⟨hr,I4⟩=>?_)
  subst hr
  exact wpAny_execs_nil ⟨σ3,H3,I4,qn⟩
 ·refine wpAny_passesOwn hp (thn (T.item X rfl rfl rfl hc i pins s3 σ3 H3 X.xe I3 (stat fr3) st3 go) fun r s4 ⟨u,hr,h4⟩=>?_)
  subst hr
  refine wpAny_passesOwn hp (thn h4 fun _ s5 zh9=>?_)
  obtain⟨x,H5,I5,r5,y5,st5,fr5⟩:=zh9
  have I5':=I5.pinned (stat fr5) (T.obj _ _ st5)
  refine wpAny_passesOwn hp (thn (hg _ s5 σ3 H5 x u _ I5' r5 (step x H5 y5)) fun _ s6 zha=>?_)
  obtain⟨σ6,H6,I6,q6⟩:=zha
  refine wpAny_passesOwn hp (thn (hb _ s6 σ6 H6 _ I6 q6) fun f s7 q7=>?_)
  have again:∀ {σ7:St} {H7:Hp},Inv X (pins++pinsAt fp s5.heap) σ7 H7 s7->N σ7 H7->∃ m,m < n/\ForI X pins fp tn W m s7:=fun{σ7 H7} I7 n7=>by
   obtain⟨m',hm,w7⟩:=hN σ7 H7 n7
   refine⟨m',hm,i + 1,σ7,H7,I7.unpinned,T.keep _ _ _ st5 fun b hb o e=>(I7.pin (b,o) (List.mem_append_right _ (List.mem_append_right _ (z1X hb e)))).1,fun b hb=>?_,w7⟩
   obtain⟨o,e,d⟩:=T.obj _ _ st5 b hb
   exact(I7.pin (b,o) (List.mem_append_right _ (List.mem_append_right _ (z1X hb e)))).2.1
  cases f with
  | next=>obtain⟨σ7,H7,I7,n7⟩:=q7;exact again I7 n7
  | cont=>obtain⟨σ7,H7,I7,n7⟩:=q7;exact again I7 n7
  | brk=>obtain⟨σ7,H7,I7,q7⟩:=q7;exact⟨σ7,H7,I7.unpinned,q7⟩
  | ret v=>obtain⟨x7,σ7,H7,I7,r7,q7⟩:=q7;exact⟨x7,σ7,H7,I7.unpinned,r7,q7⟩
end
theorem z9V{lo:Int}{n:Nat}{g:TG}{tb:TS}{D:Ends}{σ:St}{H:Hp}(Pv:Nat->St->Hp->Prop)(h0:Pv 0 σ H)
  (hs:∀ i σ H,i < n->Pv i σ H->g (.int (lo + i)) σ H fun σ2 H2=>tb {D with nx:=Pv (i + 1),ct:=Pv (i + 1),bk:=D.nx} σ2 H2) (hd:∀ σ H,Pv n σ H->D.nx σ H) :
  ∃ W:Nat->Nat->St->Hp->Prop,(∃ m,W 0 m σ H)/\∀ i m σ H,W i m σ H ->
   ((Itr lo n).stop i H/\D.nx σ H)\/((Itr lo n).go i H/\∃ N:St->Hp->Prop,(∀ σ' H',N σ' H'->∃ m',m' < m/\W (i + 1) m' σ' H')/\∀ x H',(Itr lo n).yld i H x H'->g x σ H' fun σ2 H2=>tb {D with nx:=N,ct:=N,bk:=D.nx} σ2 H2):=by
 refine⟨fun i m σ H=>m=n - i/\i<=n/\Pv i σ H,⟨n,by simp,Nat.zero_le _,h0⟩,?_⟩
 rintro i m σ H ⟨rfl,hi,p⟩
 by_cases hlt:i < n
 ·refine .inr ⟨hlt,Pv (i + 1),fun σ' H' p'=>⟨n - (i + 1),by omega,rfl,hlt,p'⟩,fun x H' y=>?_⟩
  obtain⟨e,y⟩:=y
  subst e y
  exact hs i σ _ hlt p
 ·have e:i=n:=by omega
  subst e
  exact .inl ⟨Nat.le_refl _,hd σ H p⟩
end L2
namespace L2
open PySem PySem.Spec PyProof.Rows
abbrev R2:=V->V->Hp->VK->Prop
def OpR(X:Cx)(f:Value->Value->Sem Value)(r:R2):Prop :=
 ∀ (pins:List (Addr × Obj)) (s:Shared) (σ:St) (H:Hp) (x y:V) (v u:Value) (Q:VK),Inv X pins σ H s->RelV x v->RelV y u->r x y H Q ->
  wpAny (model X.prog X.w) X.A (f v u) (EP X pins σ Q) X.xe s
def UnR(X:Cx)(f:Value->Sem Value)(r:V->Hp->VK->Prop):Prop :=
 ∀ (pins:List (Addr × Obj)) (s:Shared) (σ:St) (H:Hp) (x:V) (v:Value) (Q:VK),Inv X pins σ H s->RelV x v->r x H Q ->
  wpAny (model X.prog X.w) X.A (f v) (EP X pins σ Q) X.xe s
def CallR(X:Cx)(f:Value)(r:List V->Hp->VK->Prop):Prop :=
 ∀ (pins:List (Addr × Obj)) (s:Shared) (σ:St) (H:Hp) (xs:List V) (us:List Value) (Q:VK),Inv X pins σ H s->Vals xs us->r xs H Q ->
  wpAny (model X.prog X.w) X.A (call f us) (EP X pins σ Q) X.xe s
def TruR(X:Cx)(r:V->Hp->(Bool->Hp->Prop)->Prop):Prop :=
 ∀ (pins:List (Addr × Obj)) (s:Shared) (σ:St) (H:Hp) (x:V) (v:Value) (Q:Bool->Hp->Prop),Inv X pins σ H s->RelV x v->r x H Q ->
  wpAny (model X.prog X.w) X.A (truthy v) (TP X pins σ Q) X.xe s
def tOp(r:R2)(ta tb:TE):TE:=fun σ H Q=>ta σ H fun x H1=>tb σ H1 fun y H2=>r x y H2 Q
def tUn(r:V->Hp->VK->Prop)(ta:TE):TE:=fun σ H Q=>ta σ H fun x H1=>r x H1 Q
def rI(C:Int->Int->Prop)(g:Int->Int->V):R2:=fun x y H Q=>∃ i j,x=.int i/\y=.int j/\C i j/\Q (g i j) H
def rI0(g:Int->Int->V):R2:=fun x y H Q=>∃ i j,x=.int i/\y=.int j/\Q (g i j) H
def rU(g:Int->V):V->Hp->VK->Prop:=fun x H Q=>∃ i,x=.int i/\Q (g i) H
section
variable {X:Cx} {a b c:Expr} {ta tb tc:TE} {pos:Pos}
theorem binT(ha:PE X a ta)(hb:PE X b tb){pins:List (Addr × Obj)}{s:Shared}{σ:St}{H:Hp}{R:V->V->Hp->Prop}(I:Inv X pins σ H s)
  (h:ta σ H fun x H1=>tb σ H1 fun y H2=>R x y H2) {Q:Value->Shared->Prop} {f:Value->Value->Sem Value}
  (hf:∀ v u s2 x y H2,Inv X pins σ H2 s2->RelV x v->RelV y u->R x y H2->wpAny (model X.prog X.w) X.A (f v u) Q X.xe s2) :
  wpAny (model X.prog X.w) X.A (eval a X.env) (fun v s₁=>wpAny (model X.prog X.w) X.A (eval b X.env) (fun u s₂=>wpAny (model X.prog X.w) X.A (f v u) Q X.xe s₂) X.xe s₁) X.xe s:=by
 refine thn (ha pins s σ H _ I h) fun v s1 zhb=>?_
 obtain⟨x,H1,I1,r1,q1⟩:=zhb
 refine thn (hb pins s1 σ H1 _ I1 q1) fun u s2 zhc=>?_
 obtain⟨y,H2,I2,r2,q2⟩:=zhc
 exact hf v u s2 x y H2 I2 r1 r2 q2
theorem zbq{op:Operator}{r:R2}(ho:OpR X (binaryOp op) r)(ha:PE X a ta)(hb:PE X b tb):PE X (.BinOp a op b pos) (tOp r ta tb):=by
 intro pins s σ H Q I h
 exact wpAny_BinOp (binT ha hb I h fun v u s2 x y H2 I2 rx ry q=>ho pins s2 σ H2 x y v u Q I2 rx ry q)
theorem zgJ{op:UnaryOp}{r:V->Hp->VK->Prop}(ho:UnR X (unaryOp op) r)(ha:PE X a ta):PE X (.UnaryOp op a pos) (tUn r ta):=by
 intro pins s σ H Q I h
 exact UnaryOp_ (thn (ha pins s σ H _ I h) fun v s1 zhd=>(by obtain⟨x,H1,I1,r1,q1⟩:=zhd;exact ho pins s1 σ H1 x v Q I1 r1 q1))
theorem opI{f:Value->Value->Sem Value}{C:Int->Int->Prop}{g:Int->Int->Int}
  (rule:∀ (i j:Int) (t u:Tok) (s:Shared) (Q:Value->Shared->Prop) (E:Value->Shared->Prop),C i j->Q (.int (g i j) s.toks) {s with toks:=s.toks + 1}->wpAny (model X.prog X.w) X.A (f (.int i t) (.int j u)) Q E s) :
  OpR X f (rI C fun i j=>.int (g i j)):=by
 intro pins s σ H x y v u Q I rx ry h
 obtain⟨i,j,rfl,rfl,hc,q⟩:=h
 obtain⟨t,rfl⟩:=rx
 obtain⟨t',rfl⟩:=ry
 exact rule i j t t' s _ _ hc ⟨.int (g i j),H,I.tok _,⟨_,rfl⟩,q⟩
theorem opI0{f:Value->Value->Sem Value}{g:Int->Int->Int}
  (rule:∀ (i j:Int) (t u:Tok) (s:Shared) (Q:Value->Shared->Prop) (E:Value->Shared->Prop),Q (.int (g i j) s.toks) {s with toks:=s.toks + 1}->wpAny (model X.prog X.w) X.A (f (.int i t) (.int j u)) Q E s) :
  OpR X f (rI0 fun i j=>.int (g i j)):=by
 intro pins s σ H x y v u Q I rx ry h
 obtain⟨i,j,rfl,rfl,q⟩:=h
 obtain⟨t,rfl⟩:=rx
 obtain⟨t',rfl⟩:=ry
 exact rule i j t t' s _ _ ⟨.int (g i j),H,I.tok _,⟨_,rfl⟩,q⟩
theorem opB0{f:Value->Value->Sem Value}{g:Int->Int->Bool}
  (rule:∀ (i j:Int) (t u:Tok) (s:Shared) (Q:Value->Shared->Prop) (E:Value->Shared->Prop),Q (.bool (g i j)) s->wpAny (model X.prog X.w) X.A (f (.int i t) (.int j u)) Q E s) :
  OpR X f (rI0 fun i j=>.bl (g i j)):=by
 intro pins s σ H x y v u Q I rx ry h
 obtain⟨i,j,rfl,rfl,q⟩:=h
 obtain⟨t,rfl⟩:=rx
 obtain⟨t',rfl⟩:=ry
 exact rule i j t t' s _ _ ⟨.bl (g i j),H,I,rfl,q⟩
def CPow(i j:Int):Prop:=0<=j/\j<=1000000/\i.natAbs < 2 ^ 64
theorem zcy:OpR X (binaryOp .Add) (rI0 fun i j=>.int (i + j)):=opI0 fun _ _ _ _ _ _ _ q=>add_int q
theorem zef:OpR X (binaryOp .Sub) (rI0 fun i j=>.int (i - j)):=opI0 fun _ _ _ _ _ _ _ q=>sub_int q
theorem z9W:OpR X (binaryOp .Mod) (rI (fun _ j=>j≠0) fun i j=>.int (i.fmod j)):=opI fun _ _ _ _ _ _ _ hc q=>mod_int' hc q
theorem zeg:OpR X (binaryOp .Pow) (rI CPow fun i j=>.int (i ^ j.toNat)):=opI fun _ _ _ _ _ _ _ hc q=>pow_int_small hc.1 hc.2.1 hc.2.2 q
theorem zd5:OpR X (inplaceOp .Add) (rI0 fun i j=>.int (i + j)):=opI0 fun _ _ _ _ _ _ _ q=>iadd_int q
theorem zd6:OpR X (inplaceOp .Sub) (rI0 fun i j=>.int (i - j)):=opI0 fun _ _ _ _ _ _ _ q=>isub_int q
theorem unI{f:Value->Sem Value}{g:Int->Int}
  (rule:∀ (i:Int) (t:Tok) (s:Shared) (Q:Value->Shared->Prop) (E:Value->Shared->Prop),Q (.int (g i) s.toks) {s with toks:=s.toks + 1}->wpAny (model X.prog X.w) X.A (f (.int i t)) Q E s) :
  UnR X f (rU fun i=>.int (g i)):=by
 intro pins s σ H x v Q I rx h
 obtain⟨i,rfl,q⟩:=h
 obtain⟨t,rfl⟩:=rx
 exact rule i t s _ _ ⟨.int (g i),H,I.tok _,⟨_,rfl⟩,q⟩
theorem zeh:UnR X (unaryOp .USub) (rU fun i=>.int (-i)):=unI fun _ _ _ _ _ q=>neg_int q
end
section
variable {X:Cx} {a b c:Expr} {ta tb tc:TE} {pos:Pos}
theorem zei{pins:List (Addr × Obj)}{σ:St}{H:Hp}{s:Shared}{Q:VK}{k k':Bool}(I:Inv X pins σ H s)(q:Q (.bl k) H)(e:k=k'):EP X pins σ Q (.bool k') s:=by
 subst e
 exact⟨.bl k,H,I,rfl,q⟩
theorem zgK:OpR X (compareOp .Lt) (rI0 fun i j=>.bl (decide (i < j))):=opB0 fun _ _ _ _ _ _ _ q=>lt_int q
theorem zgL:OpR X (compareOp .LtE) (rI0 fun i j=>.bl (decide (i<=j))):=opB0 fun _ _ _ _ _ _ _ q=>le_int q
theorem zgM:OpR X (compareOp .Gt) (rI0 fun i j=>.bl (decide (j < i))):=opB0 fun _ _ _ _ _ _ _ q=>gt_int q
theorem zej:OpR X (compareOp .GtE) (rI0 fun i j=>.bl (decide (j<=i))):=opB0 fun _ _ _ _ _ _ _ q=>ge_int q
theorem zek:OpR X (compareOp .Is) (fun x y H Q=>y=.non/\Q (.bl (decide (x=.non))) H):=by
 intro pins s σ H x y v u Q I rx ry h
 obtain⟨rfl,q⟩:=h
 cases ry
 refine is_none_gen (zei I q ?_)
 cases x <;> first
  | (cases rx;rfl)
  | (obtain⟨t,rfl⟩:=rx;rfl)
theorem OpR.or{f:Value->Value->Sem Value}{r r':R2}(h:OpR X f r)(h':OpR X f r'):OpR X f (fun x y H Q=>r x y H Q\/r' x y H Q):=by
 intro pins s σ H x y v u Q I rx ry q
 rcases q with q | q
 ·exact h pins s σ H x y v u Q I rx ry q
 ·exact h' pins s σ H x y v u Q I rx ry q
theorem nomark(b:Expr){op:CmpOp}(h:op≠.In:=by decide)(h2:op≠.NotIn:=by decide):behindInMarks op b=false:=by
 have e1:(op == CmpOp.In)=false:=by cases op <;> first | rfl | exact absurd rfl h
 have e2:(op == CmpOp.NotIn)=false:=by cases op <;> first | rfl | exact absurd rfl h2
 cases b <;> simp[behindInMarks,e1,e2]
def tTest(t:TE):TT:=fun σ H Q=>t σ H fun x H'=>∃ k,x=.bl k/\Q k H'
theorem zd7{op:CmpOp}{r:R2}(ho:OpR X (compareOp op) r)(ha:PE X a ta)(hb:PE X b tb)(hm:behindInMarks op b=false):PT X (.Compare a [op] [b] pos) (tTest (tOp r ta tb)):=by
 intro pins s σ H Q I h
 refine wpAny_isTrue_Compare1 (thn (ha pins s σ H _ I h) fun v s1 ⟨x,H1,I1,r1,q1⟩=>thn (hb pins s1 σ H1 _ I1 q1) fun u s2 ⟨y,H2,I2,r2,q2⟩ =>
  thn (ho pins s2 σ H2 x y v u _ I2 r1 r2 q2) fun c s3 ⟨z,H3,I3,r3,k,e,q3⟩=>?_) hm
 subst e
 cases r3
 exact wpAny_truthy_bool ⟨H3,I3,q3⟩
def tChain(r r':R2)(ta tb tc:TE):TE:=fun σ H Q=>ta σ H fun x H1=>tb σ H1 fun y H2=>r x y H2 fun z H3=>∃ k,z=.bl k /\
 (if k=true then tc σ H3 fun w' H4=>r' y w' H4 Q else Q (.bl false) H3)
theorem zbr{op op':CmpOp}{r r':R2}(ho:OpR X (compareOp op) r)(ho':OpR X (compareOp op') r')(ha:PE X a ta)(hb:PE X b tb)(hc:PE X c tc)
  (hm:lastMarks [op,op'] [b,c]=false:=by with_unfolding_all rfl):PE X (.Compare a [op,op'] [b,c] pos) (tChain r r' ta tb tc):=by
 intro pins s σ H Q I h
 refine Compare_chain (thn (ha pins s σ H _ I h) fun v s1 ⟨x,H1,I1,r1,q1⟩=>chain_link (thn (hb pins s1 σ H1 _ I1 q1) fun u s2 ⟨y,H2,I2,r2,q2⟩ =>
  thn (ho pins s2 σ H2 x y v u _ I2 r1 r2 q2) fun d s3 ⟨z,H3,I3,r3,k,e,q3⟩=>?_)) hm
 subst e
 cases r3
 refine wpAny_truthy_bool ?_
 cases k with
 | false=>exact ite_ff ⟨.bl false,H3,I3,rfl,q3⟩
 | true=>exact ite_tt (chain_last (thn (hc pins s3 σ H3 _ I3 q3) fun w' s4 zhe=>(by obtain⟨z',H4,I4,r4,q4⟩:=zhe;exact ho' pins s4 σ H4 y z' u w' Q I4 r2 r4 q4)))
theorem zbs{op op':CmpOp}{r r':R2}(ho:OpR X (compareOp op) r)(ho':OpR X (compareOp op') r')(ha:PE X a ta)(hb:PE X b tb)(hc:PE X c tc)
  (hm:lastMarks [op,op'] [b,c]=false:=by with_unfolding_all rfl):PT X (.Compare a [op,op'] [b,c] pos) (tTest (tChain r r' ta tb tc)):=by
 intro pins s σ H Q I h
 refine isTrue_chain (thn (ha pins s σ H _ I h) fun v s1 ⟨x,H1,I1,r1,q1⟩=>test_link (thn (hb pins s1 σ H1 _ I1 q1) fun u s2 ⟨y,H2,I2,r2,q2⟩ =>
  thn (ho pins s2 σ H2 x y v u _ I2 r1 r2 q2) fun d s3 ⟨z,H3,I3,r3,k,e,q3⟩=>?_)) hm
 subst e
 cases r3
 refine wpAny_truthy_bool ?_
 cases k with
 | false =>
  obtain⟨k',e',q'⟩:=q3
  cases e'
  exact ite_ff ⟨H3,I3,q'⟩
 | true =>
  refine ite_tt (test_last (thn (hc pins s3 σ H3 _ I3 q3) fun w' s4 ⟨z',H4,I4,r4,q4⟩=>thn (ho' pins s4 σ H4 y z' u w' _ I4 r2 r4 q4) fun d' s5 zhf=>?_))
  obtain⟨z2,H5,I5,r5,k2,e2,q5⟩:=zhf
  subst e2
  cases r5
  exact wpAny_truthy_bool ⟨H5,I5,q5⟩
def TruV(K:PySem.W.Frag)(x:V)(H:Hp)(k:Bool):Prop :=
 match x with
 | .non=>k=false
 | .bl b=>k=b
 | .int i=>k=(i != 0)
 | .str y=>y.length<=sizeLine/\k=((y.length:Int) != 0)
 | .byt y=>y.size<=sizeLine/\k=((y.size:Int) != 0)
 | .ref p=>(∃ xs,SqL K H p xs/\k=!xs.isEmpty)\/(∃ xs,SqT K H p xs/\k=!xs.isEmpty)\/∃ kvs,H p=some (.dK kvs)/\k=!kvs.isEmpty
 | _=>False
theorem z95{κ:Type}{kvs:List (κ × V)}{vs:List (κ × Value)}(r:KV kvs vs):(!vs.isEmpty)=!kvs.isEmpty:=by
 cases r <;> rfl
theorem z5W{xs:List V}{its:List Value}(r:Vals xs its):(!its.toArray.isEmpty)=!xs.isEmpty:=by
 cases r <;> simp
theorem line63:(sizeLine:Nat) < 2 ^ 63:=by rw[sizeLine_eq];decide
theorem zel:TruR X (fun x H Q=>∃ k,TruV X.K x H k/\Q k H):=by
 intro pins s σ H x v Q I rx h
 obtain⟨k,e,q⟩:=h
 have hl:=line63
 have hs:sizeLine=16777216:=sizeLine_eq
 cases x with
 | non =>
  cases rx
  have e':k=false:=e
  subst e'
  exact truthy_none ⟨H,I,q⟩
 | bl b =>
  cases rx
  have e':k=b:=e
  subst e'
  exact wpAny_truthy_bool ⟨H,I,q⟩
 | int i =>
  obtain⟨t,rfl⟩:=rx
  have e':k=(i != 0):=e
  subst e'
  exact PySem.P.truthy_int ⟨H,I,q⟩
 | str y =>
  obtain⟨t,rfl⟩:=rx
  obtain⟨hy,e'⟩:y.length<=sizeLine/\k=((y.length:Int) != 0):=e
  subst e'
  exact PySem.P.truthy_str (by omega) ⟨H,I.tok _,q⟩
 | byt y =>
  obtain⟨t,rfl⟩:=rx
  obtain⟨hy,e'⟩:y.size<=sizeLine/\k=((y.size:Int) != 0):=e
  subst e'
  exact PySem.W.truthy_bytes (by omega) ⟨H,I.tok _,q⟩
 | ref p =>
  cases rx
  have e':(∃ xs,SqL X.K H p xs/\k=!xs.isEmpty)\/(∃ xs,SqT X.K H p xs/\k=!xs.isEmpty)\/∃ kvs,H p=some (.dK kvs)/\k=!kvs.isEmpty:=e
  rcases e' with ⟨xs,hx,e'⟩ | ⟨xs,hx,e'⟩ | ⟨kvs,hx,e'⟩
  ·subst e'
   obtain⟨its,r,pl,hz⟩:=I.list hx
   have hlen:=r.length
   exact wpAny_truthy_list pl.isList (by simp only[List.size_toArray];omega) ⟨H,I.tok _,by rw[z5W r];exact q⟩
  ·subst e'
   obtain⟨its,r,pl,hz⟩:=I.tuple hx
   have hlen:=r.length
   exact truthy_tuple pl (by simp only[List.size_toArray];omega) ⟨H,I.tok _,by rw[z5W r];exact q⟩
  ·subst e'
   obtain⟨hz,hS,vs,r,m⟩:kvs.length<=sizeLine/\(p == sysModules)=false/\∃ vs,KV kvs vs/\s.heap.DictOf (mixKind X.prog X.w) p vs:=I.hok p _ hx
   have hlen:kvs.length=vs.length:=Paired.length r
   exact wpAny_truthy_dict hS m (by omega) ⟨H,I.tok _,by rw[z95 r];exact q⟩
 | _=>exact(show False from e).elim
theorem zbt(ha:PE X a ta)(he:∀ whole,isTrue a X.env whole=(do let v <- whole;standAt a.pos;holding [v] (truthy v))) :
  PT X a (fun σ H Q=>ta σ H fun x H'=>∃ k,TruV X.K x H' k/\Q k H'):=by
 intro pins s σ H Q I h
 exact isTrue_plain (thn (ha pins s σ H _ I h) fun v s1 zhg=>(by obtain⟨x,H1,I1,r1,q1⟩:=zhg;exact zel pins s1 σ H1 x v Q I1 r1 q1)) (he _)
theorem vals1{x:V}{us:List Value}(r:Vals [x] us):∃ u,us=[u]/\RelV x u:=by
 cases r with
 | cons r1 r2=>cases r2;exact⟨_,rfl,r1⟩
theorem vals2{x y:V}{us:List Value}(r:Vals [x,y] us):∃ u w',us=[u,w']/\RelV x u/\RelV y w':=by
 cases r with
 | cons r1 r2 =>
  cases r2 with
  | cons r3 r4=>cases r4;exact⟨_,_,rfl,r1,r3⟩
theorem z9X(hc:X.calm=true):CallR X (.builtin "max") (fun xs H Q=>∃ i j,xs=[.int i,.int j]/\Q (.int (if j > i then j else i)) H):=by
 intro pins s σ H xs us Q I r h
 obtain⟨i,j,rfl,q⟩:=h
 obtain⟨u,w',rfl,⟨t,rfl⟩,⟨t',rfl⟩⟩:=vals2 r
 refine max_two_ints (I.ok.hd hc) fun h' tk k=>⟨_,H,I.kept k,?_,q⟩
 by_cases hj:j > i
 ·rw[if_pos hj,if_pos hj];exact⟨_,rfl⟩
 ·rw[if_neg hj,if_neg hj];exact⟨_,rfl⟩
theorem z9Y(hc:X.calm=true):CallR X (.builtin "min") (fun xs H Q=>∃ i j,xs=[.int i,.int j]/\Q (.int (if j < i then j else i)) H):=by
 intro pins s σ H xs us Q I r h
 obtain⟨i,j,rfl,q⟩:=h
 obtain⟨u,w',rfl,⟨t,rfl⟩,⟨t',rfl⟩⟩:=vals2 r
 refine min_two_ints (I.ok.hd hc) fun h' tk k=>⟨_,H,I.kept k,?_,q⟩
 by_cases hj:j < i
 ·rw[if_pos hj,if_pos hj];exact⟨_,rfl⟩
 ·rw[if_neg hj,if_neg hj];exact⟨_,rfl⟩
theorem z9Z:CallR X (.type "int") (fun xs H Q=>(∃ i,xs=[.int i]/\Q (.int i) H)\/∃ k,xs=[.bl k]/\Q (.int (if k then 1 else 0)) H):=by
 intro pins s σ H xs us Q I r h
 rcases h with ⟨i,rfl,q⟩ | ⟨k,rfl,q⟩
 ·obtain⟨u,rfl,t,rfl⟩:=vals1 r
  exact call_int_int ⟨.int i,H,I,⟨_,rfl⟩,q⟩
 ·obtain⟨u,rfl,r1⟩:=vals1 r
  cases r1
  exact call_int_bool ⟨.int (if k then 1 else 0),H,I.tok _,⟨_,rfl⟩,q⟩
end
end L2
namespace L2
open PySem PySem.Spec PyProof.Rows
structure ObjM(h:Heap)(x dx C:Addr)(mA:Str->Option Value):Prop where
 obj:h.get? x=some (PySem.W.instObj C dx)
 ns:h.Ns1 dx mA
 ne:dx≠x
theorem za0{h:Heap}{dx:Addr}{mA:Str->Option Value}(n:h.Ns1 dx mA):∃ od,h.get? dx=some od/\∀ name,PySem.W.lookIn name od=some (mA name):=by
 obtain⟨o,es,ep,ho,hd,hk,_,hm⟩:=n
 refine⟨o,ho,fun name=>?_⟩
 have e:=hm name
 unfold nsFind findBy at e
 rw[<- Array.find?_toList]at e
 unfold PySem.W.lookIn
 rw[hd]
 dsimp only
 split
 ·rename_i y q
  rw[q]at e
  exact congrArg some e
 ·rename_i q
  rw[q]at e
  have a:es.toList.any (·.refKey)=false:=by
   rw[List.any_eq_false]
   intro y hy
   obtain⟨z,t,hkey⟩:=hk y (Array.mem_toList_iff.mp hy)
   simp[DictEntry.refKey,hkey]
  have a':¬ es.toList.any (·.refKey)=true:=by rw[a];exact Bool.false_ne_true
  rw[if_neg a']
  exact congrArg some e
theorem ObjM.look{h:Heap}{x dx C:Addr}{mA:Str->Option Value}(I:ObjM h x dx C mA):∃ od,PySem.W.InstAt h x (PySem.W.instObj C dx) C (some od)/\∀ name,PySem.W.lookIn name od=some (mA name) :=
 let ⟨od,ho,hl⟩:=za0 I.ns
 ⟨od,⟨I.obj,rfl,rfl,ho⟩,hl⟩
section
variable {prog:Program} {w:World} {A:Around} {E:Value->Shared->Prop} {s:Shared} {K:PySem.W.Frag} {x dx C f:Addr} {mA:Str->Option Value} {name:Str} {v:Value}
theorem zd8{expr:Bool}{Q:Value->Shared->Prop}(X:K.In s.heap)(I:ObjM s.heap x dx C mA)(hg:PySem.W.plainGet K C name=true)(hh:PySem.W.hasDictIn K C=true)
  (ha:PySem.W.findIn K (.ref C) name=some none) (hv:mA name=some v) (hv':PySem.W.handedIn v=true) (h:Q v {s with toks:=s.toks + 1}) :
  wpAny (model prog w) A (getAttr (.ref x) name expr) Q E s:=by
 obtain⟨od,J,hl⟩:=I.look
 exact PySem.W.get_value X J (PySem.W.plainGet_of hg).1 (PySem.W.findObj_own hh ha rfl (by rw[hl,hv])) hv' h
theorem zbu{pl:Sem Bool}{Q:Value × List Value->Shared->Prop}(X:K.In s.heap)(I:ObjM s.heap x dx C mA)(hg:PySem.W.plainGet K C name=true)
  (hf:PySem.W.findIn K (.ref C) name=some (some (.ref f))) (ht:PySem.W.isFn K (.ref f)=true) (hv:mA name=none) (h:Q (.ref f,[.ref x]) s) :
  wpAny (model prog w) A (getMethod (.ref x) name pl) Q E s:=by
 obtain⟨od,J,hl⟩:=I.look
 exact PySem.W.method_fn X J (PySem.W.plainGet_of hg).1 (PySem.W.plainGet_of hg).2 hf (beq_iff_eq.mp ht) (by show(PySem.W.lookIn name od).map (·.isSome)=some false;rw[hl,hv];rfl) h
theorem zd9{ns:List Str}{Q:Unit->Shared->Prop}(X:K.In s.heap)(I:ObjM s.heap x dx C mA)
  (hs:PySem.W.findIn K (.ref C) "__setattr__"=some (some (.builtin "object.__setattr__"))) (hp:PySem.W.plainOver K C=true) (ht:PySem.W.takerIn K C name=some none) (hh:PySem.W.hasDictIn K C=true)
  (hw:PySem.Within mA ns) (hsz:ns.length<=sizeLine)
  (h:∀ h',ObjM h' x dx C (fun y=>if y=name then some v else mA y)->Heap.SameBut dx s.heap h'->Q () {s with heap:=h',toks:=s.toks + 2}) :
  wpAny (model prog w) A (setAttr (.ref x) name v) Q E s:=by
 obtain⟨od,J,hl⟩:=I.look
 refine PySem.W.set_plain X J hs (PySem.W.osa_open (s:={s with toks:=s.toks + 1}) (r:=none) X J hp ht fun b=>?_)
 obtain⟨cd,hc,hd'⟩:=PySem.W.any_some hh
 have hx:s.heap.get? x=some ⟨.ref C,some dx,.plain,#[]⟩:=I.obj
 refine wpAny_bind (wpAny_pure (wpAny_bind (wpAny_bind (wpAny_loadPart hx (wpAny_bind (PySem.W.Looks.here (s:={s with toks:=s.toks + 1}) (PySem.W.looks_clsIn X hc) ?_))))))
 rw[hd']
 refine wpAny_pure (a:=some dx) (wpAny_bind (wpAny_pure (wpAny_bind ?_)))
 refine wpAny_nsSet1 (s:={s with toks:=s.toks + 1}) I.ns fun h' hn2 hs2=>?_
 obtain⟨oD,esD,epD,hoD,hdD,hcD⟩:=hn2.count (PySem.Within.cons name v hw)
 refine wpAny_bind (wpAny_lookBehind hoD (by rw[hdD];exact pastItsLine_dict (Nat.le_trans hcD (by rw[List.length_cons];omega))) ?_)
 exact wpAny_pure (h _ ⟨(hs2.2 _ (Ne.symm I.ne)).trans I.obj,hn2,I.ne⟩ hs2)
theorem zbv{R:Result->Shared->Prop}{vs:List Value}{kw:List (Str × Value)}(X:K.In s.heap)(hm:PySem.W.makesIn K C=true)
  (hi:PySem.W.findIn K (.ref C) "__init__"=some (some (.ref f))) (hf:PySem.W.typeIn K (.ref f)=some (.type "function"))
  (h:codeAny (model prog w) (A.under (.builtin "type.__call__" ⟨.ref C::vs,kw⟩)) (.call (.ref f) ⟨.ref (s.heap.objs.size + 1)::vs,kw⟩) (PySem.W.InitBack (s.heap.objs.size + 1) R)
   {s with heap:=(s.heap.push PySem.W.emptyDict).push (PySem.W.instObj C s.heap.objs.size)}) :
  codeAny (model prog w) A (.call (.ref C) ⟨vs,kw⟩) R s:=by
 obtain⟨hh,g,d,t,os⟩:=s
 exact PySem.W.make_core (PySem.W.makes_of X hm) (PySem.W.looks_findIn X hi) (fun self=>PySem.W.bind_fn X self hf) (.inl rfl) h
end
def putF(f:Str)(v:V):List (Str × V)->List (Str × V)
 | []=>[(f,v)]
 | (g,x)::r=>if g=f then (g,v)::r else (g,x)::putF f v r
theorem z55(f g:Str)(v:V):∀ fs:List (Str × V),(putF f v fs).lookup g=if g=f then some v else fs.lookup g
 | []=>by
  show List.lookup g [(f,v)]=_
  by_cases h:g=f
  ·have hb:(g == f)=true:=beq_iff_eq.mpr h
   simp only[List.lookup,hb,if_pos h]
  ·have hb:(g == f)=false:=beq_eq_false_iff_ne.mpr h
   simp only[List.lookup,hb,if_neg h]
 | (k,x)::r=>by
  have ih:=z55 f g v r
  rw[show putF f v ((k,x)::r)=(if k=f then (k,v)::r else (k,x)::putF f v r) from rfl]
  by_cases hk:k=f
  ·rw[if_pos hk]
   by_cases h:g=k
   ·have hb:(g == k)=true:=beq_iff_eq.mpr h
    simp only[List.lookup,hb,if_pos (h.trans hk)]
   ·have hb:(g == k)=false:=beq_eq_false_iff_ne.mpr h
    simp only[List.lookup,hb,if_neg (fun e:g=f=>h (e.trans hk.symm))]
  ·rw[if_neg hk]
   by_cases h:g=k
   ·have hb:(g == k)=true:=beq_iff_eq.mpr h
    simp only[List.lookup,hb,if_neg (fun e:g=f=>hk (h.symm.trans e))]
   ·have hb:(g == k)=false:=beq_eq_false_iff_ne.mpr h
    simp only[List.lookup,hb]
    exact ih
theorem z56(f:Str)(v:V):∀ fs:List (Str × V),f∈(putF f v fs).map (·.1)/\∀ g,g∈fs.map (·.1)->g∈(putF f v fs).map (·.1)
 | []=>⟨by simp[putF],fun g h=>by simp at h⟩
 | (k,x)::r=>by
  obtain⟨i1,i2⟩:=z56 f v r
  rw[show putF f v ((k,x)::r)=(if k=f then (k,v)::r else (k,x)::putF f v r) from rfl]
  by_cases hk:k=f
  ·rw[if_pos hk]
   subst hk
   exact⟨by simp,fun g h=>by simpa using h⟩
  ·rw[if_neg hk]
   refine⟨?_,fun g h=>?_⟩
   ·rw[List.map_cons]
    exact List.mem_cons_of_mem _ i1
   ·rw[List.map_cons]at h ⊢
    rcases List.mem_cons.mp h with e | e
    ·exact List.mem_cons.mpr (.inl e)
    ·exact List.mem_cons_of_mem _ (i2 g e)
theorem z3D(f:Str)(v:V):∀ fs:List (Str × V),(putF f v fs).length<=fs.length + 1
 | []=>by simp[putF]
 | (k,x)::r=>by
  have ih:=z3D f v r
  rw[show putF f v ((k,x)::r)=(if k=f then (k,v)::r else (k,x)::putF f v r) from rfl]
  by_cases hk:k=f
  ·rw[if_pos hk,List.length_cons,List.length_cons];omega
  ·rw[if_neg hk,List.length_cons,List.length_cons];omega
theorem RelO.some_of{v:V}{o:Option Value}(r:RelO (some v) o):∃ u,o=some u/\RelV v u:=by
 cases o with
 | none=>exact(show False from r).elim
 | some u=>exact⟨u,rfl,r⟩
theorem RelO.none_of{o:Option Value}(r:RelO none o):o=none:=by
 cases o with
 | none=>rfl
 | some u=>exact(show False from r).elim
theorem za1{v:V}{u:Value}(r:RelV v u):PySem.W.handedIn u=true:=by
 cases v with
 | non=>cases (show u=Value.none from r);rfl
 | bl b=>cases (show u=Value.bool b from r);rfl
 | int i=>obtain⟨t,e⟩:=(show ∃ t,u=Value.int i t from r);cases e;rfl
 | str x=>obtain⟨t,e⟩:=(show ∃ t,u=Value.str x t from r);cases e;rfl
 | byt b=>obtain⟨t,e⟩:=(show ∃ t,u=Value.bytes b t from r);cases e;rfl
 | flt b=>obtain⟨t,e⟩:=(show ∃ t,u=Value.float b t from r);cases e;rfl
 | ref a=>cases (show u=Value.ref a from r);rfl
 | ty n=>cases (show u=Value.type n from r);rfl
section
variable {P:Program} {w:World} {H H':Hp} {h h':Heap} {a C dx:Addr} {fs fs':List (Str × V)}
theorem z7J(hok:HOk P w H h)(e:H a=some (.ins C dx fs)):∃ mA,ObjM h a dx C mA/\(∀ f,RelO (fs.lookup f) (mA f))/\PySem.Within mA (fs.map (·.1))/\fs.length<=1000/\H dx=some (.own a):=by
 obtain⟨d,z,ne,ob,mA,n,r,q⟩:=(show ObjOk P w H h a (.ins C dx fs) from hok a _ e)
 exact⟨mA,⟨ob,n,ne⟩,r,q,z,d⟩
end
structure Cls(K:PySem.W.Frag)(C:Addr):Prop where
 pg:PySem.W.plainGet K C Str.empty=true
 hd:PySem.W.hasDictIn K C=true
 po:PySem.W.plainOver K C=true
 sa:PySem.W.findIn K (.ref C) "__setattr__"=some (some (.builtin "object.__setattr__"))
theorem Cls.get{K:PySem.W.Frag}{C:Addr}(c:Cls K C)(f:Str):PySem.W.plainGet K C f=true:=c.pg
def NoAttr(K:PySem.W.Frag)(C:Addr)(f:Str):Prop:=PySem.W.findIn K (.ref C) f=some none
theorem NoAttr.taker{K:PySem.W.Frag}{C:Addr}{f:Str}(n:NoAttr K C f):PySem.W.takerIn K C f=some none:=by
 unfold PySem.W.takerIn
 rw[show PySem.W.findIn K (.ref C) f=some none from n]
 rfl
structure Meth(K:PySem.W.Frag)(C:Addr)(m:Str)(f:Addr):Prop where
 at_:PySem.W.findIn K (.ref C) m=some (some (.ref f))
 fn:PySem.W.isFn K (.ref f)=true
 kp:PySem.W.keepIn K (.ref f)=true
section
variable {X:Cx} {pins:List (Addr × Obj)} {σ:St} {H:Hp} {s:Shared} {a C dx:Addr} {fs:List (Str × V)} {f:Str} {v:V} {A:Around} {E:Value->Shared->Prop}
theorem z5X{b:Bool}{Q:Value->Shared->Prop}(I:Inv X pins σ H s)(e:H a=some (.ins C dx fs))(c:Cls X.K C)(n:NoAttr X.K C f)(l:fs.lookup f=some v)
  (h:∀ u s',Inv X pins σ H s'->RelV v u->Q u s'):wpAny (model X.prog X.w) A (getAttr (.ref a) f b) Q E s:=by
 obtain⟨mA,O,r,_,_,_⟩:=z7J I.hok e
 obtain⟨u,hu,ru⟩:=RelO.some_of (v:=v) (o:=mA f) (by rw[<- l];exact r f)
 exact zd8 I.kIn O (c.get f) c.hd n hu (za1 ru) (h u _ (I.tok _) ru)
theorem z5Y{m:Str}{g:Addr}{pl:Sem Bool}{Q:Value × List Value->Shared->Prop}(I:Inv X pins σ H s)(e:H a=some (.ins C dx fs))(c:Cls X.K C)(k:Meth X.K C m g)(l:fs.lookup m=none)
  (h:Q (.ref g,[.ref a]) s):wpAny (model X.prog X.w) A (getMethod (.ref a) m pl) Q E s:=by
 obtain⟨mA,O,r,_,_,_⟩:=z7J I.hok e
 have hn:mA m=none:=RelO.none_of (by rw[<- l];exact r m)
 exact zbu I.kIn O (c.get m) k.at_ k.fn hn h
theorem z4e{y:V}{u:Value}{Q:Unit->Shared->Prop}(I:Inv X pins σ H s)(e:H a=some (.ins C dx fs))(c:Cls X.K C)(n:NoAttr X.K C f)(hl:fs.length < 1000)(ry:RelV y u)
  (h:∀ s',Inv X pins σ (upd H a (.ins C dx (putF f y fs))) s'->Q () s'):wpAny (model X.prog X.w) A (setAttr (.ref a) f u) Q E s:=by
 obtain⟨mA,O,r,wi,_,ho⟩:=z7J I.hok e
 have hz:(fs.map (·.1)).length<=sizeLine:=by rw[List.length_map,sizeLine_eq];omega
 refine zd9 I.kIn O c.sa c.po n.taker c.hd wi hz fun h' O' sb=>h _ ?_
 have hd:∃ o,h'.get? dx=some o:=let ⟨o,_,_,e',_⟩:=O'.ns;⟨o,e'⟩
 refine I.write (x:=a) (e:=dx) (by rw[e];exact True.intro) (.inr ho) (fun b q hb z=>(sb.2 b hb).trans z) hd ?_
 refine⟨by rw[zd O.ne];exact ho,?_,O.ne,O'.obj,_,O'.ns,fun g=>?_,fun g hg=>?_⟩
 ·have:=z3D f y fs;omega
 ·show RelO ((putF f y fs).lookup g) (if g=f then some u else mA g)
  rw[z55]
  by_cases q:g=f
  ·rw[if_pos q,if_pos q];exact ry
  ·rw[if_neg q,if_neg q];exact r g
 ·by_cases q:g=f
  ·rw[q];exact(z56 f y fs).1
  ·refine(z56 f y fs).2 g (wi g fun z=>hg ?_)
   show(if g=f then some u else mA g)=none
   rw[if_neg q];exact z
theorem Inv.made(I:Inv X pins σ H s):Inv X pins σ (upd (upd H s.heap.objs.size (.own (s.heap.objs.size + 1))) (s.heap.objs.size + 1) (.ins C s.heap.objs.size []))
  {s with heap:=(s.heap.push PySem.W.emptyDict).push (PySem.W.instObj C s.heap.objs.size)}:=by
 have e1:(s.heap.push PySem.W.emptyDict).get? s.heap.objs.size=some PySem.W.emptyDict:=Heap.get?_push_size s.heap rfl
 have e2:((s.heap.push PySem.W.emptyDict).push (PySem.W.instObj C s.heap.objs.size)).get? (s.heap.objs.size + 1)=some (PySem.W.instObj C s.heap.objs.size):=by
  have:=Heap.get?_push_size (s.heap.push PySem.W.emptyDict) (o:=PySem.W.instObj C s.heap.objs.size) rfl
  rwa [Heap.size_push]at this
 have e3:(s.heap.push PySem.W.emptyDict).Ns s.heap.objs.size (fun _=>none):=⟨PySem.W.emptyDict,#[],_,e1,rfl,(fun e he=>absurd he (by simp)),fun _=>rfl⟩
 have I1:=I.laid (a:=s.heap.objs.size) (o:=.own (s.heap.objs.size + 1)) (h':=s.heap.push PySem.W.emptyDict) (t':=s.toks) (fun b u q=>Heap.get?_push_of_some _ q) (Nat.le_refl _) ⟨_,e1⟩
 refine I1.laid (a:=s.heap.objs.size + 1) (o:=.ins C s.heap.objs.size []) (t':=s.toks) (fun b u q=>Heap.get?_push_of_some _ q) (Nat.le_of_eq (Heap.size_push _ _)) ?_
 have ne:s.heap.objs.size≠s.heap.objs.size + 1:=Nat.ne_of_lt (Nat.lt_succ_self _)
 refine⟨by rw[zd ne,ze],Nat.zero_le _,ne,e2,fun _=>none,(Heap.Ns1.of_empty e3).at fun o q=>Heap.get?_push_of_some _ q,fun _=>True.intro,fun y hy=>absurd rfl hy⟩
theorem zda{prog:Program}{w:World}{env:Env}{e:Expr}{f:Str}{pos:Pos}{s:Shared}{Q:Value->Shared->Prop}(hb:attributeBase e f env (eval e env)=eval e env)
  (h:wpAny (model prog w) A (eval e env) (fun o s₁=>wpAny (model prog w) A (getAttr o f true) Q E s₁) E s):wpAny (model prog w) A (eval (.Attribute e f pos) env) Q E s :=
 Attribute_any_ h (by rw[arm_eval_Attribute,hb])
end
def tFld(K:PySem.W.Frag)(ta:TE)(f:Str):TE:=fun σ H Q=>ta σ H fun x H1=>∃ a C dx fs v,x=.ref a/\H1 a=some (.ins C dx fs)/\Cls K C/\NoAttr K C f/\fs.lookup f=some v/\Q v H1
def sFld(K:PySem.W.Frag)(ta tv:TE)(f:Str):TS:=fun D σ H=>tv σ H fun y H1=>ta σ H1 fun x H2=>∃ a C dx fs,x=.ref a/\H2 a=some (.ins C dx fs)/\Cls K C/\NoAttr K C f/\fs.length < 1000 /\
 D.nx σ (upd H2 a (.ins C dx (putF f y fs)))
def InOp(X:Cx)(op:Operator)(rd:V->V->Hp->VK->Prop):Prop :=
 ∀ (pins:List (Addr × Obj)) (s:Shared) (σ:St) (H:Hp) (x y:V) (u v:Value) (Q:VK),Inv X pins σ H s->RelV x u->RelV y v->rd x y H Q->wpAny (model X.prog X.w) X.A (inplaceOp op u v) (EP X pins σ Q) X.xe s
def sFldAug(K:PySem.W.Frag)(ta tv:TE)(rd:V->V->Hp->VK->Prop)(f:Str):TS:=fun D σ H=>ta σ H fun x H1=>∃ a C dx fs v,x=.ref a/\H1 a=some (.ins C dx fs)/\Cls K C/\NoAttr K C f/\fs.lookup f=some v /\
 tv σ H1 fun y H2=>rd v y H2 fun z H3=>∃ dx' fs',H3 a=some (.ins C dx' fs')/\fs'.length < 1000/\D.nx σ (upd H3 a (.ins C dx' (putF f z fs')))
section
variable {X:Cx} {o e value:Expr} {f:Str} {pos pos' tpos:Pos} {ta tv:TE}
theorem z5Z(he:PE X e ta)(hb:attributeBase e f X.env (eval e X.env)=eval e X.env):PE X (.Attribute e f pos) (tFld X.K ta f):=by
 intro pins s σ H Q I h
 refine zda hb (thn (he pins s σ H _ I h) fun u s1 zhh=>?_)
 obtain⟨x,H1,I1,rx,a,C,dx,fs,v,ex,ea,c,n,l,q⟩:=zhh
 subst ex
 obtain rfl:u=Value.ref a:=rx
 exact z5X I1 ea c n l fun u' s2 I2 ru=>⟨v,H1,I2,ru,q⟩
theorem z3T(ha:PE X o ta)(hv:PE X value tv)(hs:swapsWith value (some (.Attribute o f pos')) pos.line X.env=pure false):PS X (.Assign [.Attribute o f pos'] value pos) (sFld X.K ta tv f):=by
 intro pins s σ H D I h
 refine plainObj_wpAny_Assign_Attribute (thn (hv pins s σ H _ I h) fun u s1 ⟨y,H1,I1,ry,q⟩=>thn (ha pins s1 σ H1 _ I1 q) fun ov s2 zhi=>?_) hs
 obtain⟨x,H2,I2,rx,a,C,dx,fs,ex,ea,c,n,l,q2⟩:=zhi
 subst ex
 obtain rfl:ov=Value.ref a:=rx
 exact z4e I2 ea c n l ry fun s3 I3=>⟨σ,_,I3,q2⟩
theorem z6S{op:Operator}{rd:V->V->Hp->VK->Prop}(ha:PE X o ta)(hv:PE X value tv)(hop:InOp X op rd):PS X (.AugAssign (.Attribute o f tpos) op value pos) (sFldAug X.K ta tv rd f):=by
 intro pins s σ H D I h
 refine wpAny_AugAssign_AttributeAny (thn (ha pins s σ H _ I h) fun ov s1 zhj=>?_)
 obtain⟨x,H1,I1,rx,a,C,dx,fs,v,ex,ea,c,n,l,q⟩:=zhj
 subst ex
 obtain rfl:ov=Value.ref a:=rx
 refine z5X I1 ea c n l fun u s2 I2 ru=>thn (hv pins s2 σ H1 _ I2 q) fun w3 s3 ⟨y,H2,I3,ry,q3⟩=>thn (hop pins s3 σ H2 v y u w3 _ I3 ru ry q3) fun w4 s4 zhk=>?_
 obtain⟨z,H3,I4,rz,dx',fs',ea',l',q4⟩:=zhk
 exact z4e I4 ea' c n l' rz fun s5 I5=>⟨σ,_,I5,q4⟩
def rAdd:V->V->Hp->VK->Prop:=fun x y H Q=>∃ i j,x=.int i/\y=.int j/\Q (.int (i + j)) H
theorem zcz:InOp X .Add rAdd:=by
 rintro pins s σ H x y u v Q I rx ry ⟨i,j,rfl,rfl,q⟩
 obtain⟨t,rfl⟩:=(show ∃ t,u=Value.int i t from rx)
 obtain⟨t',rfl⟩:=(show ∃ t',v=Value.int j t' from ry)
 exact PyProof.Rows.iadd_int ⟨.int (i + j),H,I.tok _,⟨_,rfl⟩,q⟩
end
section
variable {X:Cx} {pins:List (Addr × Obj)} {σ:St} {H:Hp} {s:Shared} {A:Around} {E:Value->Shared->Prop} {Q:Value->Shared->Prop} {c:Value} {b:Bool}
end
end L2
namespace L2
open PySem PySem.Spec PyProof.Rows
structure Room(k:Nat)(A:Around):Prop where
 hd:A.handled=none
 dp:A.depth + 3 * k + 5 < recursionLimit
 un:A.units + 16 * k + 200 < cLine
theorem Room.mono{j k:Nat}{A:Around}(r:Room k A)(h:j<=k):Room j A:=⟨r.hd,by have:=r.dp;omega,by have:=r.un;omega⟩
theorem Room.deeper{k:Nat}{A:Around}(r:Room (k + 1) A)(env:Env):Room k (A.deeper env) :=
 ⟨r.hd,by have:=r.dp;show A.depth + 1 + 3 * k + 5 < _;omega,by have:=r.un;show A.units + 3 + 16 * k + 200 < _;omega⟩
theorem z96{A:Around}{C:Addr}{us:List Value}{kw:List (Str × Value)}:(A.under (.builtin "type.__call__" ⟨.ref C::us,kw⟩)).depth=A.depth + 1:=by
 first | rfl | simp[Around.under,Code.weight,Code.isCreation,Code.isGuard,Code.isCaller,Code.frames,Code.isFrame,guardIds]
theorem z97{A:Around}{C:Addr}{us:List Value}{kw:List (Str × Value)}:(A.under (.builtin "type.__call__" ⟨.ref C::us,kw⟩)).units=A.units + 1:=by
 first | rfl | simp[Around.under,Code.cUnits,Code.frames,Code.isFrame]
theorem Room.make{k:Nat}{A:Around}(r:Room (k + 1) A)(C:Addr)(us:List Value)(kw:List (Str × Value)):Room k (A.under (.builtin "type.__call__" ⟨.ref C::us,kw⟩)) :=
 ⟨r.hd,by have:=r.dp;rw[z96];omega,by have:=r.un;rw[z97];omega⟩
theorem Room.depth{k:Nat}{A:Around}(r:Room k A):A.depth < recursionLimit:=by have:=r.dp;omega
theorem Room.units{k:Nat}{A:Around}(r:Room k A):A.units + 64 < cLine:=by have:=r.un;omega
def tNil:TA:=fun _ H Q=>Q [] H
def tCons(ta:TE)(tr:TA):TA:=fun σ H Q=>ta σ H fun x H1=>tr σ H1 fun xs H2=>Q (x::xs) H2
section
variable {X:Cx} {e:Expr} {es:List Expr} {te:TE} {t:TA} {pos:Pos}
theorem z0U:PA X [] tNil:=fun _ _ _ _ H Q I h=>Calls.spliced_nil ⟨[],H,I,.nil,h⟩
theorem zS(ha:PE X e te)(hr:PA X es t)(hs:starEach (e::es) X.env=(false,eval e X.env)::starEach es X.env:=by rfl):PA X (e::es) (tCons te t):=by
 intro pos pins s σ H Q I h
 rw[hs]
 show wpAny _ _ (spliced ((false,eval e X.env)::backTo pos (starEach es X.env))) _ _ s
 refine Calls.spliced_cons (thn (ha pins s σ H _ I h) fun u s1 zhl=>?_)
 obtain⟨x,H1,I1,r1,q1⟩:=zhl
 exact thn (hr pos pins s1 σ H1 _ I1 q1) fun us s2 zhm=>(by obtain⟨xs,H2,I2,r2,q2⟩:=zhm;exact⟨x::xs,H2,I2,.cons r1 r2,q2⟩)
def tTup(t:TA):TE:=fun σ H Q=>t σ H fun xs H1=>xs.length<=sizeLine/\∀ p,H1 p=none->Q (.ref p) (upd H1 p (.tup xs))
def tLst(t:TA):TE:=fun σ H Q=>t σ H fun xs H1=>xs.length<=sizeLine/\∀ p,H1 p=none->Q (.ref p) (upd H1 p (.lst xs))
theorem z6T{x1}(h:PA X es t):PE X (.Tuple es x1 pos) (tTup t):=by
 intro pins s σ H Q I hq
 refine wpAny_Tuple_spliced (thn (h pos pins s σ H _ I hq) fun us s1 ⟨xs,H1,I1,r,z,q⟩=>⟨by rw[<- r.length];exact z,?_⟩)
 have hf:H1 s1.heap.objs.size=none:=I1.hok.fresh (Nat.le_refl _)
 refine⟨.ref s1.heap.objs.size,upd H1 s1.heap.objs.size (.tup xs),I1.laid (t':=s1.toks) (fun b u e=>Heap.get?_push_of_some _ e) (Nat.le_refl _) ?_,rfl,q _ hf⟩
 exact⟨z,us,r,⟨_,Heap.get?_push_size _ rfl,rfl,_,rfl⟩⟩
theorem za2(h:PA X es t):PE X (.List es pos) (tLst t):=by
 intro pins s σ H Q I hq
 refine wpAny_List_spliced (thn (h pos pins s σ H _ I hq) fun us s1 ⟨xs,H1,I1,r,z,q⟩=>⟨by rw[<- r.length];exact z,?_⟩)
 have hf:H1 s1.heap.objs.size=none:=I1.hok.fresh (Nat.le_refl _)
 refine⟨.ref s1.heap.objs.size,upd H1 s1.heap.objs.size (.lst xs),I1.laid (t':=s1.toks) (fun b u e=>Heap.get?_push_of_some _ e) (Nat.le_refl _) ?_,rfl,q _ hf⟩
 exact⟨z,us,0,r,Heap.get?_push_size _ rfl⟩
end
abbrev Sp:=List V->Hp->VK->XK->Prop
abbrev CXT:=List Env->Hp->Shared->XK->Value->Shared->Prop
structure Env0(P:Program)(w:World)(K:PySem.W.Frag)(mg:Str->Option Value)(base:Heap)(A:Around)(outer:List Env)(s:Shared)(H:Hp):Prop where
 frames:A.frames=some outer
 mod:Mod K mg base
 bs:∀ b o,base.get? b=some o->s.heap.get? b=some o/\H b=none
 bsz:base.objs.size<=s.heap.objs.size
 funs:s.heap.FunFrames base outer
 frf:∀ b∈frs outer,H b=none
 hok:HOk P w H s.heap
 bare:AllBare s.gens
def CE(outer:List Env)(P:Program)(w:World)(H:Hp)(s:Shared)(Q:VK)(u:Value)(s':Shared):Prop :=
 ∃ v H',s'.os=s.os/\AllBare s'.gens/\Un (frs outer) [] H H' s.heap s'.heap/\HOk P w H' s'.heap/\RelV v u/\Q v H'
def CR(CX:CXT)(outer:List Env)(P:Program)(w:World)(H:Hp)(s:Shared)(Q:VK)(E:XK)(r:Result)(s':Shared):Prop :=
 match r with
 | .ok (.ret u)=>CE outer P w H s Q u s'
 | .ok _=>False
 | .error e=>CX outer H s E e s'
structure FnOk(P:Program)(w:World)(K:PySem.W.Frag)(mg:Str->Option Value)(base:Heap)(CX:CXT)(k:Nat)(f:Addr)(fd:FuncData)(ps:List Str)(sp:Sp):Prop where
 len:∀ vs H Q E,sp vs H Q E->vs.length=ps.length
 run:∀ (A:Around) (outer:List Env) (s:Shared) (H:Hp) (args:Args) (us:List Value) (vs:List V) (Q:VK) (E:XK),Room k A->Env0 P w K mg base A outer s H->BindsTo s fd args (ps.zip us)->Vals vs us->sp vs H Q E ->
  codeAny (model P w) A (.call (.ref f) args) (CR CX outer P w H s Q E) s
theorem FnOk.imp{P:Program}{w:World}{K:PySem.W.Frag}{mg:Str->Option Value}{base:Heap}{CX:CXT}{k:Nat}{f:Addr}{fd:FuncData}{ps:List Str}{sp sp':Sp}(F:FnOk P w K mg base CX k f fd ps sp)
  (h:∀ vs H Q E,sp' vs H Q E->sp vs H Q E):FnOk P w K mg base CX k f fd ps sp' :=
 ⟨fun vs H Q E q=>F.len vs H Q E (h _ _ _ _ q),fun A outer s H args us vs Q E hr he hb hv hs=>F.run A outer s H args us vs Q E hr he hb hv (h _ _ _ _ hs)⟩
theorem Env0.make{P:Program}{w:World}{K:PySem.W.Frag}{mg:Str->Option Value}{base:Heap}{A:Around}{outer:List Env}{s:Shared}{H:Hp}(e:Env0 P w K mg base A outer s H)(C:Addr)(us:List Value)(kw:List (Str × Value)) :
  Env0 P w K mg base (A.under (.builtin "type.__call__" ⟨.ref C::us,kw⟩)) outer s H:=⟨by first | exact e.frames | (simpa [Around.under,Code.envs,Code.isFrame,pushEnvs] using e.frames),e.mod,e.bs,e.bsz,e.funs,e.frf,e.hok,e.bare⟩
section
variable {X:Cx} {pins:List (Addr × Obj)} {σ:St} {H:Hp} {s s':Shared}
theorem Inv.env0(I:Inv X pins σ H s):Env0 X.prog X.w X.K X.mg X.base X.A X.stack s H :=
 ⟨I.ok.frames,I.ok.mod,I.bs,Nat.le_trans I.ok.bsz I.sz,I.stack,I.stkFree,I.hok,I.bare⟩
theorem Inv.after{Q:VK}{u:Value}(I:Inv X pins σ H s)(h:CE X.stack X.prog X.w H s Q u s'):EP X pins σ Q u s':=by
 obtain⟨v,H',os,bare,un,hok,r,q⟩:=h
 obtain⟨hh,g,d,t,os'⟩:=s'
 obtain rfl:os'=s.os:=os
 exact⟨v,H',I.call (h':=hh) (g':=g) (d':=d) (t':=t) (ch:=[]) un hok bare (fun b z=>absurd z (by simp)),r,q⟩
end
def tCall(sp:Sp)(dvs:List V)(E:XK)(t:TA):TE:=fun σ H Q=>t σ H fun vs H1=>sp (vs++dvs) H1 Q E
def tMeth(C:Addr)(m:Str)(sp:Sp)(dvs:List V)(E:XK)(ta:TE)(t:TA):TE:=fun σ H Q=>ta σ H fun x H1=>∃ a dx fs,x=.ref a/\H1 a=some (.ins C dx fs)/\fs.lookup m=none /\
 t σ H1 fun vs H2=>sp (x::(vs++dvs)) H2 Q E
def tMake(C:Addr)(sp:Sp)(dvs:List V)(E:XK)(t:TA):TE:=fun σ H Q=>t σ H fun vs H1=>∀ x dx,H1 x=none->H1 dx=none->dx≠x ->
 sp (.ref x::(vs++dvs)) (upd (upd H1 dx (.own x)) x (.ins C dx [])) (fun v H2=>v=.non/\Q (.ref x) H2) E
def Binds(K:PySem.W.Frag)(fd:FuncData)(ps:List Str)(ds:List Value):Prop :=
 ∀ (s:Shared) (us:List Value),K.In s.heap->(us++ds).length=ps.length->BindsTo s fd ⟨us,[]⟩ (ps.zip (us++ds))
theorem Binds.all{K:PySem.W.Frag}{fd:FuncData}{ps:List Str}(h:∀ us:List Value,us.length=ps.length->bindArgs fd ⟨us,[]⟩=pure (ps.zip us)):Binds K fd ps []:=fun s us _ hl=>by
 rw[List.append_nil]at hl ⊢
 exact .of_eq (h us hl)
def Passes(CX:CXT)(X:Cx)(E:XK):Prop:=∀ (pins:List (Addr × Obj)) (σ:St) (H:Hp) (s:Shared) (e:Value) (s':Shared),Inv X pins σ H s->CX X.stack H s E e s'->X.xe e s'
section
variable {X:Cx} {CX:CXT} {k:Nat} {f C:Addr} {fd:FuncData} {ps:List Str} {sp:Sp} {dvs:List V} {ds:List Value} {E:XK} {x m:Str} {p pos apos:Pos} {e o:Expr} {es:List Expr} {ta:TE} {t:TA}
theorem za3{pins:List (Addr × Obj)}{σ:St}{H:Hp}{s:Shared}{Q:VK}{us:List Value}{vs:List V}(F:FnOk X.prog X.w X.K X.mg X.base CX k f fd ps sp)(hr:Room k X.A)(hb:Binds X.K fd ps ds)(hd:Vals dvs ds)(hx:Passes CX X E)
  (I:Inv X pins σ H s) (r:Vals vs us) (h:sp (vs++dvs) H Q E):wpAny (model X.prog X.w) X.A (call (.ref f) us) (EP X pins σ Q) X.xe s:=by
 have r2:Vals (vs++dvs) (us++ds):=r.append hd
 have hl:(us++ds).length=ps.length:=by rw[<- r2.length];exact F.len _ _ _ _ h
 refine wpAny_call (codeAny_mono (F.run X.A X.stack s H ⟨us,[]⟩ (us++ds) (vs++dvs) Q E hr I.env0 (hb s us I.kIn hl) r2 h) fun r s' hq=>?_)
 cases r with
 | error e=>exact hx pins σ H s e s' I hq
 | ok fl =>
  cases fl with
  | ret u=>exact I.after hq
  | next=>exact False.elim hq
  | brk=>exact False.elim hq
  | cont=>exact False.elim hq
theorem z7K(F:FnOk X.prog X.w X.K X.mg X.base CX k f fd ps sp)(hr:Room k X.A)(hg:Gl X x)(hm:X.mg x=some (.ref f))(hk:PySem.W.keepIn X.K (.ref f)=true)(hb:Binds X.K fd ps ds)(hd:Vals dvs ds)(hx:Passes CX X E)
  (ha:PA X (e::es) t) (hdb:(x == ("__debug__":Str))=false:=by decide) (he:starEach (e::es) X.env=(false,eval e X.env)::starEach es X.env:=by rfl) (hpl:(backTo pos (starEach es X.env)).any (·.1)=false:=by rfl) :
  PE X (.Call (.Name x p) (e::es) [] pos) (tCall sp dvs E t):=by
 intro pins s σ H Q I h
 refine wpAny_Call_Name_kw (z9O I hg hm ?_ hdb)
 refine PySem.W.callWith_K (h₀:=X.base) I.ok.mod.kin hk (thn (ha pos pins s σ H _ I h) fun us s1 ⟨vs,H1,I1,r,q⟩=>⟨I1.kIn,?_⟩) he hpl
 exact za3 F hr hb hd hx I1 r q
theorem za4{pl:Sem Bool}(he:PE X o ta)(c:Cls X.K C)(hm:Meth X.K C m f)(F:FnOk X.prog X.w X.K X.mg X.base CX k f fd ps sp)(hr:Room k X.A)(hb:Binds X.K fd ps ds)(hd:Vals dvs ds)(hx:Passes CX X E)(ha:PA X (e::es) t)
  (hst:starEach (e::es) X.env=(false,eval e X.env)::starEach es X.env:=by rfl) (hpl:(backTo pos (starEach es X.env)).any (·.1)=false:=by rfl)
  (ht:eval (.Call (.Attribute o m apos) (e::es) [] pos) X.env=(do
   let ov <- eval o X.env
   standAt apos.atName
   let (f,first) <- holding [ov] (getMethod ov m pl)
   callWith pos f first (backTo pos (starEach (e::es) X.env)) (backToKw pos (keywordEach [] X.env))):=by rfl) :
  PE X (.Call (.Attribute o m apos) (e::es) [] pos) (tMeth C m sp dvs E ta t):=by
 intro pins s σ H Q I h
 refine PySem.W.methodCall_KW (pl:=pl) (thn (he pins s σ H _ I h) fun u s1 zhn=>?_) ht
 obtain⟨x,H1,I1,rx,a,dx,fs,ex,ea,l,q⟩:=zhn
 subst ex
 obtain rfl:u=Value.ref a:=rx
 refine z5Y I1 ea c hm l ?_
 refine PySem.W.callWith_K (first:=[.ref a]) (h₀:=X.base) I.ok.mod.kin hm.kp (thn (ha pos pins s1 σ H1 _ I1 q) fun us s2 ⟨vs,H2,I2,r,q2⟩=>⟨I2.kIn,?_⟩) hst hpl
 exact za3 (us:=.ref a::us) (vs:=.ref a::vs) F hr hb hd hx I2 (.cons rfl r) q2
theorem zbw{pl:Sem Bool}(he:PE X o ta)(c:Cls X.K C)(hm:Meth X.K C m f)(F:FnOk X.prog X.w X.K X.mg X.base CX k f fd ps sp)(hr:Room k X.A)(hb:Binds X.K fd ps ds)(hd:Vals dvs ds)(hx:Passes CX X E)
  (ht:eval (.Call (.Attribute o m apos) [] [] pos) X.env=(do
   let ov <- eval o X.env
   standAt apos.atName
   let (f,first) <- holding [ov] (getMethod ov m pl)
   callWith pos f first (backTo pos (starEach [] X.env)) (backToKw pos (keywordEach [] X.env))):=by rfl) :
  PE X (.Call (.Attribute o m apos) [] [] pos) (tMeth C m sp dvs E ta tNil):=by
 intro pins s σ H Q I h
 refine PySem.W.methodCall_KW (pl:=pl) (thn (he pins s σ H _ I h) fun u s1 zho=>?_) ht
 obtain⟨x,H1,I1,rx,a,dx,fs,ex,ea,l,q⟩:=zho
 subst ex
 obtain rfl:u=Value.ref a:=rx
 refine z5Y I1 ea c hm l ?_
 exact PySem.W.callWith_K0 (first:=[.ref a]) I1.kIn hm.kp (za3 (us:=[.ref a]) (vs:=[.ref a]) F hr hb hd hx I1 (.cons rfl .nil) q)
structure Mk(K:PySem.W.Frag)(C f:Addr):Prop where
 makes:PySem.W.makesIn K C=true
 init:PySem.W.findIn K (.ref C) "__init__"=some (some (.ref f))
 fn:PySem.W.isFn K (.ref f)=true
 kp:PySem.W.keepIn K (.ref C)=true
theorem zbx{pins:List (Addr × Obj)}{σ:St}{H:Hp}{s:Shared}{Q:VK}{us:List Value}{vs:List V}(M:Mk X.K C f)(F:FnOk X.prog X.w X.K X.mg X.base CX k f fd ps sp)(hr:Room (k + 1) X.A)(hb:Binds X.K fd ps ds)(hd:Vals dvs ds)
  (hx:Passes CX X E) (I:Inv X pins σ H s) (r:Vals vs us)
  (h:∀ x dx,H x=none->H dx=none->dx≠x->sp (.ref x::(vs++dvs)) (upd (upd H dx (.own x)) x (.ins C dx [])) (fun v H2=>v=.non/\Q (.ref x) H2) E) :
  wpAny (model X.prog X.w) X.A (call (.ref C) us) (EP X pins σ Q) X.xe s:=by
 have hq:=h (s.heap.objs.size + 1) s.heap.objs.size (I.hok.fresh (Nat.le_succ _)) (I.hok.fresh (Nat.le_refl _)) (Nat.ne_of_lt (Nat.lt_succ_self _))
 have I2:=Inv.made (C:=C) I
 have r2:Vals (V.ref (s.heap.objs.size + 1)::(vs++dvs)) (Value.ref (s.heap.objs.size + 1)::(us++ds)):=.cons rfl (r.append hd)
 have hl:(Value.ref (s.heap.objs.size + 1)::us++ds).length=ps.length:=by
  have e:=r2.length
  rw[F.len _ _ _ _ hq]at e
  exact e.symm
 refine wpAny_call (zbv (f:=f) I.kIn M.makes M.init (beq_iff_eq.mp M.fn) (codeAny_mono (F.run _ X.stack _ _ ⟨Value.ref (s.heap.objs.size + 1)::us,[]⟩ (Value.ref (s.heap.objs.size + 1)::(us++ds)) _ _ E (hr.make C us [])
  (I2.env0.make C us []) (hb _ (Value.ref (s.heap.objs.size + 1)::us) I2.kIn hl) r2 hq) fun r s' hq'=>?_))
 cases r with
 | error e=>exact hx pins σ _ _ e s' I2 hq'
 | ok fl =>
  cases fl with
  | ret u =>
   obtain⟨v,H',I3,rv,ev,q3⟩:=I2.after hq'
   subst ev
   exact⟨rv,⟨V.ref (s.heap.objs.size + 1),H',I3,rfl,q3⟩⟩
  | next=>exact False.elim hq'
  | brk=>exact False.elim hq'
  | cont=>exact False.elim hq'
theorem za5(M:Mk X.K C f)(F:FnOk X.prog X.w X.K X.mg X.base CX k f fd ps sp)(hr:Room (k + 1) X.A)(hg:Gl X x)(hm:X.mg x=some (.ref C))(hb:Binds X.K fd ps ds)(hd:Vals dvs ds)(hx:Passes CX X E)
  (ha:PA X (e::es) t) (hdb:(x == ("__debug__":Str))=false:=by decide) (he:starEach (e::es) X.env=(false,eval e X.env)::starEach es X.env:=by rfl) (hpl:(backTo pos (starEach es X.env)).any (·.1)=false:=by rfl) :
  PE X (.Call (.Name x p) (e::es) [] pos) (tMake C sp dvs E t):=by
 intro pins s σ H Q I h
 refine wpAny_Call_Name_kw (z9O I hg hm ?_ hdb)
 refine PySem.W.callWith_K (h₀:=X.base) I.ok.mod.kin M.kp (thn (ha pos pins s σ H _ I h) fun us s1 ⟨vs,H1,I1,r,q⟩=>⟨I1.kIn,?_⟩) he hpl
 exact zbx M F hr hb hd hx I1 r q
end
section
variable {X:Cx} {CX:CXT} {k:Nat} {f C:Addr} {fd:FuncData} {ps ks:List Str} {sp:Sp} {E:XK} {x m:Str} {p pos apos kpos:Pos} {e o:Expr} {es:List Expr} {kws:List Keyword} {te ta:TE} {t tk:TA} {nm:Option Str}
variable {g:List Value->List Value->List Value} {gV:List V->List V->List V}
end
structure FnScope(N P:List Str)(sc:Scope):Prop where
 kind:sc.kind=.function
 co:sc.isCoroutine=false
 gen:sc.isGenerator=false
 nd:N.Nodup
 pre:N.take P.length=P
 par:∀ x∈P,sc.names.lookup x=some .local\/sc.names.lookup x=some .cell
 nofree:∀ y∈sc.names,y.2≠.free
theorem z6U{kindOf:Str->Option NameKind}{x:Str}:∀ {binds:List (Str × Value)} {m:Str->Option Value},(∀ v,(x,v) ∉ binds)->bindL kindOf binds m x=m x
 | [],_,_=>rfl
 | (n,v)::r,m,h=>by
  unfold bindL
  rw[z6U fun w hw=>h w (List.mem_cons_of_mem _ hw)]
  split
  ·have:x≠n:=by rintro rfl;exact h v List.mem_cons_self
   simp[this]
  ·rfl
theorem z6V{kindOf:Str->Option NameKind}{x:Str}:∀ {binds:List (Str × Value)} {m:Str->Option Value},(∀ v,(x,v) ∉ binds)->bindC kindOf binds m x=m x
 | [],_,_=>rfl
 | (n,v)::r,m,h=>by
  unfold bindC
  rw[z6V fun w hw=>h w (List.mem_cons_of_mem _ hw)]
  split
  ·rfl
  ·have:x≠n:=by rintro rfl;exact h v List.mem_cons_self
   simp[this]
theorem z6W{kindOf:Str->Option NameKind}{x:Str}{v:Value}:∀ {P:List Str} {vs:List Value} {i:Nat} {m:Str->Option Value},P.Nodup->P[i]?=some x->vs[i]?=some v->kindOf x=some .local ->
  bindL kindOf (P.zip vs) m x=some v
 | [],_,_,_,_,h,_,_=>by simp at h
 | _::_,[],_,_,_,_,h,_=>by simp at h
 | p::P,w::vs,0,m,nd,h1,h2,hk=>by
  simp at h1 h2;subst h1;subst h2
  show bindL kindOf ((p,w)::P.zip vs) m p=_
  unfold bindL
  rw[z6U fun v hv=>(List.nodup_cons.mp nd).1 (List.of_mem_zip hv).1,if_pos hk]
  simp
 | p::P,w::vs,i + 1,m,nd,h1,h2,hk=>by
  show bindL kindOf ((p,w)::P.zip vs) m x=_
  unfold bindL
  exact z6W (i:=i) (List.nodup_cons.mp nd).2 (by simpa using h1) (by simpa using h2) hk
theorem z6X{kindOf:Str->Option NameKind}{x:Str}{v:Value}:∀ {P:List Str} {vs:List Value} {i:Nat} {m:Str->Option Value},P.Nodup->P[i]?=some x->vs[i]?=some v->kindOf x≠some .local ->
  bindC kindOf (P.zip vs) m x=some v
 | [],_,_,_,_,h,_,_=>by simp at h
 | _::_,[],_,_,_,_,h,_=>by simp at h
 | p::P,w::vs,0,m,nd,h1,h2,hk=>by
  simp at h1 h2;subst h1;subst h2
  show bindC kindOf ((p,w)::P.zip vs) m p=_
  unfold bindC
  rw[z6V fun v hv=>(List.nodup_cons.mp nd).1 (List.of_mem_zip hv).1,if_neg hk]
  simp
 | p::P,w::vs,i + 1,m,nd,h1,h2,hk=>by
  show bindC kindOf ((p,w)::P.zip vs) m x=_
  unfold bindC
  exact z6X (i:=i) (List.nodup_cons.mp nd).2 (by simpa using h1) (by simpa using h2) hk
def start(N:List Str)(vs:List V):St:=vs.map some++List.replicate (N.length - vs.length) none
def cxOf(CX:CXT)(P:Program)(w:World)(K:PySem.W.Frag)(mg:Str->Option Value)(base:Heap)(N:List Str)(qual:Str)(scope:Scope)(f:Addr)(cd:Value)(A:Around)(outer:List Env)(s:Shared)(H:Hp)(E:XK):Cx where
 prog:=P
 w:=w
 K:=K
 mg:=mg
 base:=base
 A:=A.deeper (envOfC qual scope s.heap.objs.size f cd)
 N:=N
 s₀:=s
 H₀:=H
 env:=envOfC qual scope s.heap.objs.size f cd
 outer:=outer
 stack:=envOfC qual scope s.heap.objs.size f cd::outer
 ex:=[]
 calm:=true
 fn:=fun _=>true
 pn:=[]
 xe:=fun e s'=>wpAny (model P w) (A.deeper (envOfC qual scope s.heap.objs.size f cd)) (leaving (envOfC qual scope s.heap.objs.size f cd) e) (fun _ s''=>CX outer H s E e s'') (fun e' s''=>CX outer H s E e' s'') s'
theorem z0r{sc:Scope}{n:Nat}{x:Str}(h:sc.names.lookup x=some .cell):∃ c,(cellsFrom n sc.names []).lookup x=some c:=by
 have q:=PySem.W.cellsFrom_some sc.names n [] (.inl h)
 exact Option.isSome_iff_exists.mp q
theorem za6{CX:CXT}{P:Program}{w:World}{K:PySem.W.Frag}{mg:Str->Option Value}{base:Heap}{N ps:List Str}{qual:Str}{scope:Scope}{f:Addr}{cd:Value}{A:Around}{outer:List Env}{s s1:Shared}{H:Hp}{E:XK}{us:List Value}{vs:List V}
  (S:FnScope N ps scope) (hd:A.handled=none) (e0:Env0 P w K mg base A outer s H) (hl:vs.length=ps.length) (r:Vals vs us)
  (x:InCallC s s.heap.objs.size (bindL (envOfC qual scope s.heap.objs.size f cd).kindOf (ps.zip us) fun _=>none) (cellsFrom (s.heap.objs.size + 1) scope.names []) (bindC (envOfC qual scope s.heap.objs.size f cd).kindOf (ps.zip us) fun _=>none) s1) :
  Inv (cxOf CX P w K mg base N qual scope f cd A outer s H E) [] (start N vs) H s1:=by
 have hpl:ps.length<=N.length:=by have:=congrArg List.length S.pre;rw[List.length_take]at this;omega
 obtain⟨h1,tk,rfl,hk⟩:=x.done
 have noA:∀ b:Addr,b ∉ (cxOf CX P w K mg base N qual scope f cd A outer s H E).ex:=fun b z=>absurd (show b∈([]:List Addr) from z) (by simp)
 refine⟨⟨e0.mod,S.kind,rfl,rfl,Nat.le_refl _,fun y z c h1 h2=>?_,fun y hy=>?_,fun y c _ h=>?_,fun _=>hd,Around.frames_deeper e0.frames,.inr ⟨rfl,rfl⟩,fun b z=>absurd z (noA b),e0.bs,e0.bsz,fun b _ _=>noA b,fun b z=>absurd z (noA b),e0.funs,e0.frf⟩,
  rfl,e0.bare,Un.kept hk,⟨_,x.toInCall.ns,fun i y v h1 h2 h3=>?_⟩,fun y c h=>⟨_,x.cell y c h⟩,e0.hok.fresh (Nat.le_refl _),fun y c h=>?_,fun p hp=>absurd (show p∈([]:List (Addr × Obj)) from hp) (by simp),e0.hok.kept hk,?_⟩
 ·exact name_of_addr x.apart (PySem.mem_of_lookup h1) (PySem.mem_of_lookup h2)
 ·have hy:scope.names.lookup y=some .cell\/scope.names.lookup y=some .free:=hy
  rcases hy with hy | hy
  ·exact z0r hy
  ·exact absurd rfl (S.nofree _ (PySem.mem_of_lookup hy))
 ·exact Nat.le_of_lt (x.above y c (PySem.mem_of_lookup h))
 ·have hi:i < vs.length:=by
   unfold start at h2
   by_cases hi:i < vs.length
   ·exact hi
   ·rw[List.getElem?_append_right (by simpa using hi)]at h2
    rw[List.getElem?_replicate]at h2
    split at h2 <;> cases h2
  have ha:vs[i]?=some v:=by
   unfold start at h2
   rw[List.getElem?_append_left (by simpa using hi),List.getElem?_map]at h2
   cases e:vs[i]? with
   | none=>rw[e]at h2;cases h2
   | some a=>rw[e]at h2;cases h2;rfl
  obtain⟨u,hu,rv⟩:=r.get ha
  have hp:ps[i]?=some y:=by
   rw[<- S.pre,List.getElem?_take_of_lt (by omega)];exact h1
  have ndP:ps.Nodup:=by rw[<- S.pre];exact S.nd.sublist (List.take_sublist _ _)
  refine⟨u,rv,?_⟩
  rcases S.par y (List.mem_of_getElem? hp) with k | k
  ·exact .inl ⟨k,z6W ndP hp hu k⟩
  ·obtain⟨c,e⟩:=z0r (n:=s.heap.objs.size + 1) k
   refine .inr ⟨.inl k,c,e,?_⟩
   have q:=x.cell y c e
   rw[z6X ndP hp hu (by show scope.names.lookup y≠_;rw[k];decide)]at q
   exact q
 ·exact e0.hok.fresh (Nat.le_of_lt (x.above y c (PySem.mem_of_lookup h)))
 ·unfold start
  show _=N.length
  rw[List.length_append,List.length_map,List.length_replicate]
  omega
theorem zgN{CX:CXT}{P:Program}{w:World}{K:PySem.W.Frag}{mg:Str->Option Value}{base:Heap}{k:Nat}{f:Addr}{name qual:Str}{params:Arguments}{body:List Stmt}{scope:Scope}{dV kV doc pm cdv ct oc:Value}{an od:Option Addr}
  {osl:Array (Option Value)} {N ps:List Str} {sp:Sp} (lk:K.lookup f=some ⟨oc,od,.func (PySem.W.fnOf name qual params body scope dV kV doc pm an cdv ct),osl⟩) (hcd:PySem.W.codeIn K cdv qual=true) (S:FnScope N ps scope)
  (len:∀ vs H Q E,sp vs H Q E->vs.length=ps.length)
  (hbody:∀ (A:Around) (outer:List Env) (s:Shared) (H:Hp) (vs:List V) (Q:VK) (E:XK),Room k (A.deeper (envOfC qual scope s.heap.objs.size f cdv))->sp vs H Q E ->
   ∃ t,PSs (cxOf CX P w K mg base N qual scope f cdv A outer s H E) body t/\t {nx:=fun _ H'=>Q .non H',rt:=Q} (start N vs) H) :
  FnOk P w K mg base CX (k + 1) f (PySem.W.fnOf name qual params body scope dV kV doc pm an cdv ct) ps sp:=by
 refine⟨len,fun A outer s H args us vs Q E hr e0 hb r hsp=>?_⟩
 have hl:=len _ _ _ _ hsp
 have KX:K.In s.heap:=e0.mod.kin.keeps fun b o e=>(e0.bs b o e).1
 have lim:s.heap.NoLimit:=e0.mod.nolimit.keeps fun b o e=>(e0.bs b o e).1
 have hkind:∀ y∈ps.zip us,scope.names.lookup y.1=some .local\/(scope.names.lookup y.1=some .cell/\((cellsFrom (s.heap.objs.size + 1) scope.names []).lookup y.1).isSome=true):=fun zhp hy=>by
  obtain⟨n,v⟩:=zhp
  rcases S.par n (List.of_mem_zip hy).1 with q | q
  ·exact .inl q
  ·exact .inr ⟨q,PySem.W.cellsFrom_some _ _ _ (.inl q)⟩
 refine codeAny_call_function hr.depth (KX _ _ lk) rfl S.co S.gen rfl (PySem.W.codeRec_of KX hcd) (hb _ _ _ _ ?_)
 refine wpAny_newFunctionEnv_cells S.kind hkind fun env he s1 x=>?_
 subst he
 refine⟨lim.keeps x.toInCall.keep,codeAny_func ?_⟩
 obtain⟨t,ht,hq⟩:=hbody A outer s H vs Q E (hr.deeper _) hsp
 have I:Inv (cxOf CX P w K mg base N qual scope f cdv A outer s H E) [] (start N vs) H s1:=za6 S hr.hd e0 hl r x
 refine wpAny_mono (ht [] s1 (start N vs) H _ I hq) (fun fl s' hs=>?_) fun e s' hs=>hs
 have fin:∀ {σ':St} {H':Hp} {v:V} {u:Value},Inv (cxOf CX P w K mg base N qual scope f cdv A outer s H E) [] σ' H' s'->RelV v u->Q v H'->CE outer P w H s Q u s' :=
  fun{σ' H' v u} J rv q=>⟨v,H',J.os,J.bare,J.base,J.hok,rv,q⟩
 cases fl with
 | ret u =>
  obtain⟨v,σ',H',J,rv,q⟩:=hs
  exact fin J rv q
 | next =>
  obtain⟨σ',H',J,q⟩:=hs
  exact fin (v:=V.non) (u:=Value.none) J rfl q
 | brk =>
  obtain⟨_,_,_,q⟩:=hs
  exact False.elim q
 | cont =>
  obtain⟨_,_,_,q⟩:=hs
  exact False.elim q
end L2
namespace L2
open PySem PySem.Spec PyProof.Rows
section
variable {X:Cx} {x:Str} {p pos:Pos} {e:Expr} {es:List Expr} {t:TA} {id T:String} {r:List V->Hp->VK->Prop}
def tCB(r:List V->Hp->VK->Prop)(t:TA):TE:=fun σ H Q=>t σ H fun vs H1=>r vs H1 Q
theorem z3U(hc:CallR X (.builtin id) r)(hg:Gl X x)(hm:X.mg x=none)(hv:bootBuiltins x=some (.builtin id))(ha:PA X (e::es) t)(hn:x≠"__name__":=by decide)(hdb:(x == ("__debug__":Str))=false:=by decide)
  (he:starEach (e::es) X.env=(false,eval e X.env)::starEach es X.env:=by rfl) (hpl:(backTo pos (starEach es X.env)).any (·.1)=false:=by rfl):PE X (.Call (.Name x p) (e::es) [] pos) (tCB r t):=by
 intro pins s σ H Q I h
 refine wpAny_Call_Name_kw (z3S I hg hm hv ?_ hn hdb)
 exact PyProof.Rows.callWith_builtin1 (thn (ha pos pins s σ H _ I h) fun us s1 zhq=>(by obtain⟨vs,H1,I1,r1,q1⟩:=zhq;exact hc pins s1 σ H1 vs us Q I1 r1 q1)) he hpl
theorem z57(hc:CallR X (.type T) r)(hg:Gl X x)(hm:X.mg x=none)(hv:bootBuiltins x=some (.type T))(ha:PA X (e::es) t)(hn:x≠"__name__":=by decide)(hdb:(x == ("__debug__":Str))=false:=by decide)
  (he:starEach (e::es) X.env=(false,eval e X.env)::starEach es X.env:=by rfl) (hpl:(backTo pos (starEach es X.env)).any (·.1)=false:=by rfl):PE X (.Call (.Name x p) (e::es) [] pos) (tCB r t):=by
 intro pins s σ H Q I h
 refine wpAny_Call_Name_kw (z3S I hg hm hv ?_ hn hdb)
 exact PyProof.Rows.callWith_type1 (thn (ha pos pins s σ H _ I h) fun us s1 zhr=>(by obtain⟨vs,H1,I1,r1,q1⟩:=zhr;exact hc pins s1 σ H1 vs us Q I1 r1 q1)) he hpl
end
end L2
namespace HT
open PySem PyProof.Rows
section
open PySem.SeqAt
open PySem.AutoSeq1 (wpAny_loadPart')
open PySem.MeetsSeq PySem.MeetsSeq2 PySem.MeetsSeq3
end
section
variable {prog:Program} {w:World} {A:Around} {E:Value->Shared->Prop} {s:Shared}
theorem cat_tup{t b:Addr}{vs ws:List Value}{Q:Value->Shared->Prop}(ht:IsTup s.heap t vs.toArray)(hb:IsTup s.heap b ws.toArray)(hv:vs≠[])
  (h1:ws=[]->Q (.ref t) s) (h2:ws≠[]->Q (.ref s.heap.objs.size) {s with heap:=s.heap.push {cls:=.type "tuple",data:=.seq (vs++ws).toArray}})
  (hsz:vs.length + ws.length<=sizeLine):wpAny (model prog w) A (binaryOp .Add (.ref t) (.ref b)) Q E s:=by
 obtain⟨⟨cls,dd,data,sl⟩,ho,hc,n,hd⟩:=id ht
 obtain⟨⟨cls2,dd2,data2,sl2⟩,ho2,hc2,n2,hd2⟩:=id hb
 simp only at hc hd hc2 hd2
 subst hc hd hc2 hd2
 have e:vs.toArray++ws.toArray=(vs++ws).toArray:=by simp
 by_cases hw:ws=[]
 ·exact concat_meets ⟨_,ho,rfl⟩ ⟨_,ho2,rfl⟩ noFill_tuple_add seq_tuple_add PySem.F.slot_tuple_add PySem.F.entry_tuple_add (PySem.F.args_tuple_add_2 _ _)
   (tuple_addW1 t b vs.toArray ws.toArray n n2 dd dd2 sl sl2 (by simpa using hv) (by simp[hw])) ⟨ho,ho2,h1 hw⟩
 ·refine concat_meets ⟨_,ho,rfl⟩ ⟨_,ho2,rfl⟩ noFill_tuple_add seq_tuple_add PySem.F.slot_tuple_add PySem.F.entry_tuple_add (PySem.F.args_tuple_add_2 _ _)
   (tuple_addW2 t b vs.toArray ws.toArray n n2 dd dd2 sl sl2 (by simpa using hv) (by simpa using hw) (by rw[List.size_toArray,List.size_toArray];exact hsz)) ⟨ho,ho2,?_⟩
  rw[e]
  exact h2 hw
def sIx(n d:Nat):Option Int->Nat
 | none=>d
 | some v=>if v < 0 then (v + (n:Int)).toNat else min v.toNat n
theorem sIx_none(n d:Nat):sIx n d none=d:=rfl
theorem sIx_nat(n d k:Nat):sIx n d (some (k:Int))=min k n:=by
 show(if (k:Int) < 0 then ((k:Int) + (n:Int)).toNat else min (k:Int).toNat n)=min k n
 rw[if_neg (by omega),Int.toNat_natCast]
theorem zem(n d:Nat)(hd:d<=n)(o:Option Int):sIx n d o<=n:=by
 cases o with
 | none=>exact hd
 | some v =>
  show(if v < 0 then (v + (n:Int)).toNat else min v.toNat n)<=n
  by_cases hv:v < 0
  ·rw[if_pos hv];omega
  ·rw[if_neg hv];exact Nat.min_le_right _ _
theorem za7(v:Int)(n d:Nat):(if v < 0 then max (v + (n:Int)) 0 else min v (n:Int))=((sIx n d (some v):Nat):Int):=by
 show(if v < 0 then max (v + (n:Int)) 0 else min v (n:Int))=(((if v < 0 then (v + (n:Int)).toNat else min v.toNat n):Nat):Int)
 by_cases hv:v < 0
 ·simp only[if_pos hv];omega
 ·simp only[if_neg hv];omega
theorem z98(lo hi:Option Int)(n:Nat):Builtin.Slice.sliceAdjust lo hi 1 (n:Int)=(((sIx n 0 lo:Nat):Int),((sIx n n hi:Nat):Int)):=by
 have h1:¬ ((1:Int) < 0):=by omega
 unfold Builtin.Slice.sliceAdjust
 simp only[h1,if_false]
 refine Prod.ext ?_ ?_
 ·cases lo with
  | none=>rfl
  | some v=>exact za7 v n 0
 ·cases hi with
  | none=>rfl
  | some v=>exact za7 v n n
theorem z99(i j:Nat):Builtin.Slice.slicePlaces (i:Int) (j:Int) 1=j - i:=by
 unfold Builtin.Slice.slicePlaces
 have h1:(1:Int) > 0:=by omega
 simp only[h1,if_true,Int.ediv_one]
 split <;> omega
theorem z60{v:Value}{o:Option Int}{Q:Option Int->Shared->Prop}(p:IsPart v o)(h:Q o s):wpAny (model prog w) A (Builtin.Slice.slicePartIndex v) Q E s:=by
 cases p with
 | none=>exact slicePart_none h
 | int i t=>exact slicePart_int h
theorem z2L{sl:Addr}{vl vu:Value}{lo hi:Option Int}{n:Nat}{Q:Int × Int × Nat->Shared->Prop}(hs:s.heap.IsSliceOf sl vl vu .none)(pl:IsPart vl lo)(pu:IsPart vu hi)
  (h:Q (((sIx n 0 lo:Nat):Int),1,sIx n n hi - sIx n 0 lo) s):wpAny (model prog w) A (Builtin.Slice.sliceApplied (.ref sl) (pure (n:Int))) Q E s:=by
 obtain⟨os,hos,hcs,hds⟩:=id hs
 unfold Builtin.Slice.sliceApplied Builtin.Slice.sliceFields
 refine wpAny_bind (wpAny_bind (wpAny_field hos hds (x:=vl) rfl (wpAny_bind (wpAny_field hos hds (x:=vu) rfl (wpAny_bind (wpAny_field hos hds (x:=.none) rfl (wpAny_pure ?_)))))))
 refine wpAny_bind (slicePart_none ?_)
 show wpAny _ _ (if ((1:Int) == 0)=true then _ else _) _ _ s
 rw[if_neg (by decide)]
 refine wpAny_bind (z60 pl (wpAny_bind (z60 pu (wpAny_bind (wpAny_pure ?_)))))
 show wpAny _ _ (match Builtin.Slice.sliceAdjust lo hi 1 (n:Int) with | (lo,hi)=>pure (lo,(1:Int),Builtin.Slice.slicePlaces lo hi 1)) _ _ s
 rw[z98 lo hi n]
 show wpAny _ _ (pure (((sIx n 0 lo:Nat):Int),(1:Int),Builtin.Slice.slicePlaces ((sIx n 0 lo:Nat):Int) ((sIx n n hi:Nat):Int) 1)) _ _ s
 rw[z99]
 exact wpAny_pure h
theorem zby(xs:Array Value)(i k:Nat):((List.range k).filterMap fun(m:Nat)=>xs[((i:Int) + (m:Int) * 1).toNat]?).toArray=((xs.toList.drop i).take k).toArray:=by
 have e:(fun(m:Nat)=>xs[((i:Int) + (m:Int) * 1).toNat]?)=fun m=>xs[i + m]?:=by
  funext m
  have:((i:Int) + (m:Int) * 1).toNat=i + m:=by omega
  rw[this]
 rw[e]
 have:=pick_run xs i k
 rw[List.filterMap_map]at this
 have e2:((fun x=>xs[x]?) ∘ fun x=>i + x)=fun m=>xs[i + m]?:=rfl
 rw[e2]at this
 rw[this]
theorem getItem_tuple_cut{t sl:Addr}{items:Array Value}{vl vu:Value}{lo hi:Option Int}{Q:Value->Shared->Prop}(ht:IsTup s.heap t items)(hs:s.heap.IsSliceOf sl vl vu .none)(pl:IsPart vl lo)(pu:IsPart vu hi)
  (hw:¬ (sIx items.size 0 lo=0/\sIx items.size items.size hi=items.size))
  (h:Q (.ref s.heap.objs.size) {s with heap:=s.heap.push {cls:=.type "tuple",data:=.seq ((items.toList.drop (sIx items.size 0 lo)).take (sIx items.size items.size hi - sIx items.size 0 lo)).toArray}})
  (hsz:items.size<=sizeLine):wpAny (model prog w) A (getItem (.ref t) (.ref sl)) Q E s:=by
 have htake:sizeOk (.seq ((items.toList.drop (sIx items.size 0 lo)).take (sIx items.size items.size hi - sIx items.size 0 lo)).toArray):=by
  show((items.toList.drop (sIx items.size 0 lo)).take (sIx items.size items.size hi - sIx items.size 0 lo)).toArray.size<=sizeLine
  rw[List.size_toArray,List.length_take,List.length_drop,Array.length_toList]
  omega
 have hj:sIx items.size items.size hi<=items.size:=zem _ _ (Nat.le_refl _) hi
 obtain⟨os,hos,hcs,hds⟩:=id hs
 have hTs:s.TypeIs (.ref sl) "slice":=⟨os,hos,hcs⟩
 unfold getItem
 try with_reducible refine wpAny_holding ?_
 first | refine wpAny_bind (wpAny_pure ?_) | skip
 refine wpAny_bind (wpAny_sequenceKey ht.typeIs (by decide) ?_)
 refine wpAny_bind (wpAny_callSpecial?_slot (name:=Str.ofString "__getitem__") ht.typeIs PyProof.Rows.slot_tuple_getitem
  (wpAny_call_entry PyProof.Rows.slot_tuple_getitem ht.typeIs entry_tuple_getitem ?_ (args_tuple_getitem _ _)))
 show wpAny _ _ (Builtin.Tuple.tupleItemsOf (.ref t) >>= _) _ _ s
 refine wpAny_bind (tupleItemsOf_ ht ?_)
 refine wpAny_bind (wpAny_typeOf hTs ?_)
 rw[if_pos (by decide)]
 refine wpAny_bind (z2L hs pl pu ?_)
 have hno:¬ ((((sIx items.size 0 lo:Nat):Int) == 0 && (1:Int) == 1 && (sIx items.size items.size hi - sIx items.size 0 lo) == items.size)=true):=by
  intro q
  rw[Bool.and_eq_true,Bool.and_eq_true]at q
  have q1:((sIx items.size 0 lo:Nat):Int)=0:=eq_of_beq q.1.1
  have q2:sIx items.size items.size hi - sIx items.size 0 lo=items.size:=eq_of_beq q.2
  exact hw ⟨by omega,by omega⟩
 show wpAny _ _ (if (((sIx items.size 0 lo:Nat):Int) == 0 && (1:Int) == 1 && (sIx items.size items.size hi - sIx items.size 0 lo) == items.size)=true then _ else _) _ _ s
 rw[if_neg hno,zby]
 first
  | exact wpAny_bind (m:=Builtin.Tuple.tupleExact _) (wpAny_newObj_type (wpAny_pure ⟨_,rfl,wpAny_pure h⟩) htake)
  | exact wpAny_bind (m:=Builtin.Tuple.tupleExact _) (wpAny_newObj_type (wpAny_bind (wpAny_pure (wpAny_pure ⟨_,rfl,wpAny_pure h⟩))) htake)
  | exact wpAny_bind (wpAny_bind (m:=Builtin.Tuple.tupleExact _) (wpAny_newObj_type (wpAny_pure (wpAny_pure ⟨_,rfl,wpAny_pure h⟩)) htake))
  | exact wpAny_bind (wpAny_bind (m:=Builtin.Tuple.tupleExact _) (wpAny_newObj_type (wpAny_pure ⟨_,rfl,wpAny_pure h⟩) htake))
end
end HT
namespace L2
open PySem PySem.Spec PyProof.Rows
abbrev TO:=St->Hp->(Option Int->Hp->Prop)->Prop
def PO(X:Cx)(e:Option Expr)(t:TO):Prop :=
 ∀ (pins:List (Addr × Obj)) (s:Shared) (σ:St) (H:Hp) (Q:Option Int->Hp->Prop),Inv X pins σ H s->t σ H Q ->
  wpAny (model X.prog X.w) X.A (evalPart e X.env) (fun u s'=>∃ o H',Inv X pins σ H' s'/\IsPart u o/\Q o H') X.xe s
def tNoPart:TO:=fun _ H Q=>Q none H
def tPart(t:TE):TO:=fun σ H Q=>t σ H fun x H1=>∃ i,x=.int i/\Q (some i) H1
section
variable {X:Cx} {e:Expr} {te:TE} {lo hi:Option Expr} {tl th:TO} {pos p2:Pos}
theorem za8:PO X none tNoPart:=by
 intro pins s σ H Q I h
 rw[evalPart_none]
 exact wpAny_pure ⟨none,H,I,.none,h⟩
theorem za9(h:PE X e te):PO X (some e) (tPart te):=by
 intro pins s σ H Q I hw
 rw[evalPart_some]
 refine thn (h pins s σ H _ I hw) fun u s1 zhs=>?_
 obtain⟨x,H1,I1,r1,q1⟩:=zhs
 obtain⟨i,rfl,q⟩:=q1
 obtain⟨t,rfl⟩:=r1
 exact⟨some i,H1,I1,.int i t,q⟩
def SlR(X:Cx)(r:V->Option Int->Option Int->Hp->VK->Prop):Prop :=
 ∀ (pins:List (Addr × Obj)) (s:Shared) (σ:St) (H:Hp) (x:V) (v vl vu:Value) (lo hi:Option Int) (sl:Addr) (Q:VK),Inv X pins σ H s->RelV x v->s.heap.IsSliceOf sl vl vu .none->IsPart vl lo->IsPart vu hi->r x lo hi H Q ->
  ∃ T id,typeLookup (.type T) "__getitem__"=pure (some (.builtin id))/\s.TypeIs v T/\wpAny (model X.prog X.w) X.A (getItem v (.ref sl)) (EP X pins σ Q) X.xe s
theorem SlR.or{r r':V->Option Int->Option Int->Hp->VK->Prop}(h:SlR X r)(h':SlR X r'):SlR X (fun x lo hi H Q=>r x lo hi H Q\/r' x lo hi H Q):=by
 intro pins s σ H x v vl vu lo hi sl Q I rx hs pl pu q
 rcases q with q | q
 ·exact h pins s σ H x v vl vu lo hi sl Q I rx hs pl pu q
 ·exact h' pins s σ H x v vl vu lo hi sl Q I rx hs pl pu q
def tSl(r:V->Option Int->Option Int->Hp->VK->Prop)(te:TE)(tl th:TO):TE:=fun σ H Q=>te σ H fun x H1=>tl σ H1 fun l H2=>th σ H2 fun u H3=>r x l u H3 Q
theorem z8w{r:V->Option Int->Option Int->Hp->VK->Prop}(hr:SlR X r)(he:PE X e te)(hl:PO X lo tl)(hu:PO X hi th):PE X (.Subscript e (.Slice lo hi none p2) pos) (tSl r te tl th):=by
 intro pins s σ H Q I h
 refine Subscript_ (thn (he pins s σ H _ I h) fun v s1 zht=>?_)
 obtain⟨x,H1,I1,r1,q1⟩:=zht
 refine wpAny_Slice (thn (hl pins s1 σ H1 _ I1 q1) fun vl s2 ⟨l,H2,I2,pl,q2⟩=>thn (hu pins s2 σ H2 _ I2 q2) fun vu s3 zhu=>?_)
 obtain⟨u,H3,I3,pu,q3⟩:=zhu
 rw[evalPart_none]
 refine wpAny_pure ?_
 have I4:Inv X pins σ H3 {s3 with heap:=s3.heap.push {cls:=.type "slice",data:=.fields #[vl,vu,.none]}}:=I3.kept (t':=s3.toks) fun b ob q=>Heap.get?_push_of_some _ q
 obtain⟨T,id,hT,ht,hg⟩:=hr pins {s3 with heap:=s3.heap.push {cls:=.type "slice",data:=.fields #[vl,vu,.none]}} σ H3 x v vl vu l u s3.heap.objs.size Q I4 r1 (Heap.IsSliceOf.new ..) pl pu q3
 show wpAny (model X.prog X.w) X.A (subscriptTail e (.Slice lo hi none p2) v (.ref s3.heap.objs.size)) (EP X pins σ Q) X.xe {s3 with heap:=s3.heap.push {cls:=.type "slice",data:=.fields #[vl,vu,.none]}}
 exact tail_any (ops:=[.ref s3.heap.objs.size,v]) ht hT hg (by with_unfolding_all rfl)
def cutV(xs:List V)(lo hi:Option Int):List V:=(xs.drop (HT.sIx xs.length 0 lo)).take (HT.sIx xs.length xs.length hi - HT.sIx xs.length 0 lo)
theorem z58(xs:List V)(lo hi:Option Int):(cutV xs lo hi).length<=xs.length:=by
 unfold cutV
 rw[List.length_take,List.length_drop]
 omega
def rSlT(K:PySem.W.Frag):V->Option Int->Option Int->Hp->VK->Prop:=fun x lo hi H Q=>∃ a xs,x=.ref a/\SqT K H a xs /\
 ¬ (HT.sIx xs.length 0 lo=0/\HT.sIx xs.length xs.length hi=xs.length)/\∀ p,H p=none->Q (.ref p) (upd H p (.tup (cutV xs lo hi)))
theorem zen:SlR X (rSlT X.K):=by
 intro pins s σ H x v vl vu lo hi sl Q I rx hs pl pu h
 obtain⟨a,xs,rfl,hx,hw,q⟩:=h
 cases rx
 obtain⟨its,r,ht,hz⟩:=I.tuple hx
 have hlen:its.toArray.size=xs.length:=by rw[List.size_toArray];exact r.length.symm
 refine⟨"tuple",_,PyProof.Rows.slot_tuple_getitem.lookup,ht.typeIs,?_⟩
 refine HT.getItem_tuple_cut ht hs pl pu (by rw[hlen];exact hw) ?_ (by rw[hlen];exact hz)
 rw[hlen]
 refine⟨.ref s.heap.objs.size,_,I.laid (t':=s.toks) (o:=.tup (cutV xs lo hi)) (fun b ob q=>Heap.get?_push_of_some _ q) (Nat.le_refl _) ?_,rfl,q _ (I.hok.fresh (Nat.le_refl _))⟩
 exact⟨Nat.le_trans (z58 xs lo hi) hz,_,(r.drop (HT.sIx xs.length 0 lo)).take (HT.sIx xs.length xs.length hi - HT.sIx xs.length 0 lo),IsTup.new _ _⟩
def rCatT(K:PySem.W.Frag):R2:=fun x y H Q=>∃ a b xs ys,x=.ref a/\y=.ref b/\SqT K H a xs/\SqT K H b ys/\xs≠[]/\xs.length + ys.length<=sizeLine /\
 (ys=[]->Q (.ref a) H)/\(ys≠[]->∀ p,H p=none->Q (.ref p) (upd H p (.tup (xs++ys))))
theorem Vals.nil_iff{xs:List V}{us:List Value}(r:Vals xs us):us=[]↔xs=[]:=by
 cases r with
 | nil=>simp
 | cons _ _=>simp
theorem op_catT:OpR X (binaryOp .Add) (rCatT X.K):=by
 intro pins s σ H x y v u Q I rx ry h
 obtain⟨a,b,xs,ys,rfl,rfl,ha,hb,hx,hz,q1,q2⟩:=h
 cases rx
 cases ry
 obtain⟨its,r1,p1,_⟩:=I.tuple ha
 obtain⟨its2,r2,p2,_⟩:=I.tuple hb
 refine HT.cat_tup p1 p2 (fun z=>hx (r1.nil_iff.mp z)) (fun z=>⟨.ref a,H,I,rfl,q1 (r2.nil_iff.mp z)⟩) (fun z=>?_) (by rw[<- r1.length,<- r2.length];exact hz)
 refine⟨.ref s.heap.objs.size,_,I.laid (t':=s.toks) (o:=.tup (xs++ys)) (fun b ob q=>Heap.get?_push_of_some _ q) (Nat.le_refl _) ?_,rfl,q2 (fun w=>z (r2.nil_iff.mpr w)) _ (I.hok.fresh (Nat.le_refl _))⟩
 exact⟨by rw[List.length_append];exact hz,_,r1.append r2,IsTup.new _ _⟩
end
end L2
namespace L2
open PySem PySem.Spec PyProof.Rows
def ixN(n:Nat)(i:Int):Option Nat:=if 0<=i then (if i < n then some i.toNat else none) else if -(n:Int)<=i then some (i + n).toNat else none
def atI{α:Type}(xs:List α)(i:Int):Option α:=(ixN xs.length i).bind fun j=>xs[j]?
theorem zaa{n:Nat}{i:Int}{j:Nat}(h:ixN n i=some j):seqIndex? i n=some j/\j < n/\-(n:Int)<=i/\i < n:=by
 unfold ixN at h
 by_cases h0:0<=i
 ·rw[if_pos h0]at h
  by_cases h1:i < n
  ·rw[if_pos h1]at h
   have e:i.toNat=j:=Option.some.inj h
   exact⟨by rw[seqIndex_of h0 h1,e],by omega,by omega,h1⟩
  ·rw[if_neg h1]at h;cases h
 ·rw[if_neg h0]at h
  by_cases h1:-(n:Int)<=i
  ·rw[if_pos h1]at h
   have e:(i + n).toNat=j:=Option.some.inj h
   exact⟨by rw[seqIndex_neg (by omega) h1,e],by omega,h1,by omega⟩
  ·rw[if_neg h1]at h;cases h
theorem zab{α:Type}{xs:List α}{i:Int}{v:α}(h:atI xs i=some v):∃ j,seqIndex? i xs.length=some j/\xs[j]?=some v/\j < xs.length/\-(xs.length:Int)<=i/\i < xs.length:=by
 unfold atI at h
 cases e:ixN xs.length i with
 | none=>rw[e]at h;cases h
 | some j =>
  rw[e]at h
  obtain⟨h1,h2,h3,h4⟩:=zaa e
  exact⟨j,h1,h,h2,h3,h4⟩
theorem atI_nat{α:Type}{xs:List α}{j:Nat}{v:α}(h:xs[j]?=some v):atI xs (j:Int)=some v:=by
 have hj:j < xs.length:=(List.getElem?_eq_some_iff.mp h).1
 have e:ixN xs.length (j:Int)=some j:=by
  unfold ixN
  rw[if_pos (by omega),if_pos (by omega)];simp
 unfold atI;rw[e];exact h
theorem atI_last{α:Type}(xs:List α)(v:α):atI (xs++[v]) (-1)=some v:=by
 have hl:(xs++[v]).length=xs.length + 1:=by simp
 have e:ixN (xs++[v]).length (-1)=some xs.length:=by
  unfold ixN
  rw[hl,if_neg (by decide),if_pos (by omega)]
  congr 1
  omega
 unfold atI
 rw[e]
 show(xs++[v])[xs.length]?=some v
 simp
def PlainIx(b:Expr):Prop:=∀ o i,subscripted b false o i=operate [o,i] (getItem o i)
def IxR(X:Cx)(r:R2):Prop :=
 ∀ (value slice:Expr) (pins:List (Addr × Obj)) (s:Shared) (σ:St) (H:Hp) (x y:V) (v u:Value) (Q:VK),Inv X pins σ H s->RelV x v->RelV y u->r x y H Q ->
  subscripted slice false v u=operate [v,u] (getItem v u)->wpAny (model X.prog X.w) X.A (subscriptTail value slice v u) (EP X pins σ Q) X.xe s
def MtR(X:Cx)(id:String)(r:V->List V->Hp->VK->Prop):Prop :=
 ∀ (pins:List (Addr × Obj)) (s:Shared) (σ:St) (H:Hp) (x:V) (xs:List V) (v:Value) (us:List Value) (Q:VK),Inv X pins σ H s->RelV x v->Vals xs us->r x xs H Q ->
  wpAny (model X.prog X.w) X.A (call (.builtin id) (v::us)) (EP X pins σ Q) X.xe s
section
variable {X:Cx} {a b:Expr} {ta tb:TE} {pos:Pos}
theorem IxR.or{r r':R2}(h:IxR X r)(h':IxR X r'):IxR X (fun x y H Q=>r x y H Q\/r' x y H Q):=by
 intro value slice pins s σ H x y v u Q I rx ry q hs
 rcases q with q | q
 ·exact h value slice pins s σ H x y v u Q I rx ry q hs
 ·exact h' value slice pins s σ H x y v u Q I rx ry q hs
theorem zeo{r:R2}(hr:IxR X r)(ha:PE X a ta)(hb:PE X b tb)(hs:PlainIx b):PE X (.Subscript a b pos) (tOp r ta tb):=by
 intro pins s σ H Q I h
 exact Subscript_ (binT ha hb I h fun v u s2 x y H2 I2 rx ry q=>hr a b pins s2 σ H2 x y v u Q I2 rx ry q (hs _ _))
def rIxL(K:PySem.W.Frag):R2:=fun x y H Q=>∃ p xs i v,x=.ref p/\y=.int i/\SqL K H p xs/\atI xs i=some v/\Q v H
def rIxT(K:PySem.W.Frag):R2:=fun x y H Q=>∃ p xs i v,x=.ref p/\y=.int i/\SqT K H p xs/\atI xs i=some v/\Q v H
theorem ix_list:IxR X (rIxL X.K):=by
 intro value slice pins s σ H x y v u Q I rx ry h hs
 obtain⟨p,xs,i,z,rfl,rfl,hq,he,q⟩:=h
 cases rx
 obtain⟨t,rfl⟩:=ry
 obtain⟨its,r,pl,hz⟩:=I.list hq
 obtain⟨j,h1,h2,h3,h4,h5⟩:=zab he
 obtain⟨w,ew,rw'⟩:=r.get h2
 have hl:=r.length
 have hn:=line63
 have fin:EP X pins σ Q w s:=⟨z,H,I,rw',q⟩
 by_cases h0:0<=i
 ·have hj:i.toNat=j:=by
   rw[seqIndex_of h0 h5]at h1
   exact Option.some.inj h1
  exact item_listR pl.isList h0 (by omega) (by rw[hj];simpa using ew) fin hs
 ·have hj:(i + (its.toArray.size:Int)).toNat=j:=by
   rw[seqIndex_neg (by omega) h4]at h1
   rw[List.size_toArray,<- hl]
   exact Option.some.inj h1
  exact subscriptTail_builtinR (x:=w) pl.isList.typeIs slot_list_getitem.lookup
   (wpAny_getItem_list_neg (Q:=fun r s'=>r=w/\EP X pins σ Q r s') pl.isList (by omega) (by rw[List.size_toArray] <;> omega) (by omega) (by rw[hj];simpa using ew) ⟨rfl,fin⟩) hs
theorem zep:IxR X (rIxT X.K):=by
 intro value slice pins s σ H x y v u Q I rx ry h hs
 obtain⟨p,xs,i,z,rfl,rfl,hq,he,q⟩:=h
 cases rx
 obtain⟨t,rfl⟩:=ry
 obtain⟨its,r,pl,hz⟩:=I.tuple hq
 obtain⟨j,h1,h2,h3,h4,h5⟩:=zab he
 obtain⟨w,ew,rw'⟩:=r.get h2
 have hl:=r.length
 have hn:=line63
 have fin:EP X pins σ Q w s:=⟨z,H,I,rw',q⟩
 exact subscriptTail_builtinR (x:=w) pl.typeIs slot_tuple_getitem.lookup
  (getItem_tuple (j:=j) (Q:=fun r s'=>r=w/\EP X pins σ Q r s') pl (by omega) (by omega) (by rw[List.size_toArray,<- hl];exact h1) (by simpa using ew) ⟨rfl,fin⟩) hs
theorem z9a(its:List Value)(n j:Nat)(u:Value):Obj.mapSeq (·.setIfInBounds j u) {cls:=.type "list",data:=.seq its.toArray n}={cls:=.type "list",data:=.seq (its.set j u).toArray n}:=by
 simp[Obj.mapSeq]
theorem Inv.lst{pins:List (Addr × Obj)}{σ:St}{H:Hp}{s:Shared}{p:Addr}{xs:List V}(I:Inv X pins σ H s)(h:H p=some (.lst xs)) :
  ∃ (its:List Value) (n:Nat),Vals xs its/\s.heap.get? p=some {cls:=.type "list",data:=.seq its.toArray n}/\xs.length<=sizeLine:=by
 obtain⟨z,its,n,r,e⟩:=I.hok p _ h
 exact⟨its,n,r,e,z⟩
theorem Inv.lstUpd{pins:List (Addr × Obj)}{σ:St}{H:Hp}{s:Shared}{p:Addr}{xs ys:List V}{its its':List Value}{n n':Nat}{f:Obj->Obj}(I:Inv X pins σ H s)(h:H p=some (.lst xs))
  (ho:s.heap.get? p=some {cls:=.type "list",data:=.seq its.toArray n}) (hf:f {cls:=.type "list",data:=.seq its.toArray n}={cls:=.type "list",data:=.seq its'.toArray n'}) (r:Vals ys its') (hz:ys.length<=sizeLine) (t:Nat) :
  Inv X pins σ (upd H p (.lst ys)) {s with heap:=s.heap.update p f,toks:=t}:=by
 have e:(s.heap.update p f).get? p=some {cls:=.type "list",data:=.seq its'.toArray n'}:=by
  rw[Heap.get?_update_self f ho (by rw[hf] <;> rfl),hf]
 refine I.write (x:=p) (e:=p) (by rw[h];trivial) (.inl rfl) (fun b u hb q=>(Heap.get?_update_other _ _ (Ne.symm hb)).trans q) ⟨_,e⟩ ?_
 exact⟨hz,its',n',r,e⟩
def rSetL:V->V->V->Hp->(Hp->Prop)->Prop:=fun o i v H Q=>∃ p xs k j,o=.ref p/\i=.int k/\H p=some (.lst xs)/\ixN xs.length k=some j/\Q (upd H p (.lst (xs.set j v)))
theorem z8x:PSet X rSetL:=by
 intro pins s σ H o i v ov iv u Q I ro ri rv h
 obtain⟨p,xs,k,j,rfl,rfl,hp,hj,q⟩:=h
 cases ro
 obtain⟨t,rfl⟩:=ri
 obtain⟨its,n,r,ho,hz⟩:=I.lst hp
 obtain⟨h1,h2,h3,h4⟩:=zaa hj
 have hl:=r.length
 have hn:=line63
 have I':Inv X pins σ (upd H p (.lst (xs.set j v))) {s with heap:=s.heap.update p (Obj.mapSeq (·.setIfInBounds j u))} :=
  I.lstUpd hp ho (z9a its n j u) (r.set rv j) (by rw[List.length_set];exact hz) s.toks
 by_cases h0:0<=k
 ·have hk:k.toNat=j:=by
   rw[seqIndex_of h0 h4]at h1
   exact Option.some.inj h1
  exact PySem.W.ki_setAt ho h0 (by omega) (by rw[List.size_toArray,<- hl];exact h4) (by rw[hk];exact⟨_,I',q⟩)
 ·have hk:(k + (its.toArray.size:Int)).toNat=j:=by
   rw[seqIndex_neg (by omega) h3]at h1
   rw[List.size_toArray,<- hl]
   exact Option.some.inj h1
  exact PySem.W.ki_setBack ho (by omega) (by rw[List.size_toArray,<- hl];exact h3) (by omega) (by rw[hk];exact⟨_,I',q⟩)
theorem z6Y(lo hi:Option Int)(n:Nat):(sliceBounds lo hi none n).1=((HT.sIx n 0 lo:Nat):Int)/\(sliceBounds lo hi none n).2.1=((HT.sIx n n hi:Nat):Int)/\(sliceBounds lo hi none n).2.2=1:=by
 refine⟨?_,?_,rfl⟩
 ·cases lo with
  | none=>simp[sliceBounds,HT.sIx]
  | some i =>
   simp only[sliceBounds,HT.sIx,Option.getD_none,show(1:Int) > 0 by decide,if_true]
   by_cases h:i < 0
   ·simp only[h,if_true] <;> omega
   ·simp only[h,if_false] <;> omega
 ·cases hi with
  | none=>simp[sliceBounds,HT.sIx]
  | some i =>
   simp only[sliceBounds,HT.sIx,Option.getD_none,show(1:Int) > 0 by decide,if_true]
   by_cases h:i < 0
   ·simp only[h,if_true] <;> omega
   ·simp only[h,if_false] <;> omega
theorem z6f(its:List Value)(lo hi:Option Int):slicePick its.toArray lo hi none=((its.drop (HT.sIx its.length 0 lo)).take (HT.sIx its.length its.length hi - HT.sIx its.length 0 lo)).toArray:=by
 obtain⟨h1,h2,h3⟩:=z6Y lo hi its.toArray.size
 unfold slicePick
 rw[h1,h2,h3]
 simp only[sliceRange_one,pick_run,List.size_toArray] <;> rfl
def rSlL(K:PySem.W.Frag):V->Option Int->Option Int->Hp->VK->Prop:=fun x lo hi H Q=>∃ a xs,x=.ref a/\SqL K H a xs/\∀ p,H p=none->Q (.ref p) (upd H p (.lst (cutV xs lo hi)))
theorem sl_list:SlR X (rSlL X.K):=by
 intro pins s σ H x v vl vu lo hi sl Q I rx hs pl pu h
 obtain⟨a,xs,rfl,hx,q⟩:=h
 cases rx
 obtain⟨its,r,ht,hz⟩:=I.list hx
 have hlen:=r.length
 refine⟨"list",_,slot_list_getitem.lookup,ht.isList.typeIs,?_⟩
 refine wpAny_getItem_list_slice ht.isList hs pl pu .none (by simp) ?_ (by rw[List.size_toArray] <;> omega)
 rw[z6f,<- hlen]
 refine⟨.ref s.heap.objs.size,_,I.laid (t':=s.toks) (o:=.lst (cutV xs lo hi)) (fun b ob q=>Heap.get?_push_of_some _ q) (Nat.le_refl _) ?_,rfl,q _ (I.hok.fresh (Nat.le_refl _))⟩
 exact⟨Nat.le_trans (z58 xs lo hi) hz,_,0,(r.drop (HT.sIx xs.length 0 lo)).take (HT.sIx xs.length xs.length hi - HT.sIx xs.length 0 lo),Heap.get?_push_size _ rfl⟩
theorem z4w:CallR X (.builtin "len") (fun xs H Q=>∃ p ys,xs=[.ref p]/\(SqL X.K H p ys\/SqT X.K H p ys)/\Q (.int ys.length) H):=by
 intro pins s σ H xs us Q I r h
 obtain⟨p,ys,rfl,hq,q⟩:=h
 obtain⟨u,rfl,rx⟩:=vals1 r
 cases rx
 have hn:=line63
 rcases hq with hq | hq
 ·obtain⟨its,r',pl,hz⟩:=I.list hq
  have hlen:=r'.length
  exact Calls.call_len_list pl.isList (by simp only[List.size_toArray] <;> omega) ⟨.int ys.length,H,I.tok _,⟨s.toks + 1,by rw[List.size_toArray,hlen]⟩,q⟩
 ·obtain⟨its,r',pl,hz⟩:=I.tuple hq
  have hlen:=r'.length
  exact len_tuple pl (by simp only[List.size_toArray] <;> omega) ⟨.int ys.length,H,I.tok _,⟨s.toks + 1,by rw[List.size_toArray,hlen]⟩,q⟩
theorem z2W:CallR X (.type "list") (fun xs H Q=>∃ p ys,xs=[.ref p]/\(SqL X.K H p ys\/SqT X.K H p ys)/\∀ l,H l=none->Q (.ref l) (upd H l (.lst ys))):=by
 intro pins s σ H xs us Q I r h
 obtain⟨p,ys,rfl,hq,q⟩:=h
 obtain⟨u,rfl,rx⟩:=vals1 r
 cases rx
 have fin:∀ (its:List Value),Vals ys its->ys.length<=sizeLine->∀ (h':Heap) (c':Nat),(∀ b o',s.heap.get? b=some o'->h'.get? b=some o') ->
   h'.get? s.heap.objs.size=some {cls:=.type "list",dict:=none,data:=.seq its.toArray c',slots:=#[]}->EP X pins σ Q (.ref s.heap.objs.size) {s with heap:=h'}:=fun its r' hz h' c' kp e =>
  ⟨.ref s.heap.objs.size,_,I.laid (t':=s.toks) kp (Nat.le_refl _) (show ObjOk X.prog X.w _ h' _ (.lst ys) from⟨hz,its,c',r',e⟩),rfl,q _ (I.hok.fresh (Nat.le_refl _))⟩
 rcases hq with hq | hq
 ·obtain⟨its,r',pl,hz⟩:=I.list hq
  have hlen:=r'.length
  obtain⟨o,ho,hc,n,hd⟩:=pl.isList
  exact call_list_seq p (.inl rfl) ho hc hd (fun h' c' kp e=>fin its r' hz h' c' kp e) (by simp only[List.size_toArray] <;> omega)
 ·obtain⟨its,r',pl,hz⟩:=I.tuple hq
  have hlen:=r'.length
  obtain⟨o,ho,hc,n,hd⟩:=pl
  exact call_list_seq p (.inr rfl) ho hc hd (fun h' c' kp e=>fin its r' hz h' c' kp e) (by simp only[List.size_toArray] <;> omega)
theorem z6g:CallR X (.type "tuple") (fun xs H Q=>∃ p ys,xs=[.ref p]/\((SqL X.K H p ys/\∀ l,H l=none->Q (.ref l) (upd H l (.tup ys)))\/(SqT X.K H p ys/\Q (.ref p) H))):=by
 intro pins s σ H xs us Q I r h
 obtain⟨p,ys,rfl,h⟩:=h
 obtain⟨u,rfl,rx⟩:=vals1 r
 cases rx
 rcases h with ⟨hq,q⟩ | ⟨hq,q⟩
 ·obtain⟨its,r',pl,hz⟩:=I.list hq
  have hlen:=r'.length
  refine call_tuple_list pl.isList (fun h' kp=>?_) (by simp only[List.size_toArray] <;> omega)
  have I1:Inv X pins σ H {s with heap:=h'}:=I.kept (t':=s.toks) kp
  have I2:Inv X pins σ (upd H h'.objs.size (.tup ys)) {s with heap:=h'.push {cls:=.type "tuple",data:=.seq its.toArray}} :=
   I1.laid (t':=s.toks) (fun b o e=>Heap.get?_push_of_some _ e) (Nat.le_refl _) (show ObjOk X.prog X.w _ _ _ (.tup ys) from⟨hz,its,r',IsTup.new _ _⟩)
  exact⟨.ref h'.objs.size,_,I2,rfl,q _ (I1.hok.fresh (Nat.le_refl _))⟩
 ·obtain⟨its,r',pl,hz⟩:=I.tuple hq
  exact call_tuple_same pl ⟨.ref p,H,I,rfl,q⟩
def tyV(K:PySem.W.Frag)(T:String)(x:V)(H:Hp):Prop:=match x with
 | .str _=>T="str"
 | .int _=>T="int"
 | .ref p=>(T="list"/\∃ xs,SqL K H p xs)\/(T="tuple"/\∃ o,K.lookup p=some o/\o.cls=.type "tuple"/\o.dict=none) \/
   (T="dict"/\((∃ kvs,H p=some (.dK kvs))\/∃ kvs,H p=some (.dT kvs)))\/(T="set"/\∃ S n,H p=some (.set S n))
 | _=>False
theorem zcA{pins:List (Addr × Obj)}{σ:St}{H:Hp}{s:Shared}{T:String}{x:V}{v:Value}(I:Inv X pins σ H s)(r:RelV x v)(ty:tyV X.K T x H) :
  s.TypeIs v T/\∀ a,v=.ref a->∃ ob,s.heap.get? a=some ob/\ob.dict=none:=by
 cases x with
 | str z =>
  obtain⟨t,rfl⟩:=r
  cases (show T="str" from ty)
  exact⟨typeIs_str s z t,fun _ e=>nomatch e⟩
 | int i =>
  obtain⟨t,rfl⟩:=r
  cases (show T="int" from ty)
  exact⟨typeIs_int s i t,fun _ e=>nomatch e⟩
 | ref p =>
  cases r
  rcases ty with ⟨rfl,xs,hq⟩ | ⟨rfl,o,hk,hc,hd⟩ | ⟨rfl,hk⟩ | ⟨rfl,S,n,hk⟩
  ·obtain⟨its,_,pl,_⟩:=I.list hq
   refine⟨pl.isList.typeIs,fun a e=>?_⟩
   cases e
   obtain⟨o,n,e,c,hd,_⟩:=pl
   exact⟨o,e,hd⟩
  ·refine⟨⟨o,I.kIn p o hk,hc⟩,fun a e=>?_⟩
   cases e
   exact⟨o,I.kIn _ o hk,hd⟩
  ·have z:∃ o,s.heap.get? p=some o/\o.ExactDict:=by
    rcases hk with ⟨kvs,hk⟩ | ⟨kvs,hk⟩
    ·obtain⟨_,_,_,_,o,_,_,e,ex,_⟩:=I.hok p _ hk
     exact⟨o,e,ex⟩
    ·obtain⟨_,_,_,_,o,_,_,e,ex,_⟩:=I.hok p _ hk
     exact⟨o,e,ex⟩
   obtain⟨o,e,ex⟩:=z
   refine⟨⟨o,e,ex.1⟩,fun a e2=>?_⟩
   cases e2
   exact⟨o,e,ex.2.1⟩
  ·obtain⟨o,_,_,_,e,ex,_⟩:=I.hok p _ hk
   refine⟨⟨o,e,ex.1⟩,fun a e2=>?_⟩
   cases e2
   exact⟨o,e,ex.2.1⟩
 | _=>exact False.elim ty
def tBM0(K:PySem.W.Frag)(T:String)(r:V->List V->Hp->VK->Prop)(to:TE):TE:=fun σ H Q=>to σ H fun x H1=>tyV K T x H1/\r x [] H1 Q
def tBM(K:PySem.W.Frag)(T:String)(r:V->List V->Hp->VK->Prop)(to:TE)(t:TA):TE:=fun σ H Q=>to σ H fun x H1=>tyV K T x H1/\t σ H1 fun xs H2=>r x xs H2 Q
variable {o e:Expr} {es:List Expr} {to:TE} {t:TA} {name:Str} {apos cpos:Pos} {T id:String} {r:V->List V->Hp->VK->Prop}
theorem zeq(pa:PlainAttrs T)(slot:Slot T name id)(hty:typeOf (.builtin id)=pure (.type "method_descriptor"))(hm:MtR X id r)(ho:PE X o to)
  (hbase:attributeBase o name X.env (eval o X.env)=eval o X.env:=by rfl) (hline:(apos.endLine == cpos.line)=true:=by rfl):PE X (.Call (.Attribute o name apos) [] [] cpos) (tBM0 X.K T r to):=by
 intro pins s σ H Q I h
 refine wpAny_Call_method0_late hbase hline (thn (ho pins s σ H _ I h) fun v s1 zhv=>?_)
 obtain⟨x,H1,I1,r1,ty,q1⟩:=zhv
 obtain⟨h1,h2⟩:=zcA I1 r1 ty
 exact⟨T,id,pa,slot,hty,h1,h2,Calls.callWith_builtin rfl (PySem.evalArgs_none (hm pins s1 σ H1 x [] v [] Q I1 r1 .nil q1))⟩
theorem zer(pa:PlainAttrs T)(slot:Slot T name id)(hty:typeOf (.builtin id)=pure (.type "method_descriptor"))(hm:MtR X id r)(ho:PE X o to)(ha:PA X (e::es) t)
  (hbase:attributeBase o name X.env (eval o X.env)=eval o X.env:=by rfl)
  (hfew:((backTo cpos (starEach (e::es) X.env)).all (fun x=>!x.1) && (backToKw cpos (keywordEach [] X.env)).all (fun x=>x.1.isSome)
   && decide ((e::es).length + ([]:List Keyword).length + (if ([]:List Keyword).isEmpty then 0 else 1) < 30))=true:=by rfl)
  (hline:(apos.endLine == cpos.line)=true:=by rfl) (hs:starEach (e::es) X.env=(false,eval e X.env)::starEach es X.env:=by rfl) (hplain:(backTo cpos (starEach es X.env)).any (·.1)=false:=by rfl) :
  PE X (.Call (.Attribute o name apos) (e::es) [] cpos) (tBM X.K T r to t):=by
 intro pins s σ H Q I h
 refine wpAny_Call_method_late hbase hfew hline rfl (thn (ho pins s σ H _ I h) fun v s1 zhw=>?_)
 obtain⟨x,H1,I1,r1,ty,q1⟩:=zhw
 obtain⟨h1,h2⟩:=zcA I1 r1 ty
 refine⟨T,id,pa,slot,hty,h1,h2,?_⟩
 have hA:=ha cpos pins s1 σ H1 _ I1 q1
 rw[hs]at hA ⊢
 refine Calls.callWith_builtin (by show(false || (backTo cpos (starEach es X.env)).any (·.1))=false;rw[hplain] <;> rfl) (Calls.evalArgs_plain ?_)
 exact thn hA fun us s2 zhx=>(by obtain⟨vs,H2,I2,r2,q2⟩:=zhx;exact hm pins s2 σ H2 x vs v us Q I2 r1 r2 q2)
end
end L2
namespace L2
open PySem PySem.Spec PyProof.Rows
def MtM(X:Cx)(id:String)(r:V->List V->Hp->VK->Prop):Prop :=
 ∀ (pins:List (Addr × Obj)) (s:Shared) (σ:St) (H:Hp) (x:V) (xs:List V) (v:Value) (us:List Value) (Q:VK),Inv X pins σ H s->RelV x v->Vals xs us->r x xs H Q ->
  wpAny (model X.prog X.w) X.A (call (.builtin id) (v::us)) (EP X pins σ Q) X.xe s
theorem Vals.one{x:V}{us:List Value}(h:Vals [x] us):∃ u,us=[u]/\RelV x u:=by
 cases h with
 | cons r h =>
  cases h
  exact⟨_,rfl,r⟩
theorem Vals.zero:∀ {us:List Value},Vals [] us->us=[]
 | _,.nil=>rfl
theorem Vals.dropLast{xs:List V}{us:List Value}(h:Vals xs us):Vals xs.dropLast us.dropLast:=by
 induction h with
 | nil=>exact .nil
 | cons r t ih =>
  cases t with
  | nil=>exact .nil
  | cons q t'=>exact .cons r ih
theorem Vals.rep{xs:List V}{us:List Value}(h:Vals xs us):∀ k:Nat,Vals (List.replicate k xs).flatten (List.replicate k us).flatten
 | 0=>.nil
 | k + 1=>by
  rw[List.replicate_succ,List.replicate_succ,List.flatten_cons,List.flatten_cons]
  exact Vals.append h (Vals.rep h k)
theorem z9b{α:Type}(l:List α):l.eraseIdx (l.length - 1)=l.dropLast:=by
 induction l with
 | nil=>rfl
 | cons a r ih =>
  cases r with
  | nil=>rfl
  | cons b r =>
   have e:(a::b::r).length - 1=((b::r).length - 1) + 1:=by
    have h1:(a::b::r).length=r.length + 2:=rfl
    have h2:(b::r).length=r.length + 1:=rfl
    omega
   rw[e,List.eraseIdx_cons_succ,ih]
   all_goals rfl
theorem z3V(its:List Value):∀ (k:Nat) (acc:List Value),
  List.foldl (fun x1 x2=>x1++x2) acc.toArray (List.replicate k its.toArray)=(acc++(List.replicate k its).flatten).toArray
 | 0,acc=>by simp
 | k + 1,acc=>by
  have e:acc.toArray++its.toArray=(acc++its).toArray:=by simp
  have e2:(acc++its)++(List.replicate k its).flatten=acc++(List.replicate (k + 1) its).flatten:=by
   rw[List.replicate_succ,List.flatten_cons,List.append_assoc]
  rw[<- e2,<- z3V its k (acc++its),<- e,List.replicate_succ,List.foldl_cons]
section
variable {X:Cx} {pins:List (Addr × Obj)} {σ:St} {H:Hp} {s:Shared} {l b:Addr} {xs ys zs:List V}
theorem Inv.lset{its its':List Value}{n:Nat}{f:Array Value->Array Value}{t':Nat}(I:Inv X pins σ H s)(hH:H l=some (.lst xs))
  (e:s.heap.get? l=some {cls:=.type "list",data:=.seq its.toArray n}) (hf:f its.toArray=its'.toArray) (hv:Vals ys its') (hz:ys.length<=sizeLine) :
  Inv X pins σ (upd H l (.lst ys)) {s with heap:=s.heap.update l (Obj.mapSeq f),toks:=t'}:=by
 have q:=PySem.IsL.update e f
 rw[hf]at q
 refine I.write (x:=l) (e:=l) (by rw[hH];exact trivial) (.inl rfl) (fun b' u hb hu=>(Heap.get?_update_other s.heap (Obj.mapSeq f) (Ne.symm hb)).trans hu) ⟨_,q⟩ ?_
 exact⟨hz,its',_,hv,q⟩
theorem Inv.lnew{its:List Value}{t':Nat}(I:Inv X pins σ H s)(hv:Vals ys its)(hz:ys.length<=sizeLine) :
  Inv X pins σ (upd H s.heap.objs.size (.lst ys)) {s with heap:=s.heap.push {cls:=.type "list",data:=.seq its.toArray},toks:=t'} :=
 I.laid (fun _ _ q=>Heap.get?_push_of_some _ q) (Nat.le_refl _) ⟨hz,its,0,hv,Heap.get?_push_size _ rfl⟩
theorem Inv.fresh(I:Inv X pins σ H s):H s.heap.objs.size=none:=I.hok.fresh (Nat.le_refl _)
theorem Inv.lstM(I:Inv X pins σ H s)(hH:H l=some (.lst xs)):xs.length<=sizeLine/\∃ (its:List Value) (n:Nat),Vals xs its/\xs.length=its.length/\s.heap.get? l=some {cls:=.type "list",data:=.seq its.toArray n}:=by
 obtain⟨z,its,n,r,e⟩:=I.hok l _ hH
 exact⟨z,its,n,r,r.length,e⟩
theorem notLongL{n:Nat}(h:n<=sizeLine):Builtin.List.listTooLong n=false:=by
 unfold Builtin.List.listTooLong
 exact decide_eq_false (by omega)
end
section
variable {X:Cx}
def rAppend:V->List V->Hp->VK->Prop:=fun x vs H Q=>∃ l xs y,x=.ref l/\vs=[y]/\H l=some (.lst xs)/\xs.length < sizeLine/\Q .non (upd H l (.lst (xs++[y])))
theorem z6Z:MtM X "list.append" rAppend:=by
 intro pins s σ H x vs v us Q I rx rv h
 obtain⟨l,xs,y,rfl,rfl,hH,hz,q⟩:=h
 cases rx
 obtain⟨u,rfl,ru⟩:=rv.one
 obtain⟨z,its,n,r,hl,e⟩:=I.lstM hH
 refine call_meets F.slot_list_append ⟨_,e,rfl⟩ F.entry_list_append (F.args_list_append_2 _ _) (PySem.list_append l its.toArray n u (by rw[List.size_toArray];omega)) ⟨e,?_⟩
 refine⟨.non,_,I.lset (its':=its++[u]) hH e (by simp) (r.append (.cons ru .nil)) ?_,rfl,q⟩
 rw[List.length_append,List.length_singleton]
 omega
def rPop:V->List V->Hp->VK->Prop:=fun x vs H Q=>∃ l xs y,x=.ref l/\vs=[]/\H l=some (.lst xs)/\xs[xs.length - 1]?=some y/\Q y (upd H l (.lst xs.dropLast))
theorem zes:MtM X "list.pop" rPop:=by
 intro pins s σ H x vs v us Q I rx rv h
 obtain⟨l,xs,y,rfl,rfl,hH,hy,q⟩:=h
 cases rx
 have hus:=rv.zero
 subst hus
 obtain⟨z,its,n,r,hl,e⟩:=I.lstM hH
 obtain⟨u,hu,ru⟩:=r.get hy
 have hy':its.toArray[its.toArray.size - 1]?=some u:=by
  show its.toArray[its.length - 1]?=some u
  rw[<- Array.getElem?_toList,<- hl]
  exact hu
 refine call_meets F.slot_list_pop ⟨_,e,rfl⟩ F.entry_list_pop (F.args_list_pop_1 _) (MeetsSeq.list_pop_last l its.toArray n u hy' (by rw[List.size_toArray];omega)) ⟨e,?_⟩
 refine⟨y,_,I.lset (its':=its.dropLast) hH e ?_ r.dropLast ?_,ru,q⟩
 ·show its.toArray.eraseIdxIfInBounds (its.toArray.size - 1)=its.dropLast.toArray
  rw[List.size_toArray,List.eraseIdxIfInBounds_toArray,z9b]
 ·rw[List.length_dropLast]
  omega
def rCat:R2:=fun x y H Q=>∃ l b xs zs,x=.ref l/\y=.ref b/\H l=some (.lst xs)/\H b=some (.lst zs)/\xs.length + zs.length<=sizeLine/\∀ p,H p=none->Q (.ref p) (upd H p (.lst (xs++zs)))
theorem zcB:OpR X (binaryOp .Add) rCat:=by
 intro pins s σ H x y v u Q I rx ry h
 obtain⟨l,b,xs,zs,rfl,rfl,hH,hB,hz,q⟩:=h
 cases rx
 cases ry
 obtain⟨z,its,n,r,hl,e⟩:=I.lstM hH
 obtain⟨z2,its2,n2,r2,hl2,e2⟩:=I.lstM hB
 refine PySem.P.add_list e e2 ?_ (by rw[List.size_toArray,List.size_toArray];omega)
 have ea:its.toArray++its2.toArray=(its++its2).toArray:=by simp
 rw[ea]
 exact⟨.ref _,_,I.lnew (t':=s.toks) (r.append r2) (by rw[List.length_append];omega),rfl,q _ I.fresh⟩
def rRep:R2:=fun x y H Q=>∃ l k xs,x=.ref l/\y=.int k/\H l=some (.lst xs)/\-(2 ^ 63)<=k/\k < 2 ^ 63/\xs.length * k.toNat<=sizeLine /\
 ∀ p,H p=none->Q (.ref p) (upd H p (.lst (List.replicate k.toNat xs).flatten))
theorem len_rep{α:Type}(xs:List α)(k:Nat):(List.replicate k xs).flatten.length=k * xs.length:=by
 induction k with
 | zero=>simp
 | succ k ih=>rw[List.replicate_succ,List.flatten_cons,List.length_append,ih,Nat.succ_mul,Nat.add_comm]
theorem zcC:OpR X (binaryOp .Mult) rRep:=by
 intro pins s σ H x y v u Q I rx ry h
 obtain⟨l,k,xs,rfl,rfl,hH,h1,h2,hz,q⟩:=h
 cases rx
 obtain⟨t,rfl⟩:=ry
 obtain⟨z,its,n,r,hl,e⟩:=I.lstM hH
 have hlen:its.toArray.size * k.toNat<=sizeLine:=by rw[List.size_toArray,<- hl];exact hz
 have hcap:¬ its.toArray.size * k.toNat > (2 ^ 63 - 1) / 8:=by
  have:(sizeLine:Nat)<=(2 ^ 63 - 1) / 8:=by decide
  omega
 have hfit:¬ (!Builtin.List.listFitsIndex k)=true:=by
  rw[fitsIndex_both h1 h2]
  exact Bool.false_ne_true
 have hlong:¬ Builtin.List.listTooLong (its.toArray.size * k.toNat)=true:=by
  rw[notLongL hlen]
  exact Bool.false_ne_true
 have hnew:List.foldl (fun x1 x2=>x1++x2) #[] (List.replicate (if its.toArray.isEmpty=true then 0 else k.toNat) its.toArray)=(List.replicate k.toNat its).flatten.toArray:=by
  have f0:∀ m:Nat,List.foldl (fun x1 x2=>x1++x2) #[] (List.replicate m its.toArray)=(List.replicate m its).flatten.toArray:=fun m=>by
   have:=z3V its m []
   rw[List.nil_append]at this
   exact this
  rw[f0]
  cases its with
  | nil=>simp
  | cons a r'=>rw[if_neg (by simp)]
 refine wpAny_binaryOp_repeat_ref (T:="list") (U:="int") (by decide) ⟨_,e,rfl⟩ (fun s'=>typeIs_int s' k t) noFill_list_mul F.fills_int_mul F.slot_int_rmul repeat_list F.slot_int_index.lookup
  (call_meets F.slot_int_rmul (typeIs_int s k t) F.entry_int_rmul (F.args_int_rmul_2 _ _) (int___rmul___int_list k t l its.toArray n)
   ⟨e,rfl,⟨_,e,rfl⟩,call_meets F.slot_list_mul ⟨_,e,rfl⟩ F.entry_list_mul (F.args_list_mul_2 _ _) (AutoListH.list___mul___list_int_3 l its.toArray n k t hfit hcap hlong) ⟨e,?_⟩⟩)
 rw[hnew]
 exact⟨.ref _,_,I.lnew (t':=s.toks) (r.rep k.toNat) (by rw[len_rep,Nat.mul_comm];exact hz),rfl,q _ I.fresh⟩
end
section
variable {prog:Program} {w:World} {A:Around} {E:Value->Shared->Prop} {s:Shared}
end
section
variable {X:Cx}
end
end L2
namespace L2
open PySem PySem.Spec PyProof.Rows
section
variable {κ:Type} [DecidableEq κ]
def valV(kvs:List (κ × V))(k:κ):Option V:=(kvs.find? fun kv=>decide (kv.1=k)).map (·.2)
def putK(kvs:List (κ × V))(k:κ)(v:V):List (κ × V) :=
 if (kvs.any fun kv=>decide (kv.1=k))=true then kvs.map (fun kv=>if kv.1=k then (kv.1,v) else kv) else kvs++[(k,v)]
theorem z3W{p:κ × V}{r:List (κ × V)}{k:κ}(e:p.1=k):valV (p::r) k=some p.2:=by simp[valV,List.find?_cons,e]
theorem z4S{p:κ × V}{r:List (κ × V)}{k:κ}(e:¬ p.1=k):valV (p::r) k=valV r k:=by simp[valV,List.find?_cons,e]
theorem z6h(k:κ):∀ kvs:List (κ × V),(kvs.any fun kv=>decide (kv.1=k))=(valV kvs k).isSome
 | []=>rfl
 | p::r=>by
  rw[List.any_cons]
  by_cases e:p.1=k
  ·simp only[z3W e,decide_eq_true e,Bool.true_or,Option.isSome_some]
  ·rw[z4S e,decide_eq_false e,Bool.false_or];exact z6h k r
theorem z3E(kvs:List (κ × V))(k:κ)(v:V):(putK kvs k v).length<=kvs.length + 1:=by
 unfold putK
 split
 ·rw[List.length_map];omega
 ·rw[List.length_append,List.length_cons,List.length_nil];omega
theorem RelO.isSome_eq{o:Option V}{u:Option Value}(r:RelO o u):o.isSome=u.isSome:=by
 cases o with
 | none=>cases u with
  | none=>rfl
  | some _=>exact(show False from r).elim
 | some _=>cases u with
  | none=>exact(show False from r).elim
  | some _=>rfl
theorem KV.val{kvs:List (κ × V)}{vs:List (κ × Value)}(r:KV kvs vs)(k:κ):RelO (valV kvs k) (valueAt vs k):=by
 unfold KV at r
 induction r with
 | nil=>exact True.intro
 | @cons p q ps qs h t ih =>
  obtain⟨h1,h2⟩:=h
  by_cases e:p.1=k
  ·have e':q.1=k:=h1.symm.trans e
   have b:valueAt (q::qs) k=some q.2:=by simp[valueAt,List.find?_cons,e']
   rw[z3W e,b];exact h2
  ·have e':¬ q.1=k:=fun z=>e (h1.trans z)
   have b:valueAt (q::qs) k=valueAt qs k:=by simp[valueAt,List.find?_cons,e']
   rw[z4S e,b];exact ih
theorem KV.any{kvs:List (κ × V)}{vs:List (κ × Value)}(r:KV kvs vs)(k:κ):(kvs.any fun kv=>decide (kv.1=k))=vs.any fun kv=>decide (kv.1=k):=by
 unfold KV at r
 induction r with
 | nil=>rfl
 | cons h t ih=>rw[List.any_cons,List.any_cons,ih,h.1]
theorem KV.repl{kvs:List (κ × V)}{vs:List (κ × Value)}(r:KV kvs vs)(k:κ){y:V}{u:Value}(ry:RelV y u) :
  KV (kvs.map fun kv=>if kv.1=k then (kv.1,y) else kv) (vs.map fun kv=>if kv.1=k then (kv.1,u) else kv):=by
 unfold KV at r ⊢
 induction r with
 | nil=>exact .nil
 | @cons p q ps qs h t ih =>
  rw[List.map_cons,List.map_cons]
  refine .cons ?_ ih
  obtain⟨h1,h2⟩:=h
  by_cases e:p.1=k
  ·rw[if_pos e,if_pos (h1.symm.trans e)];exact⟨h1,ry⟩
  ·rw[if_neg e,if_neg (fun z=>e (h1.trans z))];exact⟨h1,h2⟩
theorem KV.put{kvs:List (κ × V)}{vs:List (κ × Value)}(r:KV kvs vs)(k:κ){y:V}{u:Value}(ry:RelV y u):KV (putK kvs k y) (stored vs k u):=by
 unfold putK stored
 rw[r.any k]
 by_cases e:(vs.any fun kv=>decide (kv.1=k))=true
 ·rw[if_pos e,if_pos e];exact r.repl k ry
 ·rw[if_neg e,if_neg e];exact Paired.snoc r ⟨rfl,ry⟩
theorem KV.length{kvs:List (κ × V)}{vs:List (κ × Value)}(r:KV kvs vs):kvs.length=vs.length:=Paired.length r
end
theorem zbz{P:Program}{w:World}{k:Key}{u:Value}(r:RelV (kV k) u):(mixKind P w).is k u=true:=by
 cases k with
 | inl i=>obtain⟨t,e⟩:=(show ∃ t,u=Value.int i t from r);subst e;exact z7G P w i t
 | inr x=>obtain⟨t,e⟩:=(show ∃ t,u=Value.str x t from r);subst e;exact z7H P w x t
theorem z70{P:Program}{w:World}:∀ {ks:List Key} {us:List Value},Vals (ks.map kV) us->ItemsAre (mixKind P w) ks us
 | [],_,r=>by rw[List.map_nil]at r;cases r;exact .nil
 | k::ks,_,r=>by
  rw[List.map_cons]at r
  cases r with
  | cons h t=>exact .cons (zbz h) (z70 t)
abbrev KT(H:Hp):List (List Key × V)->List (List Key × Addr × Value)->Prop:=Paired fun p q=>p.1=q.1/\H q.2.1=some (.tup (p.1.map kV))/\RelV p.2 q.2.2
theorem KT.val{H:Hp}{kvs:List (List Key × V)}{xs:List (List Key × Addr × Value)}(r:KT H kvs xs)(k:List Key):RelO (valV kvs k) ((atKey xs k).map (·.2)):=by
 induction r with
 | nil=>exact True.intro
 | @cons p q ps qs h t ih =>
  obtain⟨h1,_,h2⟩:=h
  by_cases e:p.1=k
  ·have e':q.1=k:=h1.symm.trans e
   have b:atKey (q::qs) k=some q.2:=by simp[atKey,List.find?_cons,e']
   rw[z3W e,b];exact h2
  ·have e':¬ q.1=k:=fun z=>e (h1.trans z)
   have b:atKey (q::qs) k=atKey qs k:=by simp[atKey,List.find?_cons,e']
   rw[z4S e,b];exact ih
theorem KT.repl{H:Hp}{kvs:List (List Key × V)}{xs:List (List Key × Addr × Value)}(r:KT H kvs xs)(k:List Key){y:V}{u:Value}(ry:RelV y u) :
  KT H (kvs.map fun kv=>if kv.1=k then (kv.1,y) else kv) (xs.map (putAt k u)):=by
 induction r with
 | nil=>exact .nil
 | @cons p q ps qs h t ih =>
  rw[List.map_cons,List.map_cons]
  refine .cons ?_ ih
  obtain⟨h1,h2,h3⟩:=h
  unfold putAt
  by_cases e:p.1=k
  ·rw[if_pos e,if_pos (h1.symm.trans e)];exact⟨h1,h2,ry⟩
  ·rw[if_neg e,if_neg (fun z=>e (h1.trans z))];exact⟨h1,h2,h3⟩
theorem KT.put{H:Hp}{kvs:List (List Key × V)}{xs:List (List Key × Addr × Value)}(r:KT H kvs xs)(k:List Key){b:Addr}{y:V}{u:Value}(hb:H b=some (.tup (k.map kV)))(ry:RelV y u) :
  KT H (putK kvs k y) (storedH xs k b u):=by
 have e:(kvs.any fun kv=>decide (kv.1=k))=(atKey xs k).isSome:=by
  rw[z6h,(r.val k).isSome_eq,Option.isSome_map]
 unfold putK storedH
 rw[e]
 by_cases q:(atKey xs k).isSome=true
 ·rw[if_pos q,if_pos q];exact r.repl k ry
 ·rw[if_neg q,if_neg q];exact Paired.snoc r ⟨rfl,hb,ry⟩
theorem KT.keeps{H H':Hp}{kvs:List (List Key × V)}{xs:List (List Key × Addr × Value)}(r:KT H kvs xs)(ht:∀ b ys,H b=some (.tup ys)->H' b=some (.tup ys)):KT H' kvs xs :=
 Paired.mapP r fun _ _ z=>⟨z.1,ht _ _ z.2.1,z.2.2⟩
section
variable {P:Program} {w:World} {H:Hp} {h:Heap} {a:Addr}
theorem zet{u:HO}(ok:HOk P w H h)(e:Rd H a u):ObjOk P w H h a u:=e.ok ok
theorem zdb{kvs:List (Key × V)}(ok:HOk P w H h)(e:Rd H a (.dK kvs)):kvs.length<=sizeLine/\(a == sysModules)=false/\∃ vs,KV kvs vs/\h.DictOf (mixKind P w) a vs :=
 show ObjOk P w H h a (.dK kvs) from zet ok e
theorem zeu{kvs:List (Key × V)}(ok:HOk P w H h)(e:H a=some (.dK kvs)):kvs.length<=sizeLine/\(a == sysModules)=false/\∃ vs,KV kvs vs/\h.DictOf (mixKind P w) a vs:=zdb ok (.inl e)
theorem zac{ks:List Key}(ok:HOk P w H h)(e:H a=some (.tup (ks.map kV))):(tupleKind (mixKind P w)).is h ks a:=by
 obtain⟨_,its,r,o,h1,h2,n,h3⟩:=(show ObjOk P w H h a (.tup (ks.map kV)) from ok a _ e)
 exact⟨o,its.toArray,n,h1,h2,h3,by simpa using z70 r⟩
theorem zdc{kvs:List (List Key × V)}(ok:HOk P w H h)(e:Rd H a (.dT kvs)):kvs.length<=sizeLine/\(a == sysModules)=false /\
  ∃ xs,KT H kvs xs/\h.DictOfH (tupleKind (mixKind P w)) a xs:=by
 obtain⟨z,y,xs,r,o,es,ep,h1,h2,h3,h4,h5⟩:=(show ObjOk P w H h a (.dT kvs) from zet ok e)
 refine⟨z,y,xs,r,o,es,ep,h1,h2,h3,h4,fun x hx=>?_,h5⟩
 have all:∀ {l:List (List Key × V)} {m:List (List Key × Addr × Value)},KT H l m->∀ x∈m,(tupleKind (mixKind P w)).is h x.1 x.2.1:=by
  intro l m q
  induction q with
  | nil=>intro x hx;exact nomatch hx
  | @cons p q ps qs hq t ih =>
   intro x hx
   rcases List.mem_cons.mp hx with e | hx
   ·subst e
    exact zac ok (by rw[<- hq.1];exact hq.2.1)
   ·exact ih x hx
 exact all r x hx
theorem zgO{kvs:List (List Key × V)}(ok:HOk P w H h)(e:H a=some (.dT kvs)):kvs.length<=sizeLine/\(a == sysModules)=false /\
  ∃ xs,KT H kvs xs/\h.DictOfH (tupleKind (mixKind P w)) a xs:=zdc ok (.inl e)
end
def DGet(H:Hp)(a:Addr)(y:V)(r:Option V):Prop :=
 (∃ kvs k,Rd H a (.dK kvs)/\y=kV k/\r=valV kvs k)\/∃ kvs k b,Rd H a (.dT kvs)/\y=.ref b/\H b=some (.tup (k.map kV))/\r=valV kvs k
def DPut(H:Hp)(a:Addr)(y v:V)(H':Hp):Prop :=
 (∃ kvs k,H a=some (.dK kvs)/\y=kV k/\kvs.length < sizeLine/\H'=upd H a (.dK (putK kvs k v))) \/
 ∃ kvs k b,H a=some (.dT kvs)/\y=.ref b/\H b=some (.tup (k.map kV))/\kvs.length < sizeLine/\H'=upd H a (.dT (putK kvs k v))
theorem DGet.k{H:Hp}{a:Addr}{kvs:List (Key × V)}{k:Key}(e:H a=some (.dK kvs)):DGet H a (kV k) (valV kvs k):=.inl ⟨kvs,k,.inl e,rfl,rfl⟩
theorem DPut.k{H:Hp}{a:Addr}{kvs:List (Key × V)}{k:Key}{v:V}(e:H a=some (.dK kvs))(hl:kvs.length < sizeLine):DPut H a (kV k) v (upd H a (.dK (putK kvs k v))):=.inl ⟨kvs,k,e,rfl,hl,rfl⟩
section
variable {X:Cx} {pins:List (Addr × Obj)} {σ:St} {H:Hp} {s:Shared} {a:Addr} {y v:V} {u r:Value} {o:Option V} {A:Around} {E:Value->Shared->Prop}
theorem Inv.big(I:Inv X pins σ H s):sysModules < s.heap.objs.size:=by
 have h:mainGlobals < s.heap.objs.size:=(I.mod.glob.keeps I.bk).lt
 exact Nat.lt_trans (by decide) h
theorem zad{Q:Value->Shared->Prop}(hu:A.units + 1 < cLine)(I:Inv X pins σ H s)(g:DGet H a y (some v))(ry:RelV y u)(h:∀ w' s',Inv X pins σ H s'->RelV v w'->Q w' s') :
  wpAny (model X.prog X.w) A (getItem (.ref a) u) Q E s:=by
 rcases g with ⟨kvs,k,e,ey,l⟩ | ⟨kvs,k,b,e,ey,eb,l⟩
 ·subst ey
  obtain⟨z,hd,vs,rel,dd⟩:=zdb I.hok e
  obtain⟨w',hw,rw'⟩:=RelO.some_of (v:=v) (o:=valueAt vs k) (by rw[l];exact rel.val k)
  exact wpAny_getItem_of (zbz ry) dd.mapOf hw (h w' _ (I.tok _) rw')
 ·subst ey
  cases (show u=Value.ref b from ry)
  obtain⟨z,hd,xs,rel,dd⟩:=zdc I.hok e
  obtain⟨w',hw,rw'⟩:=RelO.some_of (v:=v) (o:=(atKey xs k).map (·.2)) (by rw[l];exact rel.val k)
  obtain⟨p,hp,hp2⟩:=Option.map_eq_some_iff.mp hw
  refine wpAny_getItem_heap (tupleKind_room_in1 hu) (zac I.hok eb) dd hp ?_
  rw[hp2]
  exact h w' _ (I.tok _) rw'
theorem z7L{h':Heap}{t':Nat}{ob:HO}(I:Inv X pins σ H s)(mu:Mut (H a))(hs:Heap.SameBut a s.heap h')(he:∃ q,h'.get? a=some q)(new:ObjOk X.prog X.w (upd H a ob) h' a ob) :
  Inv X pins σ (upd H a ob) {s with heap:=h',toks:=t'} :=
 I.write (x:=a) (e:=a) mu (.inl rfl) (fun b q hb z=>(hs.2 b hb).trans z) he new
theorem zcD{P:Program}{w:World}{H':Hp}{h':Heap}{kvs:List (Key × V)}{vs:List (Key × Value)}(z:kvs.length<=sizeLine)(hd:(a == sysModules)=false)(rel:KV kvs vs)(dd:h'.DictOf (mixKind P w) a vs) :
  ObjOk P w H' h' a (.dK kvs):=⟨z,hd,vs,rel,dd⟩
theorem zae{H':Hp}{Q:Unit->Shared->Prop}(hu:A.units + 1 < cLine)(I:Inv X pins σ H s)(g:DPut H a y v H')(ry:RelV y u)(rv:RelV v r)(h:∀ s',Inv X pins σ H' s'->Q () s') :
  wpAny (model X.prog X.w) A (setItem (.ref a) u r) Q E s:=by
 rcases g with ⟨kvs,k,e,ey,l,eH⟩ | ⟨kvs,k,b,e,ey,eb,l,eH⟩
 ·subst ey eH
  obtain⟨z,hd,vs,rel,dd⟩:=zeu I.hok e
  have hz:vs.length<=sizeLine:=by rw[<- rel.length];exact z
  have hl:(putK kvs k v).length<=sizeLine:=by have:=z3E kvs k v;omega
  refine wpAny_setItem_pairs (hsz:=hz) (zbz ry) dd fun h' dd' hs=>h _ ?_
  have he:∃ q,h'.get? a=some q:=let ⟨q,_,_,hq,_⟩:=dd';⟨q,hq⟩
  exact z7L I (by rw[e];exact True.intro) hs he (zcD hl hd (rel.put k rv) dd')
 ·subst ey eH
  cases (show u=Value.ref b from ry)
  obtain⟨z,hd,xs,rel,dd⟩:=zgO I.hok e
  have hz:xs.length<=sizeLine:=by rw[<- Paired.length rel];exact z
  have hl:(putK kvs k v).length<=sizeLine:=by have:=z3E kvs k v;omega
  refine wpAny_setItem_heap (hsz:=hz) (tupleKind_room_in1 hu) (zac I.hok eb) dd fun h' dd' hs=>h _ ?_
  obtain⟨q,es,ep,hq,h2,h3,h4,_,h5⟩:=dd'
  refine z7L I (by rw[e];exact True.intro) hs ⟨q,hq⟩ ⟨hl,hd,_,(rel.put k eb rv).keeps fun c ys ec=>?_,q,es,ep,hq,h2,h3,h4,h5⟩
  rw[zd (ze4 ec e (fun z=>nomatch z))]
  exact ec
end
section
variable {X:Cx} {pins:List (Addr × Obj)} {σ:St} {H:Hp} {s:Shared} {a:Addr} {kvs:List (Key × V)} {k:Key} {u:Value} {A:Around} {E:Value->Shared->Prop}
end
def NoSl(i:Expr):Prop:=∀ ov iv,subscripted i false ov iv=operate [ov,iv] (getItem ov iv)
theorem zdd{prog:Program}{w:World}{A:Around}{E:Value->Shared->Prop}{s:Shared}{env:Env}{value slice:Expr}{pos:Pos}{T id:String}{Q:Value->Shared->Prop}
  (hl:typeLookup (.type T) "__getitem__"=pure (some (.builtin id))) (hs:NoSl slice)
  (h:wpAny (model prog w) A (eval value env) (fun o s₁=>wpAny (model prog w) A (eval slice env) (fun i s₂=>s₂.TypeIs o T/\wpAny (model prog w) A (getItem o i) Q E s₂) E s₁) E s) :
  wpAny (model prog w) A (eval (.Subscript value slice pos) env) Q E s:=by
 refine Subscript_ (wpAny_mono h (fun o s₁ h₁=>wpAny_mono h₁ (fun i s₂ h₂=>?_) fun _ _ x=>x) fun _ _ x=>x)
 obtain⟨hT,h₂⟩:=h₂
 unfold subscriptTail
 refine wpAny_bind ?_
 rw[getitemInPython_of_ne hT.not_modules]
 refine wpAny_bind (wpAny_specialOf hT hl ?_)
 have fin:wpAny (model prog w) A (subscripted slice false o i) (fun r s₃=>wpAny (model prog w) A (letTemporaryGo value o r >>= fun _=>pure r) Q E s₃) E s₂:=by
  rw[hs o i]
  exact wpAny_operating (wpAny_mono h₂ (fun r s₃ h₃=>wpAny_bind (wpAny_letTemporaryGo (wpAny_pure h₃))) fun _ _ x=>x)
 first
  | exact wpAny_pure (wpAny_bind fin)
  | exact wpAny_bind (wpAny_pure (wpAny_bind fin))
  | exact wpAny_bind fin
theorem z7M{X:Cx}{pins:List (Addr × Obj)}{σ:St}{H:Hp}{s:Shared}{a:Addr}{y:V}{o:Option V}(I:Inv X pins σ H s)(g:DGet H a y o):s.TypeIs (.ref a) "dict":=by
 rcases g with ⟨kvs,k,e,_,_⟩ | ⟨kvs,k,b,e,_,_,_⟩
 ·obtain⟨_,_,vs,_,dd⟩:=zdb I.hok e
  exact dd.typeIs
 ·obtain⟨_,_,xs,_,dd⟩:=zdc I.hok e
  exact dd.typeIs
def tDGet(td ty:TE):TE:=fun σ H Q=>td σ H fun x H1=>ty σ H1 fun y H2=>∃ a v,x=.ref a/\DGet H2 a y (some v)/\Q v H2
def sDPut(td ty tv:TE):TS:=fun D σ H=>tv σ H fun v H1=>td σ H1 fun x H2=>ty σ H2 fun y H3=>∃ a H4,x=.ref a/\DPut H3 a y v H4/\D.nx σ H4
section
variable {X:Cx} {o i e value:Expr} {pos pos' tpos:Pos} {td ty tv:TE}
theorem z6i(hu:X.A.units + 1 < cLine)(ho:PE X o td)(hi:PE X i ty)(hs:NoSl i):PE X (.Subscript o i pos) (tDGet td ty):=by
 intro pins s σ H Q I h
 refine zdd PySem.F.slot_dict_getitem.lookup hs (thn (ho pins s σ H _ I h) fun u s1 ⟨x,H1,I1,rx,q1⟩=>thn (hi pins s1 σ H1 _ I1 q1) fun iv s2 zhy=>?_)
 obtain⟨y,H2,I2,ry,a,v,ex,g,q2⟩:=zhy
 subst ex
 obtain rfl:u=Value.ref a:=rx
 exact⟨z7M I2 g,zad hu I2 g ry fun w' s3 I3 rw'=>⟨v,H2,I3,rw',q2⟩⟩
theorem zde(hu:X.A.units + 1 < cLine)(ho:PE X o td)(hi:PE X i ty)(hv:PE X value tv)(hs:swapsWith value (some (.Subscript o i pos')) pos.line X.env=pure false) :
  PS X (.Assign [.Subscript o i pos'] value pos) (sDPut td ty tv):=by
 intro pins s σ H D I h
 refine wpAny_Assign_Subscript (thn (hv pins s σ H _ I h) fun r s1 ⟨v,H1,I1,rv,q1⟩=>thn (ho pins s1 σ H1 _ I1 q1) fun u s2 ⟨x,H2,I2,rx,q2⟩=>thn (hi pins s2 σ H2 _ I2 q2) fun iv s3 zhz=>?_) hs
 obtain⟨y,H3,I3,ry,a,H4,ex,g,q3⟩:=zhz
 subst ex
 obtain rfl:u=Value.ref a:=rx
 exact zae hu I3 g ry rv fun s4 I4=>⟨σ,H4,I4,q3⟩
end
theorem zbA{P:Program}{w:World}{H:Hp}(h:Heap)(hb:sysModules < h.objs.size):ObjOk P w H (h.push {cls:=.type "dict",data:=.dict #[]}) h.objs.size (.dK []) :=
 ⟨Nat.zero_le _,beq_eq_false_iff_ne.mpr (Ne.symm (Nat.ne_of_lt hb)),[],.nil,Heap.DictOf.new h⟩
section
variable {X:Cx} {pos:Pos}
end
def tPairs:List (TE × TE)->St->Hp->(List (V × V)->Hp->Prop)->Prop
 | [],_,H,Q=>Q [] H
 | (tk,tv)::r,σ,H,Q=>tk σ H fun x H1=>tv σ H1 fun y H2=>tPairs r σ H2 fun ps H3=>Q ((x,y)::ps) H3
abbrev VV:List (V × V)->List (Value × Value)->Prop:=Paired fun p q=>RelV p.1 q.1/\RelV p.2 q.2
def PPs(X:Cx)(pos:Pos)(keys:List (Option Expr))(values:List Expr)(trs:List (TE × TE)):Prop :=
 ∀ (pins:List (Addr × Obj)) (s:Shared) (σ:St) (H:Hp) (Q:List (V × V)->Hp->Prop),Inv X pins σ H s->tPairs trs σ H Q ->
  wpAny (model X.prog X.w) X.A (evalPairs (pairTrees keys values X.env pos)) (fun vs s'=>∃ ps H',Inv X pins σ H' s'/\VV ps vs/\Q ps H') X.xe s
theorem zdf{X:Cx}{pos:Pos}:PPs X pos [] [] []:=fun pins s σ H Q I h=>pairTrees_nil_walk ⟨[],H,I,.nil,h⟩
theorem z8y{X:Cx}{pos:Pos}{k v:Expr}{ks:List (Option Expr)}{vs:List Expr}{tk tv:TE}{trs:List (TE × TE)}(hk:PE X k tk)(hv:PE X v tv)(hr:PPs X pos ks vs trs) :
  PPs X pos (some k::ks) (v::vs) ((tk,tv)::trs):=fun pins s σ H Q I h =>
 pairTrees_cons_walk (thn (hk pins s σ H _ I h) fun u s1 ⟨x,H1,I1,rx,q1⟩=>thn (hv pins s1 σ H1 _ I1 q1) fun w2 s2 ⟨y,H2,I2,ry,q2⟩ =>
  thn (hr pins s2 σ H2 _ I2 q2) fun ws s3 zhA=>(by obtain⟨ps,H3,I3,rel,q3⟩:=zhA;exact⟨(x,y)::ps,H3,I3,.cons ⟨rx,ry⟩ rel,q3⟩))
def mergeK(kvs more:List (Key × V)):List (Key × V):=more.foldl (fun acc kv=>putK acc kv.1 kv.2) kvs
theorem KV.merge:∀ {more:List (Key × V)} {rs:List (Key × Value)} {kvs:List (Key × V)} {vs:List (Key × Value)},KV more rs->KV kvs vs->KV (mergeK kvs more) (merged vs rs):=by
 intro more rs kvs vs r
 unfold KV at r
 induction r generalizing kvs vs with
 | nil=>intro q;exact q
 | @cons p q ps qs h t ih =>
  intro r0
  have e:KV (putK kvs p.1 p.2) (stored vs q.1 q.2):=by
   have:=r0.put p.1 h.2
   rw[<- h.1];exact this
  exact ih e
theorem z3X:∀ (more kvs:List (Key × V)),(mergeK kvs more).length<=kvs.length + more.length
 | [],kvs=>by show kvs.length<=kvs.length + 0;omega
 | p::r,kvs=>by
  have h1:=z3X r (putK kvs p.1 p.2)
  have h2:=z3E kvs p.1 p.2
  show(mergeK (putK kvs p.1 p.2) r).length<=_
  rw[List.length_cons];omega
theorem z61{P:Program}{w:World}:∀ {kvs:List (Key × V)} {ws:List (Value × Value)},VV (kvs.map fun kv=>(kV kv.1,kv.2)) ws->∃ rs,Carries (mixKind P w) ws rs/\KV kvs rs
 | [],_,r=>by rw[List.map_nil]at r;cases r;exact⟨[],True.intro,.nil⟩
 | p::kvs,_,r=>by
  rw[List.map_cons]at r
  cases r with
  | @cons a b as bs h t =>
   obtain⟨rs,c,q⟩:=z61 (P:=P) (w:=w) t
   obtain⟨b1,b2⟩:=b
   exact⟨(p.1,b2)::rs,⟨zbz h.1,rfl,c⟩,.cons ⟨rfl,h.2⟩ q⟩
def tDisp(trs:List (TE × TE)):TE:=fun σ H Q=>∀ p,H p=none->tPairs trs σ (upd H p (.dK [])) fun ps H2=>H2 p=some (.dK [])/\∃ kvs:List (Key × V),ps=kvs.map (fun kv=>(kV kv.1,kv.2))/\kvs.length<=15/\Q (.ref p) (upd H2 p (.dK (mergeK [] kvs)))
theorem zdg{X:Cx}{pos:Pos}{keys:List (Option Expr)}{values:List Expr}{trs:List (TE × TE)}(h:PPs X pos keys values trs)(hall:keys.all (·.isSome)=true)(hl:keys.length=values.length)(h0:keys≠[])
  (h15:keys.length<=15):PE X (.Dict keys values pos) (tDisp trs):=by
 intro pins s σ H Q I q
 have hn:=I.hok.fresh (Nat.le_refl s.heap.objs.size)
 have I1:=I.laid (a:=s.heap.objs.size) (o:=.dK []) (h':=s.heap.push {cls:=.type "dict",data:=.dict #[]}) (t':=s.toks) (fun _ _ q=>Heap.get?_push_of_some _ q) (Nat.le_refl _) (zbA s.heap I.big)
 refine wpAny_Dict_walk (knd:=mixKind X.prog X.w) hall hl h0 h15 (thn (h pins _ σ _ _ I1 (q _ hn)) fun ws s2 zhB=>?_)
 obtain⟨ps,H2,I2,rel,e,kvs,ep,lk,q2⟩:=zhB
 subst ep
 obtain⟨rs,c,rk⟩:=z61 (P:=X.prog) (w:=X.w) rel
 obtain⟨z,hd,vs0,r0,dd⟩:=zeu I2.hok e
 cases r0
 refine⟨rs,c,dd,fun h' dd' hs=>⟨.ref s.heap.objs.size,_,?_,rfl,q2⟩⟩
 have hz:(mergeK [] kvs).length<=sizeLine:=by
  have h1:=z3X kvs []
  rw[List.length_nil]at h1
  rw[sizeLine_eq];omega
 have he:∃ q,h'.get? s.heap.objs.size=some q:=let ⟨q,_,_,hq,_⟩:=dd';⟨q,hq⟩
 exact z7L I2 (by rw[e];exact True.intro) hs he (zcD hz hd (rk.merge .nil) dd')
section
variable {X:Cx} {pins:List (Addr × Obj)} {σ:St} {H:Hp} {s:Shared} {a:Addr} {y d:V} {u r:Value} {o:Option V} {A:Around} {E:Value->Shared->Prop}
end
section
variable {X:Cx} {o e f:Expr} {apos cpos:Pos} {td ty tx:TE}
end
section
variable {X:Cx} {pins:List (Addr × Obj)} {σ:St} {H:Hp} {s:Shared} {a:Addr} {kvs:List (Key × V)} {A:Around} {E:Value->Shared->Prop}
end
section
variable {X:Cx} {pins:List (Addr × Obj)} {σ:St} {H:Hp} {s:Shared} {a:Addr} {y:V} {u:Value} {A:Around} {E:Value->Shared->Prop}
end
end L2
namespace Att
open PySem PySem.W PySem.Calls PyProof.Rows
theorem z59{P:Params}{h:Heap}:∀ (ns:List Int) (vs:List Value),WellAll P h vs (ns.map WData.int)->IntsAre vs ns:=by
 intro ns
 induction ns with
 | nil =>
  intro vs w
  rw[List.map_nil]at w
  cases w
  exact .nil
 | cons n ns ih =>
  intro vs w
  rw[List.map_cons]at w
  cases w with
  | cons a b =>
   cases a
   exact .cons _ _ (ih _ b)
theorem zaf{l:OpenLaw}{n:Nat}(hn:l.most=some n){P:Params}{h:Heap}{args:List WData}{vals:List Value}
  (hpre:l.row.toRowW.claim.pre args=true) (hwl:WellAll P h vals args) :
  ∃ a vs ns,vals=[Value.ref a]/\args=[WData.list (ns.map WData.int)]/\h.get? a=some {cls:=.type "list",data:=.seq vs.toArray}/\IntsAre vs ns/\ns.length<=n:=by
 have hsh:WShape.hasAll [] args [.list .int]=true:=(pre_splitW hpre).1
 have hc:l.pre.holds [] {args:=args}=true:=(pre_splitW hpre).2
 obtain⟨d,r,rfl,h1,h2⟩:=hasAllW_cons hsh
 obtain rfl:=hasAllW_nil h2
 obtain⟨xs,rfl,h3⟩:=hasW_list h1
 obtain⟨ns,rfl⟩:=items_int h3
 have hlen:ns.length<=n:=by
  unfold OpenLaw.pre at hc
  have h4:(WTm.not (.lt (.lit (.int (n:Int))) (.len (.arg 0)))).holds [] {args:=[.list (ns.map .int)]}=true:=by
   have h4:=(holds_andW hc).1
   rw[hn]at h4
   exact h4
  have h5:=condW_of h4 (w_not (w_lt w_lit (w_len_list (w_arg rfl))))
  rw[List.length_map]at h5
  refine Nat.le_of_not_lt fun q=>?_
  have q':(n:Int) < ((ns.length:Nat):Int):=by omega
  first
   | (rw[decide_eq_true q']at h5;exact absurd h5 (by decide))
   | (simp at h5;omega)
 cases hwl with
 | cons w1 w2 =>
  cases w2
  cases w1 with
  | list ho hall=>exact⟨_,_,ns,rfl,rfl,ho,z59 ns _ hall,hlen⟩
theorem zag(l:OpenLaw)(args:List WData):l.row.toRowW.claim.post args (.bool true) args=true :=
 postW_of (r:=l.row.toRowW) (X:=(true == true))
  (show WShape.has [] (.bool true) .bool=true by first | rfl | decide | simp[WShape.has,WShape.arms,WShape.armsAll])
  (show(WTm.eq .res (.lit (.bool true))).value [] {args:=args,res:=some (.bool true),after:=args}=some (.bool (true == true)) from w_eq_bool (w_res rfl) w_lit) rfl
theorem attach_call{l:OpenLaw}{n:Nat}{q:Program}{loose:List Str}{XP:(Str->Option Value)->Heap->Prop}{YP:World->Heap->Prop}{d:DefRec}
  (hn:l.most=some n) (hdf:d.params.defaults=[])
  (call:∀ (w:World) (s₀ s₁:Shared) (mg mb:Str->Option Value) (fa:Addr) (o:Obj) (pm cd doc:Value) (a:Addr) (vs:List Value) (ns:List Int),
   Ground q loose [] XP w s₀ mg mb s₁.heap->YP w s₁.heap ->
   s₁.heap.get? fa=some o->o.data=.func (docDef d.name d.params d.body d.scope pm cd doc)->s₁.heap.CodeRec cd d.name->mg d.name=some (.ref fa) ->
   s₁.heap.get? a=some {cls:=.type "list",data:=.seq vs.toArray}->IntsAre vs ns->ns.length<=n->s₁.gens=#[] ->
   codeAny (model l.prog w) callerA (.call (.ref fa) ⟨[.ref a],[]⟩) (fun r s'=>r=.ok (.ret (.bool true))/\OldK s₁.heap s'.heap/\s'.os=s₁.os/\AllBare s'.gens) s₁) :
  WalkO q loose XP YP l.row.toRowW d [] (fun f vs=>PySem.call f vs):=by
 intro w s₀ s₁ mg mb G Y fa o pm cd doc dV kV ho hd hcd hD hmg hg args vals as hpre hlay hrd hwl hlo
 obtain rfl:dV=.none:=Dflts.none hD hdf
 obtain rfl:kV=.none:=Dflts.noKw hD
 obtain⟨a,vs,ns,rfl,rfl,hobj,hints,hlen⟩:=zaf hn hpre hwl
 refine enter_call (codeAny_mono (call w s₀ s₁ mg mb fa o pm cd doc a vs ns G Y ho (fd_plain hd) hcd hmg hobj hints hlen hg) fun r s' hq=>?_)
 obtain⟨rfl,h2,h3,h4⟩:=hq
 exact⟨.inl ⟨.bool true,.bool true,[],rfl,fun _=>rfl,.bool true,zag l _,fun _=>⟨List.Pairwise.nil,fun _ hm=>(nomatch hm)⟩⟩,h2,h3,h4⟩
section
variable {prog:Program} {w:World} {A:Around} {E:Value->Shared->Prop} {s:Shared} {K:Frag}
end
end Att
namespace L2
open PySem PySem.Spec PyProof.Rows
theorem zah{vs:List Value}{ns:List Int}(h:IntsAre vs ns):Vals (ns.map V.int) vs:=by
 induction h with
 | nil=>exact .nil
 | cons n t h ih=>exact .cons ⟨t,rfl⟩ ih
def Only(H:Hp):Prop:=∀ b,H b=none\/∃ o xs,H b=some (.frz o (.lst xs))
theorem zbB{P:Program}{w:World}{K:PySem.W.Frag}{mg mb:Str->Option Value}{CX:CXT}{k:Nat}{fa a:Addr}{fd:FuncData}{x:Str}{sp:Sp}{s₁:Shared}{vs:List Value}{ns:List Int}
  (KX:K.In s₁.heap) (hns:s₁.heap.Ns mainGlobals mg) (hb:s₁.heap.Ns builtinsNs mb) (hbb:∀ x:Str,x≠"__name__"->mb x=bootBuiltins x) (hlim:s₁.heap.NoLimit) (hg:s₁.gens=#[])
  (ha:s₁.heap.get? a=some {cls:=.type "list",data:=.seq vs.toArray}) (hi:IntsAre vs ns) (hl:ns.length<=sizeLine) (hr:Room k callerA)
  (F:∀ base:Heap,K.In base->base.Ns mainGlobals mg->FnOk P w K mg base CX k fa fd [x] sp) (hbind:∀ (s:Shared) (u:Value),BindsTo s fd ⟨[u],[]⟩ [(x,u)])
  (hsp:∀ H:Hp,Only H->SqL K H a (ns.map V.int)->sp [.ref a] H (fun v _=>v=.bl true) fun _ _ _=>False)
  (hCX:∀ H e s',CX [] H s₁ (fun _ _ _=>False) e s'->False) :
  codeAny (model P w) callerA (.call (.ref fa) ⟨[.ref a],[]⟩) (fun r s'=>r=.ok (.ret (.bool true))/\OldK s₁.heap s'.heap/\s'.os=s₁.os/\AllBare s'.gens) s₁:=by
 have rv:=zah hi
 have lenV:=hi.length
 have core:∀ H:Hp,Only H->SqL K H a (ns.map V.int)->HOk P w H s₁.heap->(∀ b,H b≠none->b=a)->(H a≠none->K.lookup a=none) ->
   codeAny (model P w) callerA (.call (.ref fa) ⟨[.ref a],[]⟩) (fun r s'=>r=.ok (.ret (.bool true))/\OldK s₁.heap s'.heap/\s'.os=s₁.os/\AllBare s'.gens) s₁:=by
  intro H hO hS hok hA hK
  have base_of:∀ {b:Addr} {o:Obj},s₁.heap.get? b=some o->H b=none->(hidT s₁.heap H).get? b=some o:=fun e n=>zbn e n
  have noA:∀ {b:Addr} {o:Obj} {es:Array DictEntry} {ep:Nat},s₁.heap.get? b=some o->o.data=.dict es ep->H b=none:=fun{b o es ep} e d=>by
   cases q:H b with
   | none=>rfl
   | some u =>
    have e':b=a:=hA b (by rw[q];simp)
    subst e'
    rw[ha]at e;cases e
    have d':Data.seq vs.toArray _=Data.dict es ep:=d
    cases d'
  have nsK:∀ {b:Addr} {m:Str->Option Value},s₁.heap.Ns b m->(hidT s₁.heap H).Ns b m:=fun{b m} zhC=>(by obtain⟨o,es,ep,e,d,r⟩:=zhC;exact⟨o,es,ep,base_of e (noA e d),d,r⟩)
  have hKb:K.In (hidT s₁.heap H):=fun b o e=>base_of (KX b o e) (by
   cases q:H b with
   | none=>rfl
   | some u =>
    have e':b=a:=hA b (by rw[q];simp)
    subst e'
    rw[hK (by rw[q];simp)]at e;cases e)
  have hM:Mod K mg (hidT s₁.heap H):=⟨hKb,nsK hns,⟨mb,nsK hb,hbb⟩,let ⟨mc,h1,h2⟩:=hlim;⟨mc,nsK h1,h2⟩⟩
  have e0:Env0 P w K mg (hidT s₁.heap H) callerA [] s₁ H:=⟨rfl,hM,fun b o e=>zd1 e,Nat.le_of_eq (z9N _ _),trivial,fun b hb=>absurd (show b∈([]:List Addr) from hb) (by simp),hok,.of_eq hg⟩
  refine codeAny_mono ((F _ hKb (nsK hns)).run callerA [] s₁ H ⟨[.ref a],[]⟩ [.ref a] [.ref a] _ _ hr e0 (hbind s₁ (.ref a)) (.cons rfl .nil) (hsp H hO hS)) fun r s' h=>?_
  cases r with
  | error e=>exact(hCX H e s' h).elim
  | ok fl =>
   cases fl with
   | next=>exact False.elim h
   | brk=>exact False.elim h
   | cont=>exact False.elim h
   | ret u =>
    obtain⟨v,H',os,bare,un,hok',r',q⟩:=h
    have q':v=.bl true:=q
    subst q'
    obtain rfl:u=Value.bool true:=r'
    refine⟨rfl,OldK.of_keep fun b o e=>?_,os,bare⟩
    cases q:H b with
    | none=>exact un.keep b o e q (by intro z;exact absurd (show b∈([]:List Addr) from z) (by simp)) (by simp)
    | some u =>
     rcases hO b with z | ⟨ob,xs,z⟩
     ·rw[q]at z;cases z
     ·have z2:=un.frzs b ob _ z
      obtain⟨e1,_⟩:=hok b _ z
      obtain⟨e2,_⟩:=hok' b _ z2
      rw[e]at e1;cases e1
      exact e2
 cases hk:K.lookup a with
 | some o =>
  have e:=KX a o hk
  rw[ha]at e
  cases e
  refine core (fun _=>none) (fun _=>.inl rfl) (.inr ⟨_,vs.toArray,_,hk,rfl,rfl,rfl,by rw[List.size_toArray,lenV];exact hl,by simpa using rv⟩) (fun b u z=>by have z':(none:Option HO)=some u:=z;cases z') (fun b z=>absurd rfl z) fun z=>absurd rfl z
 | none =>
  refine core (fun b=>if b=a then some (.frz {cls:=.type "list",data:=.seq vs.toArray} (.lst (ns.map V.int))) else none) (fun b=>?_) (.inl (.inr ⟨{cls:=.type "list",data:=.seq vs.toArray},if_pos rfl⟩)) (fun b u z=>?_) (fun b z=>?_) fun _=>hk
  ·by_cases hb:b=a
   ·exact .inr ⟨_,_,if_pos hb⟩
   ·exact .inl (if_neg hb)
  ·by_cases hb:b=a
   ·have z':=(if_pos hb).symm.trans z
    cases z'
    subst hb
    exact⟨ha,by rw[List.length_map];exact hl,vs,_,rv,ha⟩
   ·have z':=(if_neg hb).symm.trans z
    cases z'
  ·by_cases hb:b=a
   ·exact hb
   ·exact absurd (if_neg hb) z
end L2
namespace L2
open PySem PySem.Spec PyProof.Rows
theorem zdh{l:PySem.W.OpenLaw}{n k:Nat}{q:Program}{loose:List Str}{XP:(Str->Option Value)->Heap->Prop}{YP:World->Heap->Prop}{d:DefRec}{K:Params->PySem.W.Frag}{CX:World->CXT}{sp:World->Sp}{x:Str}
  (hn:l.most=some n) (hn2:n<=sizeLine) (hdf:d.params.defaults=[]) (hr:Room k callerA)
  (hY:∀ (w:World) (h:Heap),YP w h->(K w.params).In h)
  (F:∀ (w:World) (mg:Str->Option Value) (fa:Addr) (h:Heap),(K w.params).In h->h.Ns mainGlobals mg->mg d.name=some (.ref fa) ->
   ∃ fd:FuncData,(∀ (s:Shared) (u:Value),BindsTo s fd ⟨[u],[]⟩ [(x,u)]) /\
    ∀ base:Heap,(K w.params).In base->base.Ns mainGlobals mg->FnOk l.prog w (K w.params) mg base (CX w) k fa fd [x] (sp w))
  (hsp:∀ (w:World) (H:Hp) (a:Addr) (ns:List Int),ns.length<=n->Only H->SqL (K w.params) H a (ns.map V.int)->sp w [.ref a] H (fun v _=>v=.bl true) fun _ _ _=>False)
  (hCX:∀ (w:World) (H:Hp) (s:Shared) (e:Value) (s':Shared),CX w [] H s (fun _ _ _=>False) e s'->False) :
  PySem.W.WalkO q loose XP YP l.row.toRowW d [] (fun f vs=>PySem.call f vs):=by
 refine Att.attach_call hn hdf fun w s₀ s₁ mg mb fa o pm cd doc a vs ns G Y ho hd hcd hmg hobj hints hlen hg=>?_
 have KX:=hY w _ Y
 obtain⟨fd,hb,hF⟩:=F w mg fa _ KX G.T.g hmg
 exact zbB KX G.T.g G.T.b G.T.builtins G.T.nolimit hg hobj hints (Nat.le_trans hlen hn2) hr hF hb (fun H hO hS=>hsp w H a ns hlen hO hS) fun H e s'=>hCX w H s₁ e s'
theorem walk_ofK{l:PySem.W.OpenLaw}{n k:Nat}{q:Program}{loose:List Str}{XP:(Str->Option Value)->Heap->Prop}{YP:World->Heap->Prop}{d:DefRec}{K:Params->PySem.W.Frag}{CX:CXT}{sp:PySem.W.Frag->Sp}{x:Str}
  (hn:l.most=some n) (hn2:n<=sizeLine) (hdf:d.params.defaults=[]) (hr:Room k callerA)
  (hY:∀ (w:World) (h:Heap),YP w h->(K w.params).In h)
  (F:∀ (w:World) (mg:Str->Option Value) (fa:Addr) (h:Heap),(K w.params).In h->h.Ns mainGlobals mg->mg d.name=some (.ref fa) ->
   ∃ fd:FuncData,(∀ (s:Shared) (u:Value),BindsTo s fd ⟨[u],[]⟩ [(x,u)]) /\
    ∀ base:Heap,(K w.params).In base->base.Ns mainGlobals mg->FnOk l.prog w (K w.params) mg base CX k fa fd [x] (sp (K w.params)))
  (hsp:∀ (K:PySem.W.Frag) (H:Hp) (a:Addr) (ns:List Int),ns.length<=n->Only H->SqL K H a (ns.map V.int)->sp K [.ref a] H (fun v _=>v=.bl true) fun _ _ _=>False)
  (hCX:∀ (H:Hp) (s:Shared) (e:Value) (s':Shared),CX [] H s (fun _ _ _=>False) e s'->False) :
  PySem.W.WalkO q loose XP YP l.row.toRowW d [] (fun f vs=>PySem.call f vs) :=
 zdh (K:=K) (CX:=fun _=>CX) (sp:=fun w=>sp (K w.params)) hn hn2 hdf hr hY F (fun w H a ns h1 h2 h3=>hsp (K w.params) H a ns h1 h2 h3) fun _ H s e s'=>hCX H s e s'
end L2
namespace L2
open PySem PySem.Spec PyProof.Rows
def inClass(s:Stmt)(j:Nat):Stmt:=match s with
 | .ClassDef _ _ _ body _ _ _ _ _ _ _=>body.getD j (.Pass ⟨0,0,0,0⟩)
 | _=>.Pass ⟨0,0,0,0⟩
def defArgs(s:Stmt):Arguments:=match s with
 | .FunctionDef _ a _ _ _ _ _ _ _ _=>a
 | _=>{posonlyargs:=[],args:=[],vararg:=none,kwonlyargs:=[],kw_defaults:=[],kwarg:=none,defaults:=[]}
def defBody(s:Stmt):List Stmt:=match s with
 | .FunctionDef _ _ b _ _ _ _ _ _ _=>b
 | _=>[]
def defScope(s:Stmt):Scope:=match s with
 | .FunctionDef _ _ _ _ _ _ sc _ _ _=>sc
 | _=>{kind:=.function,names:=[],isGenerator:=false,isCoroutine:=false}
abbrev CX0:CXT:=fun _ _ _ _ _ _=>False
abbrev E0:XK:=fun _ _ _=>False
theorem pass0{X:Cx}:Passes CX0 X E0:=fun _ _ _ _ _ _ _ h=>h.elim
structure Fun(K:PySem.W.Frag)(x qual:Str)(st:Stmt)(f:Addr)(fd:FuncData):Prop where
 ex:∃ (oc:Value) (od:Option Addr) (kV doc pm:Value) (an:Option Addr) (cdv ct:Value) (osl:Array (Option Value)),
  fd=PySem.W.fnOf x qual (defArgs st) (defBody st) (defScope st) .none kV doc pm an cdv ct/\K.lookup f=some ⟨oc,od,.func fd,osl⟩/\PySem.W.codeIn K cdv qual=true
 kp:PySem.W.keepIn K (.ref f)=true
section
variable {P:Program} {w:World} {K:PySem.W.Frag} {mg:Str->Option Value} {base:Heap}
theorem Fun.ok{x qual:Str}{st:Stmt}{f:Addr}{fd:FuncData}{N ps:List Str}{k:Nat}{sp:Sp}(F:Fun K x qual st f fd)(S:FnScope N ps (defScope st))(len:∀ vs H Q E,sp vs H Q E->vs.length=ps.length)
  (hbody:∀ (cdv:Value) (A:Around) (outer:List Env) (s:Shared) (H:Hp) (vs:List V) (Q:VK) (E:XK),Room k (A.deeper (envOfC qual (defScope st) s.heap.objs.size f cdv))->sp vs H Q E ->
   ∃ t,PSs (cxOf CX0 P w K mg base N qual (defScope st) f cdv A outer s H E).nox (defBody st) t/\t {nx:=fun _ H'=>Q .non H',rt:=Q} (start N vs) H):FnOk P w K mg base CX0 (k + 1) f fd ps sp:=by
 obtain⟨oc,od,kV,doc,pm,an,cdv,ct,osl,rfl,lk,hcd⟩:=F.ex
 refine zgN lk hcd S len fun A outer s H vs Q E hr hsp=>?_
 obtain⟨t,h,q⟩:=hbody cdv A outer s H vs Q E hr hsp
 exact⟨t,h.nox,q⟩
theorem Fun.binds{x qual:Str}{st:Stmt}{f:Addr}{fd:FuncData}{ps:List Str}(F:Fun K x qual st f fd)
  (h:∀ (kV doc pm:Value) (an:Option Addr) (cdv ct:Value) (us:List Value),us.length=ps.length->bindArgs (PySem.W.fnOf x qual (defArgs st) (defBody st) (defScope st) .none kV doc pm an cdv ct) ⟨us,[]⟩=pure (ps.zip us)):Binds K fd ps []:=by
 obtain⟨oc,od,kV,doc,pm,an,cdv,ct,osl,rfl,lk,hcd⟩:=F.ex
 exact .all (h kV doc pm an cdv ct)
theorem z8z{x qual:Str}{st:Stmt}{f:Addr}{oc:Value}{od an:Option Addr}{osl:Array (Option Value)}{kV doc pm cdv ct:Value}(l:K.lookup f=some ⟨oc,od,.func (PySem.W.fnOf x qual (defArgs st) (defBody st) (defScope st) .none kV doc pm an cdv ct),osl⟩)
  (c:PySem.W.codeIn K cdv qual=true) (k:PySem.W.keepIn K (.ref f)=true):Fun K x qual st f (PySem.W.fnOf x qual (defArgs st) (defBody st) (defScope st) .none kV doc pm an cdv ct):=⟨⟨oc,od,kV,doc,pm,an,cdv,ct,osl,rfl,l,c⟩,k⟩
end
theorem zgP{A:Around}{k:Nat}(hr:Room k A):A.units + 1 < cLine:=Nat.lt_of_le_of_lt (Nat.add_le_add_left (by decide:1<=64) _) hr.units
theorem small1000{n:Nat}(h:n<=1000):n < sizeLine:=Nat.lt_of_le_of_lt h (by decide)
section
variable {X:Cx}
theorem pv(i:Nat){x:Str}{pos:Pos}(hN:X.N[i]?=some x:=by rfl)(hv:Vis X.env.scope x:=by first | exact Or.inl rfl | exact Or.inr (Or.inl rfl) | exact Or.inr (Or.inr rfl))(hd:(x == ("__debug__":Str))=false:=by decide)
  (hcd:(x == ("__classdict__":Str))=false:=by decide):PE X (.Name x pos) (tVar i):=ze5 hN hv hd hcd
end
theorem iteF{A B:Prop}(h:B):if false=true then A else B:=by
 rw[if_neg Bool.false_ne_true]
 exact h
theorem iteT{A B:Prop}(h:A):if true=true then A else B:=by
 rw[if_pos rfl]
 exact h
theorem ite2{c A B:Prop}[Decidable c](h1:c->A)(h2:¬ c->B):if c then A else B:=by
 by_cases h:c
 ·rw[if_pos h]
  exact h1 h
 ·rw[if_neg h]
  exact h2 h
end L2
namespace L2
open PySem PySem.Spec PyProof.Rows
section
variable {X:Cx}
end
section
variable {κ:Type} [DecidableEq κ]
end
end L2
namespace L2
open PySem PySem.Spec PyProof.Rows
def compCx(X:Cx)(scope:Scope)(cl:List (Str × Addr))(N:List Str)(C:Addr)(s:Shared)(H:Hp)(ex:List Addr):Cx where
 prog:=X.prog
 w:=X.w
 K:=X.K
 mg:=X.mg
 base:=X.base
 A:=X.A
 N:=N
 s₀:=s
 H₀:=H
 env:=compEnvC scope cl C X.env
 outer:=X.stack
 stack:=X.stack
 ex:=ex
 fn:=fun _=>false
 calm:=X.calm
 pn:=[]
 xe:=fun _ _=>False
def compSt(k:Nat)(fr:List Nat)(σ:St):St:=List.replicate k none++fr.map fun j=>(σ[j]?).getD none
structure CompOk(X:Cx)(scope:Scope)(cl:List (Str × Addr))(N:List Str)(k:Nat)(fr:List Nat):Prop where
 kind:scope.kind=.function
 nocell:∀ y∈scope.names,y.2≠.cell
 names:∀ y∈scope.names,y.2=.local->scope.names.lookup y.1=some .local
 clos:closureFor scope X.env=pure cl
 sub:∀ x c,cl.lookup x=some c->X.env.cells.lookup x=some c
 has:∀ x,((relabel scope X.env).names.lookup x=some .cell\/(relabel scope X.env).names.lookup x=some .free)->∃ c,cl.lookup x=some c
 len:N.length=k + fr.length
 free:∀ (t j:Nat) (x:Str),fr[t]?=some j->N[k + t]?=some x->X.N[j]?=some x/\Vis X.env.scope x/\(∃ c,cl.lookup x=some c)/\((relabel scope X.env).names.lookup x=some .cell\/(relabel scope X.env).names.lookup x=some .free)/\¬ X.env.scope.names.lookup x=some .local
def PIfs(Y:Cx)(ifs:List Expr)(t:TT):Prop :=
 ∀ (pins:List (Addr × Obj)) (s:Shared) (σ:St) (H:Hp) (Q:Bool->Hp->Prop),Inv Y pins σ H s->t σ H Q ->
  wpAny (model Y.prog Y.w) Y.A (forIn ifs true fun c r=>if r=true then do let ok <- isTrue c Y.env (eval c Y.env);pure (ForInStep.yield ok) else pure (ForInStep.yield r)) (TP Y pins σ Q) Y.xe s
def tTrue:TT:=fun _ H Q=>Q true H
theorem zbC{Y:Cx}:PIfs Y [] tTrue:=fun _ _ _ H _ I h=>wpAny_tests_nil ⟨H,I,h⟩
theorem zbD{Y:Cx}{c:Expr}{t:TT}(h:PT Y c t):PIfs Y [c] t:=fun pins s σ H Q I q=>wpAny_tests_one (h pins s σ H Q I q)
def Fwd(σ σ':St):Prop:=σ'.length=σ.length/\∀ (i:Nat) (v:V),σ[i]?=some (some v)->σ'[i]?=some (some v)
def CompW(J:It)(g:TG)(tt:TT)(te:TE)(σc:St)(H1:Hp)(F:List V->Hp->Prop):Prop :=
 ∃ W:Nat->Nat->List V->Hp->Prop,(∃ m,W 0 m [] H1)/\∀ i m ys H,W i m ys H ->
  (J.stop i H/\F ys H) \/
  (J.go i H/\ys.length < sizeLine/\∀ x H',J.yld i H x H'->g x σc H' fun σ2 H2=>Fwd σc σ2/\tt σ2 H2 fun b H3 =>
   if b=true then te σ2 H3 fun y H4=>∃ m',m' < m/\W (i + 1) m' (ys++[y]) H4 else ∃ m',m' < m/\W (i + 1) m' ys H3)
def tComp(k:Nat)(fr:List Nat)(wi:TI)(g:TG)(tt:TT)(te:TE):TE:=fun σ H Q=>wi σ H fun J H1=>CompW J g tt te (compSt k fr σ) H1 fun ys H2=>ys.length<=sizeLine/\∀ p,H2 p=none->Q (.ref p) (upd H2 p (.lst ys))
def sComp(i:Nat)(k:Nat)(fr:List Nat)(wi:TI)(g:TG)(tt:TT)(te:TE):TS:=fun D σ H=>wi σ H fun J H1=>CompW J g tt te (compSt k fr σ) H1 fun ys H2=>ys.length<=sizeLine/\∀ p,H2 p=none->D.nx (σ.set i (some (.ref p))) (upd H2 p (.lst ys))
section
variable {X:Cx} {pins:List (Addr × Obj)} {σ:St} {H:Hp} {s:Shared}
theorem Inv.track{D:Addr}{o:HO}{t':Nat}(I:Inv X pins σ H s)(hn:H D=none)(hL:D≠X.env.locals)(h1:X.s₀.heap.objs.size<=D)(h2:∀ x c,X.env.cells.lookup x=some c->c≠D)(h3:∀ p∈X.pn++pins,p.1≠D)
  (new:ObjOk X.prog X.w (upd H D o) s.heap D o):Inv X pins σ (upd H D o) {s with toks:=t'}:=by
 have ne:∀ b u,H b=some u->b≠D:=fun b u e=>zf e hn
 refine I.step (h':=s.heap) (g':=s.gens) (d':=s.drawn) (ch:=[D]) (fun b hb=>?_) (fun b o _ _ _ e _=>e) (fun b o _ _ _ e _=>⟨o.slots,e⟩) (fun b o hc _ n=>?_) (fun b o _ e=>⟨o,e⟩)
  (fun b xs e=>by rw[zd (ne b _ e)];exact e) (fun b o u e=>by rw[zd (ne b _ e)];exact e) (fun b ps e=>⟨#[],by rw[zd (ne b _ e),e];simp⟩) (fun m hm=>hm) (fun b u e=>?_) I.bare
 ·have e:b=D:=by simpa using hb
  subst e
  exact⟨.inr h1,hL,h2,h3⟩
 ·rw[zd (by simpa using hc)];exact n
 ·by_cases hb:b=D
  ·subst hb;rw[ze]at e;cases e;exact new
  ·rw[zd hb]at e
   exact(I.hok b u e).stay (fun c v _ q=>q) (fun c q=>by rw[zd (ne c _ q)];exact q) fun c xs q=>by rw[zd (ne c _ q)];exact q
theorem z62(k:Nat)(fr:List Nat)(σ:St):(compSt k fr σ).length=k + fr.length:=by simp[compSt]
theorem z63{k i:Nat}{fr:List Nat}{σ:St}(h:i < k):(compSt k fr σ)[i]?=some none:=by
 unfold compSt
 rw[List.getElem?_append_left (by simpa using h),List.getElem?_replicate,if_pos h]
theorem z5a{k i:Nat}{fr:List Nat}{σ:St}{v:V}(h:(compSt k fr σ)[i]?=some (some v)):∃ t j,i=k + t/\fr[t]?=some j/\σ[j]?=some (some v):=by
 by_cases hi:i < k
 ·rw[z63 hi]at h;cases h
 ·refine⟨i - k,?_⟩
  unfold compSt at h
  rw[List.getElem?_append_right (by simpa using Nat.not_lt.mp hi),List.length_replicate,List.getElem?_map]at h
  cases e:fr[i - k]? with
  | none=>rw[e]at h;cases h
  | some j =>
   rw[e]at h
   refine⟨j,by omega,rfl,?_⟩
   cases e2:σ[j]? with
   | none=>rw[show(some j).map (fun j=>(σ[j]?).getD none)=some ((σ[j]?).getD none) from rfl,e2]at h;cases h
   | some u =>
    rw[show(some j).map (fun j=>(σ[j]?).getD none)=some ((σ[j]?).getD none) from rfl,e2]at h
    exact h
def CompRR(X:Cx)(pins:List (Addr × Obj))(σ:St)(F:List V->Hp->Prop)(RR:Value->Addr->Result->Shared->Prop):Prop:=∀ D C ys (its:List Value) n H' m s',Inv X pins σ H' s'->H' D=none->X.s₀.heap.objs.size<=D->D≠X.env.locals->(∀ x c,X.env.cells.lookup x=some c->c≠D)->(∀ p∈X.pn++pins,p.1≠D) ->
   s'.heap.get? D=some {cls:=.type "list",data:=.seq its.toArray n}->Vals ys its->s'.heap.Ns C m->H' C=none->X.s₀.heap.objs.size<=C->C≠X.env.locals->(∀ x c,X.env.cells.lookup x=some c->c≠C)->(∀ p∈X.pn++pins,p.1≠C)->C≠D ->
   F ys H'->RR (.ref D) C (.ok .next) s'
inductive CompI(Y:Cx)(τ:St)(tn:Nat->Heap->Prop)(fp:List Addr)(D:Addr)(W:Nat->Nat->List V->Hp->Prop)(n:Nat)(s':Shared):Prop
 | mk (i:Nat) (ys:List V) (its:List Value) (nn:Nat) (H':Hp) (h0:Inv Y [] τ H' s') (h1:tn i s'.heap) (h2:∀ b∈fp,H' b=none) (h3:H' D=none) (h4:s'.heap.get? D=some {cls:=.type "list",data:=.seq its.toArray nn}) (h5:Vals ys its) (h6:W i n ys H')
theorem z9c{tg iter elt:Expr}{ifs:List Expr}{scope:Scope}{cl:List (Str × Addr)}{N:List Str}{k:Nat}{fr:List Nat}{pos:Pos}{g:TG}{tt:TT}{te:TE}
  {F:List V->Hp->Prop} {RR:Value->Addr->Result->Shared->Prop} {it D C:Addr} {fp:List Addr} {tn:Nat->Heap->Prop} {J:It} {H1:Hp} {h3 h₁:Heap}
  (ok:CompOk X scope cl N k fr) (hc:X.calm=true)
  (hg:∀ C s H ex,PG (compCx X scope cl N C s H ex) tg g) (ht:∀ C s H ex,PIfs (compCx X scope cl N C s H ex) ifs tt) (he:∀ C s H ex,PE (compCx X scope cl N C s H ex) elt te)
  (hRR:CompRR X pins σ F RR) (I:Inv X pins σ H1 s) (T:Turn X.prog X.w X.K tg J fp it tn) (st0:tn 0 s.heap) (hf:∀ b∈fp,FpOk X pins H1 b) (hw:CompW J g tt te (compSt k fr σ) H1 F)
  (hD:s.heap.objs.size=D) (hp3:s.heap.push {cls:=.type "list",dict:=none,data:=.seq ([]:List Value).toArray}=h3) (hC:h3.objs.size=C)
  (hns₁:h₁.Ns C fun x=>List.lookup x ([]:List (Str × Value)).reverse) (hsb₁:Heap.SameBut C (h3.push {cls:=.type (if (some X.env).isSome=true then "dict" else "frame"),data:=.dict #[]}) h₁) :
  codeAny (model X.prog X.w) X.A (.compStart (.ListComp elt [⟨tg,iter,ifs,0⟩] scope pos) 0 (.ref it) (.ref D) {newEnv scope C X.env.globals cl X.env.qual none .none (some X.env) builtinsNs with scope:=relabel scope X.env}) (RR (.ref D) C) {s with heap:=h₁,toks:=s.toks + ([]:List (Str × Value)).length}:=by
 obtain⟨W,⟨m0,w0⟩,turn⟩:=hw
 have DF:H1 D=none:=I.hok.fresh (by rw[hD];exact Nat.le_refl _)
 have hDfp:=I.fpOk (b:=D) (by rw[hD];exact Nat.le_refl _) DF
 have up3:∀ b u,s.heap.get? b=some u->h3.get? b=some u:=fun b u e=>by rw[<- hp3];exact Heap.get?_push_of_some _ e
 have I3:Inv X pins σ H1 {s with heap:=h3}:=I.kept (t':=s.toks) up3
 have hD3:h3.get? D=some {cls:=.type "list",dict:=none,data:=.seq ([]:List Value).toArray}:=by rw[<- hD,<- hp3];exact Heap.get?_push_size _ rfl
 have sz3:C=D + 1:=by rw[<- hC,<- hp3,Heap.size_push,hD]
 have CF:H1 C=none:=I3.hok.fresh (by show h3.objs.size<=C;rw[hC];exact Nat.le_refl _)
 have hCfp:FpOk X pins H1 C:=I3.fpOk (b:=C) (by show h3.objs.size<=C;rw[hC];exact Nat.le_refl _) CF
 have CD:C≠D:=by rw[sz3];exact Nat.ne_of_gt (Nat.lt_succ_self _)
 have up1:∀ b u,h3.get? b=some u->h₁.get? b=some u:=fun b u e=>hsb₁.extBut b u (Nat.ne_of_lt (by have:=Heap.lt_size e;rw[hC]at this;exact this)) (Heap.get?_push_of_some _ e)
 have hfb:∀ b∈fp,b < D:=fun b hb=>by
  obtain⟨o,e,_⟩:=T.obj 0 _ st0 b hb
  have:=Heap.lt_size e
  rw[hD]at this;exact this
 let s3:Shared:={s with heap:=h3}
 let Y:Cx:=compCx X scope cl N C s3 H1 (D::fp)
 have yok:Y.Ok:={
  mod:=I.ok.mod
  kind:=ok.kind
  glob:=I.ok.glob
  blt:=I.ok.blt
  above:=by show h3.objs.size<=C;rw[hC];exact Nat.le_refl _
  inj:=fun x y c e1 e2=>I.ok.inj x y c (ok.sub x c e1) (ok.sub y c e2)
  has:=ok.has
  cab:=fun x c e _=>nomatch e
  hd:=fun _=>I.ok.hd hc
  frames:=I.ok.frames
  stk:=.inl rfl
  exf:=fun b hb=>by
   rcases List.mem_cons.mp hb with rfl | hb
   ·exact⟨Ne.symm CD,fun x c e=>hDfp.2.2.2.2.1 x c (ok.sub x c e)⟩
   ·exact⟨fun z=>by have q:=hfb b hb;have z':b=C:=z;rw[z',sz3]at q;exact absurd q (Nat.not_lt.mpr (Nat.le_succ _)),fun x c e=>(hf b hb).2.2.2.2.1 x c (ok.sub x c e)⟩
  bs:=fun b o e=>⟨(I3.bs b o e).1,(I3.bs b o e).2⟩
  bsz:=Nat.le_trans I.ok.bsz I3.sz
  noex:=fun b o e hb=>by
   rcases List.mem_cons.mp hb with rfl | hb
   ·have e1:=(I.bs b o e).1
    have:=Heap.lt_size e1
    rw[hD]at this
    exact Nat.lt_irrefl _ this
   ·rcases(hf b hb).2.2.2.1 with z | z
    ·exact I.ok.noex b o e z
    ·exact absurd (Nat.lt_of_lt_of_le (Heap.lt_size e) (Nat.le_trans I.ok.bsz z)) (Nat.lt_irrefl _)
  exfs:=fun b hb hb2=>by
   rcases List.mem_cons.mp hb with rfl | hb
   ·rcases List.mem_cons.mp (I.stkSub b hb2) with z | z
    ·exact hDfp.2.1 z
    ·exact hDfp.2.2.1 z
   ·rcases List.mem_cons.mp (I.stkSub b hb2) with z | z
    ·exact(hf b hb).2.1 z
    ·exact(hf b hb).2.2.1 z
  funs:=I3.stack
  frf:=I.stkFree}
 have neC:∀ b u,h3.get? b=some u->b≠C:=fun b u e=>Nat.ne_of_lt (by have:=Heap.lt_size e;rw[hC]at this;exact this)
 have IY:Inv Y [] (compSt k fr σ) H1 {s3 with heap:=h₁,toks:=s.toks + ([]:List (Str × Value)).length}:={
  ok:=yok
  os:=rfl
  bare:=I.bare
  base:=Un.kept up1
  loc:=by
   obtain⟨m,hn,hl⟩:=I3.loc
   refine⟨_,hns₁,fun i x v e1 e2 e3=>?_⟩
   obtain⟨t,j,rfl,e4,e5⟩:=z5a e2
   obtain⟨e6,e7,⟨c,e8⟩,e9,e10⟩:=ok.free t j x e4 e1
   obtain⟨u,ru,lk⟩:=hl j x v e6 e5 e7
   refine⟨u,ru,?_⟩
   rcases lk with ⟨z,_⟩ | ⟨_,c',e11,o,eo,ed⟩
   ·exact absurd z e10
   ·rw[ok.sub x c e8]at e11;cases e11
    exact .inr ⟨e9,c,e8,o,up1 _ _ eo,ed⟩
  cell:=fun x c e=>by
   obtain⟨v,o,eo,ed⟩:=I3.cell x c (ok.sub x c e)
   exact⟨v,o,up1 _ _ eo,ed⟩
  free:=CF
  freeC:=fun x c e=>I3.freeC x c (ok.sub x c e)
  pin:=fun p hp=>nomatch hp
  hok:=I3.hok.kept up1
  len:=by rw[z62];exact ok.len.symm}
 have DY:D≠Y.env.locals:=Ne.symm CD
 have DYf:D ∉ Y.fs:=yok.exfs D List.mem_cons_self
 have Dfp:D ∉ fp:=fun z=>Nat.lt_irrefl _ (hfb D z)
 have pinD:∀ {σ':St} {H':Hp} {s':Shared} {its:List Value} {n:Nat},Inv Y [] σ' H' s'->H' D=none->s'.heap.get? D=some {cls:=.type "list",data:=.seq its.toArray n} ->
   Inv Y [(D,{cls:=.type "list",data:=.seq its.toArray n})] σ' H' s':=fun{σ' H' s' its n} J0 hn e=>J0.pins_of fun p hp=>by
  rcases List.mem_cons.mp hp with rfl | hp
  ·exact⟨e,hn,DY,DYf,fun v z=>nomatch z⟩
  ·exact nomatch hp
 have ffY:∀ {o:Obj} {H':Hp},(∀ b∈fp,H' b=none)->∀ b∈fp,FpOk Y [(D,o)] H' b:=fun{o H'} hn b hb =>
  ⟨hn b hb,(yok.exf b (List.mem_cons_of_mem _ hb)).1,yok.exfs b (List.mem_cons_of_mem _ hb),.inl (List.mem_cons_of_mem _ hb),(yok.exf b (List.mem_cons_of_mem _ hb)).2,fun p hp=>by
   have hp':p∈([]:List (Addr × Obj))++[(D,o)]:=hp
   have e:p=(D,o):=by simpa using hp'
   rw[e];exact fun z=>Dfp (by have z':D=b:=z;rw[z'];exact hb)⟩
 have loop:codeAny (model X.prog X.w) X.A (.compLoop (.ListComp elt [⟨tg,iter,ifs,0⟩] scope pos) 0 (.ref it) (.ref D) (compEnvC scope cl C X.env)) (RR (.ref D) C)
   {s3 with heap:=h₁,toks:=s.toks + ([]:List (Str × Value)).length}:=by
  refine codeAny_loop rfl (CompI Y (compSt k fr σ) tn fp D W) ?_ m0
   ⟨0,[],[],0,H1,IY,?_,fun b hb=>(hf b hb).1,DF,?_,.nil,w0⟩
  ·rintro n s4 ⟨i,ys,its,nn,H4,I4,st4,fr4,D4,e4,v4,w4⟩
   have P4:=pinD I4 D4 e4
   show wpAny _ X.A ((compTurn (.ListComp elt [⟨tg,iter,ifs,0⟩] scope pos) 0 (.ref it) (.ref D) (compEnvC scope cl C X.env)).onRaise (fun x=>do noteFrame x (compEnvC scope cl C X.env);theTreesLotGoes x)) _ _ s4
   refine wpAny_noted ?_
   rw[compTurn_list]
   refine wpAny_bind (wpAny_standAt (wpAny_bind ?_))
   rcases turn i n ys H4 w4 with ⟨stop,fin⟩ | ⟨go,small,step⟩
   ·refine wpAny_mono (T.done Y rfl rfl rfl hc i _ s4 _ H4 (fun _ _=>False) P4 (ffY fr4) st4 stop) (fun r s5 ⟨hr,I5⟩=>?_) fun _ _ z=>z.elim
    subst hr
    refine wpAny_pure ?_
    have e5:=(I5.pin _ (List.mem_cons_self)).1
    have fin5:Inv X pins σ H4 s5:=I3.call' (ch:=D::fp) I5.os I5.base I5.hok I5.bare fun b hb=>by
     rcases List.mem_cons.mp hb with rfl | hb
     ·exact⟨hDfp.2.2.2.1,hDfp.2.1,hDfp.2.2.2.2.1,hDfp.2.2.2.2.2⟩
     ·exact⟨(hf b hb).2.2.2.1,(hf b hb).2.1,(hf b hb).2.2.2.2.1,(hf b hb).2.2.2.2.2⟩
    obtain⟨m5,n5,_⟩:=I5.loc
    have szD:X.s₀.heap.objs.size<=D:=by have:=I.sz;rw[hD]at this;exact this
    have szC:X.s₀.heap.objs.size<=C:=by rw[sz3];exact Nat.le_succ_of_le szD
    exact hRR D C ys its nn H4 m5 s5 fin5 D4 szD hDfp.2.1 hDfp.2.2.2.2.1 hDfp.2.2.2.2.2 e5 v4 n5 I5.free szC hCfp.2.1 hCfp.2.2.2.2.1 hCfp.2.2.2.2.2 CD fin
   ·refine wpAny_mono (T.item Y rfl rfl rfl hc i _ s4 _ H4 (fun _ _=>False) P4 (ffY fr4) st4 go) (fun r s5 ⟨u,hr,h5⟩=>?_) fun _ _ z=>z.elim
    subst hr
    refine wpAny_bind (wpAny_mono h5 (fun _ s6 zhD=>?_) fun _ _ z=>z.elim)
    obtain⟨x,H6,I6,r6,y6,st6,fr6⟩:=zhD
    have I6':=I6.pinned (ffY fr6) (T.obj _ _ st6)
    refine wpAny_bind (wpAny_mono (hg C s3 H1 (D::fp) _ s6 _ H6 x u _ I6' r6 (step x H6 y6)) (fun _ s7 zhE=>?_) fun _ _ z=>z.elim)
    obtain⟨σ7,H7,I7,f7,q7⟩:=zhE
    refine wpAny_bind (wpAny_mono (ht C s3 H1 (D::fp) _ s7 σ7 H7 _ I7 q7) (fun b s8 zhF=>?_) fun _ _ z=>z.elim)
    obtain⟨H8,I8,q8⟩:=zhF
    have keep:∀ {s9:Shared} {H9:Hp},Inv Y ([(D,{cls:=.type "list",data:=.seq its.toArray nn})]++pinsAt fp s6.heap) σ7 H9 s9->tn (i + 1) s9.heap/\(∀ b∈fp,H9 b=none)/\H9 D=none/\s9.heap.get? D=some {cls:=.type "list",data:=.seq its.toArray nn}/\Inv Y [] (compSt k fr σ) H9 s9:=fun{s9 H9} I9=>by
     refine⟨T.keep _ _ _ st6 fun b hb o e=>(I9.pin (b,o) (List.mem_append_right _ (List.mem_append_right _ (z1X hb e)))).1,fun b hb=>?_,?_,?_,?_⟩
     ·obtain⟨o,e,d⟩:=T.obj _ _ st6 b hb
      exact(I9.pin (b,o) (List.mem_append_right _ (List.mem_append_right _ (z1X hb e)))).2.1
     ·exact(I9.pin _ (List.mem_append_right _ (List.mem_append_left _ List.mem_cons_self))).2.1
     ·exact(I9.pin _ (List.mem_append_right _ (List.mem_append_left _ List.mem_cons_self))).1
     ·exact(I9.pins_of (pins':=[]) fun p hp=>nomatch hp).weak f7.1.symm f7.2
    cases b with
    | false =>
     have q8:∃ m',m' < n/\W (i + 1) m' ys H8:=by simpa using q8
     obtain⟨m',hm,w8⟩:=q8
     obtain⟨a1,a2,a3,a4,a5⟩:=keep I8
     exact wpAny_pure ⟨rfl,m',hm,i + 1,ys,its,nn,H8,a5,a1,a2,a3,a4,v4,w8⟩
    | true =>
     have q8:te σ7 H8 fun y H4=>∃ m',m' < n/\W (i + 1) m' (ys++[y]) H4:=by simpa using q8
     refine wpAny_bind (wpAny_bind (wpAny_mono (he C s3 H1 (D::fp) _ s8 σ7 H8 _ I8 q8) (fun yv s9 zhG=>?_) fun _ _ z=>z.elim))
     obtain⟨y,H9,I9,r9,m',hm,w9⟩:=zhG
     obtain⟨a1,a2,a3,a4,a5⟩:=keep I9
     refine wpAny_bind (append_at (hsz:=by rw[List.size_toArray,<- v4.length];exact Nat.le_of_lt small) a4 fun h' hs' e'=>?_)
     refine wpAny_pure (wpAny_pure ⟨rfl,m',hm,i + 1,ys++[y],its++[yv],nn + 1,H9,?_,?_,a2,a3,?_,v4.append (.cons r9 .nil),w9⟩)
     ·exact a5.turned (t':=s9.toks) (fun b o hb e=>hs'.extBut b o hb e) a3 DY (.inl List.mem_cons_self) (yok.exf D List.mem_cons_self).2 fun p hp=>nomatch hp
     ·exact T.keep _ _ _ a1 fun b hb o e=>hs'.extBut b o (fun z=>Dfp (by rw[<- z];exact hb)) e
     ·show h'.get? D=_
      rw[e']
      simp
  ·exact T.keep 0 _ _ st0 fun b hb o e=>up1 _ _ (up3 _ _ e)
  ·exact up1 _ _ hD3
 exact codeAny_compStart_list loop (T.self _ 0 _ _ _ (T.keep 0 _ _ st0 fun b hb o e=>up1 _ _ (up3 _ _ e)) loop)
theorem z71{tg iter elt:Expr}{ifs:List Expr}{scope:Scope}{cl:List (Str × Addr)}{N:List Str}{k:Nat}{fr:List Nat}{pos:Pos}{g:TG}{tt:TT}{te:TE}{itv:Value}{E:Value->Shared->Prop}
  {F:List V->Hp->Prop} {RR:Value->Addr->Result->Shared->Prop}
  (ok:CompOk X scope cl N k fr) (hc:X.calm=true)
  (hg:∀ C s H ex,PG (compCx X scope cl N C s H ex) tg g) (ht:∀ C s H ex,PIfs (compCx X scope cl N C s H ex) ifs tt) (he:∀ C s H ex,PE (compCx X scope cl N C s H ex) elt te)
  (h:PIE X pins σ tg (fun J H1=>CompW J g tt te (compSt k fr σ) H1 F) itv s)
  (hRR:CompRR X pins σ F RR) :
  wpAny (model X.prog X.w) X.A (newList []) (fun acc s₃=>wpAny (model X.prog X.w) X.A (newFunctionEnv scope X.env.globals cl [] X.env.qual none .none (some X.env)) (fun cenv s₄ =>
   codeAny (model X.prog X.w) X.A (.compStart (.ListComp elt [⟨tg,iter,ifs,0⟩] scope pos) 0 itv acc {cenv with scope:=relabel scope X.env}) (RR acc cenv.locals) s₄) E s₃) E s:=by
 obtain⟨it,fp,tn,J,H1,rfl,I,T,st0,hf,hw⟩:=h
 exact wpAny_newObj_type (wpAny_newFunctionEnv ok.nocell (by intro y hy;simp at hy) (fun h₁ hns₁ hsb₁=>z9c (s:=s) (h3:=s.heap.push {cls:=.type "list",dict:=none,data:=.seq ([]:List Value).toArray}) (h₁:=h₁) ok hc hg ht he hRR I T st0 hf hw rfl rfl rfl hns₁ hsb₁) ok.kind)
theorem zdi{tg iter elt:Expr}{ifs:List Expr}{scope:Scope}{cl:List (Str × Addr)}{N:List Str}{k:Nat}{fr:List Nat}{pos:Pos}{wi:TI}{g:TG}{tt:TT}{te:TE}
  (ok:CompOk X scope cl N k fr) (hc:X.calm=true) (hi:PI X tg iter wi)
  (hg:∀ C s H ex,PG (compCx X scope cl N C s H ex) tg g) (ht:∀ C s H ex,PIfs (compCx X scope cl N C s H ex) ifs tt) (he:∀ C s H ex,PE (compCx X scope cl N C s H ex) elt te)
  (hs:∀ x,foldedSetIterable iter X.env x=pure x:=by intro _;rfl):PE X (.ListComp elt [⟨tg,iter,ifs,0⟩] scope pos) (tComp k fr wi g tt te):=by
 intro pins s σ H Q I h
 rw[eval_ListComp]
 refine wpAny_comprehension_free (use:=none) rfl hs ok.clos ok.kind ok.names (thn (hi pins s σ H _ I h) fun v s1 h1=>thn h1 fun itv s2 h2=>?_)
 refine z71 ok hc hg ht he h2 fun D C ys its n H' m s' I' d1 d2 d3 d4 d5 e vv nC c1 c2 c3 c4 c5 cd fin=>?_
 refine⟨m,nC,fun h'' sb=>?_⟩
 have I2:Inv X pins σ H' {s' with heap:=h''}:=I'.turned (t':=s'.toks) (fun b o hb e=>sb.extBut b o hb e) c1 c3 (.inr c2) c4 c5
 have e2:h''.get? D=some {cls:=.type "list",data:=.seq its.toArray n}:=sb.extBut _ _ (Ne.symm cd) e
 exact⟨.ref D,upd H' D (.lst ys),I2.track (t':=s'.toks) d1 d3 d2 d4 d5 ⟨fin.1,its,n,vv,e2⟩,rfl,fin.2 D d1⟩
theorem zdj{i:Nat}{x:Str}{py spos:Pos}{tg iter elt:Expr}{ifs:List Expr}{scope:Scope}{cl:List (Str × Addr)}{N:List Str}{k:Nat}{fr:List Nat}{pos:Pos}{wi:TI}{g:TG}{tt:TT}{te:TE}
  (hN:X.N.Nodup) (hi':X.N[i]?=some x) (hx:Loc X.env.scope x) (ok:CompOk X scope cl N k fr) (hc:X.calm=true) (hi:PI X tg iter wi)
  (hg:∀ C s H ex,PG (compCx X scope cl N C s H ex) tg g) (ht:∀ C s H ex,PIfs (compCx X scope cl N C s H ex) ifs tt) (he:∀ C s H ex,PE (compCx X scope cl N C s H ex) elt te)
  (hsw:swapsWith (.ListComp elt [⟨tg,iter,ifs,0⟩] scope pos) (some (.Name x py)) spos.line X.env=pure true)
  (hs:∀ x,foldedSetIterable iter X.env x=pure x:=by intro _;rfl) (hf:X.fn x=true\/X.env.scope.names.lookup x=some .local:=by first | exact .inl rfl | exact .inr rfl | assumption) :
  PS X (.Assign [.Name x py] (.ListComp elt [⟨tg,iter,ifs,0⟩] scope pos) spos) (sComp i k fr wi g tt te):=by
 intro pins s σ H Dd I h
 rw[exec_Assign_Name_used _ _ _ _ hsw]
 refine wpAny_bind (wpAny_standAt (wpAny_bind ?_))
 show wpAny _ X.A (do let _ <- comprehension (.ListComp elt [⟨tg,iter,ifs,0⟩] scope pos) scope X.env _ (newList []) false (eval iter X.env) (some (assign (.Name x py) X.env))) _ _ s
 refine wpAny_bind (wpAny_mono (wpAny_comprehension_free (use:=some (assign (.Name x py) X.env)) (Q:=fun _ s'=>SP X pins Dd .next s') rfl hs ok.clos ok.kind ok.names (thn (hi pins s σ H _ I h) fun v s1 h1=>thn h1 fun itv s2 h2=>?_)) (fun _ s' hq=>wpAny_pure (wpAny_pure hq)) fun _ _ e=>e)
 refine z71 ok hc hg ht he h2 fun D C ys its n H' m s' I' d1 d2 d3 d4 d5 e vv nC c1 c2 c3 c4 c5 cd fin=>?_
 show wpAny _ X.A (assign (.Name x py) X.env (.ref D)) _ _ s'
 have I0:Inv X pins σ (upd H' D (.lst ys)) s':=I'.track (t':=s'.toks) d1 d3 d2 d4 d5 ⟨fin.1,its,n,vv,e⟩
 refine wpAny_assign_Name (z53 I0 hN hi' hx (show RelV (.ref D) (.ref D) from rfl) (fun s2 I2 zhH=>?_) hf)
 obtain⟨a,sb,ha⟩:=zhH
 have aC:C≠a:=by
  rcases ha with z | z
  ·rw[z];exact c3
  ·exact Ne.symm (c4 x a z)
 refine⟨m,nC.sameBut sb aC,fun h'' sb2=>?_⟩
 have HC:(upd H' D (.lst ys)) C=none:=by rw[zd cd];exact c1
 exact⟨_,_,I2.turned (t':=s2.toks) (fun b o hb e=>sb2.extBut b o hb e) HC c3 (.inr c2) c4 c5,fin.2 D d1⟩
end
end L2
namespace L2
open PySem PySem.Spec PyProof.Rows
def SqK(k:Bool)(K:PySem.W.Frag)(H:Hp)(a:Addr)(xs:List V):Prop:=if k=true then SqL K H a xs else SqT K H a xs
def HasK(k:Bool)(h:Heap)(a:Addr)(its:Array Value):Prop:=if k=true then h.IsList a its else h.IsTuple a its
def IterK(k:Bool)(h:Heap)(it a:Addr)(i:Nat):Prop:=if k=true then h.IsListIter it a i else h.IsTupleIter it a i
def iterObj(k:Bool)(a:Addr):Obj:={cls:=.type (if k=true then "list_iterator" else "tuple_iterator"),data:=.fields #[.ref a,.int 0 0]}
theorem IterK.at{k:Bool}{h h':Heap}{it a:Addr}{i:Nat}(x:IterK k h it a i)(e:∀ o,h.get? it=some o->h'.get? it=some o):IterK k h' it a i:=by
 cases k with
 | true=>exact Heap.IsListIter.at (show h.IsListIter it a i from x) e
 | false=>exact Heap.IsTupleIter.at (show h.IsTupleIter it a i from x) e
theorem IterK.get{k:Bool}{h:Heap}{it a:Addr}{i:Nat}(x:IterK k h it a i):∃ o,h.get? it=some o/\∀ v,o.data≠.cell v:=by
 cases k with
 | true=>obtain⟨o,e,_,d⟩:=(show h.IsListIter it a i from x);exact⟨o,e,fun v z=>by rw[d]at z;cases z⟩
 | false=>obtain⟨o,e,_,d⟩:=(show h.IsTupleIter it a i from x);exact⟨o,e,fun v z=>by rw[d]at z;cases z⟩
theorem HasK.at{k:Bool}{h h':Heap}{a:Addr}{its:Array Value}(x:HasK k h a its)(e:∀ o,h.get? a=some o->h'.get? a=some o):HasK k h' a its:=by
 cases k with
 | true=>exact Heap.IsList.at (show h.IsList a its from x) e
 | false=>obtain⟨o,q,r⟩:=(show h.IsTuple a its from x);exact⟨o,e o q,r⟩
theorem HasK.lt{k:Bool}{h:Heap}{a:Addr}{its:Array Value}(x:HasK k h a its):a < h.objs.size:=by
 cases k with
 | true=>obtain⟨_,e,_⟩:=(show h.IsList a its from x);exact Heap.lt_size e
 | false=>obtain⟨_,e,_⟩:=(show h.IsTuple a its from x);exact Heap.lt_size e
theorem Inv.hasK{X:Cx}{pins:List (Addr × Obj)}{σ:St}{H:Hp}{s:Shared}{k:Bool}{a:Addr}{xs:List V}(I:Inv X pins σ H s)(h:SqK k X.K H a xs) :
  ∃ its:List Value,Vals xs its/\HasK k s.heap a its.toArray/\xs.length<=sizeLine:=by
 cases k with
 | true =>
  obtain⟨its,r,p,z⟩:=I.list (show SqL X.K H a xs from h)
  exact⟨its,r,p.isList,z⟩
 | false =>
  obtain⟨its,r,⟨o,e,c,n,d⟩,z⟩:=I.tuple (show SqT X.K H a xs from h)
  exact⟨its,r,⟨o,e,c,n,d⟩,z⟩
theorem Inv.sqK_inj{X:Cx}{pins:List (Addr × Obj)}{σ:St}{H:Hp}{s:Shared}{k:Bool}{a:Addr}{xs ys:List V}(I:Inv X pins σ H s)(h:SqK k X.K H a xs)(h':SqK k X.K H a ys):xs=ys:=by
 cases k with
 | true=>exact I.list_inj h h'
 | false=>exact I.tuple_inj h h'
section
variable {prog:Program} {w:World} {A:Around} {E:Value->Shared->Prop} {s:Shared}
theorem z1r{k:Bool}{it a:Addr}{i:Nat}{its:Array Value}{x:Value}{Q:Value->Shared->Prop}(hi:IterK k s.heap it a i)(ha:HasK k s.heap a its)(hx:its[i]?=some x)
  (hQ:∀ h',IterK k h' it a (i + 1)->Heap.SameBut it s.heap h'->Q x {s with heap:=h'}):wpAny (model prog w) A (Builtin.SmallTypes.nextOf (.ref it)) Q E s:=by
 cases k with
 | true=>exact wpAny_nextOf_list_item hi ha hx fun h' q1 q2=>hQ h' q1 q2
 | false =>
  have hit:s.heap.IsTupleIter it a i:=hi
  obtain⟨o,eo,ec,ed⟩:=id hit
  obtain⟨oa,ea,_,na,da⟩:=(show s.heap.IsTuple a its from ha)
  unfold Builtin.SmallTypes.nextOf
  refine wpAny_bind (wpAny_callSpecial?_slot (name:=Str.ofString "__next__") hit.typeIs F.slot_tuple_iterator_next (wpAny_call_entry F.slot_tuple_iterator_next hit.typeIs F.entry_tuple_iterator_next ?_ (F.args_tuple_iterator_next_1 _)))
  show wpAny (model prog w) _ (field (.ref it) 0 >>= _) _ E s
  refine wpAny_bind (wpAny_field eo ed (x:=.ref a) rfl ?_)
  show wpAny (model prog w) _ (if (Value.ref a == Value.none)=true then _ else _) _ E s
  rw[if_neg (by show ¬ false=true;exact Bool.false_ne_true)]
  show wpAny (model prog w) _ (field (.ref it) 1 >>= _) _ E s
  refine wpAny_bind (wpAny_field eo ed (x:=.int i 0) rfl ?_)
  show wpAny (model prog w) _ (seqItems? (.ref a) >>= _) _ E s
  refine wpAny_bind (wpAny_seqItems ea da ?_)
  simp only[Int.toNat_natCast,hx]
  refine wpAny_bind (wpAny_setField eo ed (by simp) (wpAny_pure ⟨x,rfl,wpAny_pure (hQ _ ?_ (Heap.SameBut.update ..))⟩))
  show Heap.IsTupleIter _ it a (i + 1)
  refine⟨_,Heap.get?_update_self _ eo (Obj.isFreed_of_fields (Obj.data_mapFields ed _)),(Obj.cls_mapFields ..).trans ec,?_⟩
  rw[Obj.data_mapFields ed]
  simp[rawInt]
theorem z2v{k:Bool}{it a:Addr}{i:Nat}{its:Array Value}{Q:Value->Shared->Prop}(hh:A.handled=none)(hi:IterK k s.heap it a i)(ha:HasK k s.heap a its)(hx:its[i]?=none)
  (hE:∀ h' e,Heap.ExtBut it s.heap h'->(∃ o,h'.get? e=some o/\o.cls=.type "StopIteration")->E (.ref e) {s with heap:=h'}):wpAny (model prog w) A (Builtin.SmallTypes.nextOf (.ref it)) Q E s:=by
 cases k with
 | true=>exact wpAny_nextOf_list_end hh hi ha hx hE
 | false =>
  have hit:s.heap.IsTupleIter it a i:=hi
  obtain⟨o,eo,ec,ed⟩:=id hit
  obtain⟨oa,ea,_,na,da⟩:=(show s.heap.IsTuple a its from ha)
  unfold Builtin.SmallTypes.nextOf
  refine wpAny_bind (wpAny_callSpecial?_slot (name:=Str.ofString "__next__") hit.typeIs F.slot_tuple_iterator_next (wpAny_call_entry F.slot_tuple_iterator_next hit.typeIs F.entry_tuple_iterator_next ?_ (F.args_tuple_iterator_next_1 _)))
  show wpAny (model prog w) _ (field (.ref it) 0 >>= _) _ E s
  refine wpAny_bind (wpAny_field eo ed (x:=.ref a) rfl ?_)
  show wpAny (model prog w) _ (if (Value.ref a == Value.none)=true then _ else _) _ E s
  rw[if_neg (by show ¬ false=true;exact Bool.false_ne_true)]
  show wpAny (model prog w) _ (field (.ref it) 1 >>= _) _ E s
  refine wpAny_bind (wpAny_field eo ed (x:=.int i 0) rfl ?_)
  show wpAny (model prog w) _ (seqItems? (.ref a) >>= _) _ E s
  refine wpAny_bind (wpAny_seqItems ea da ?_)
  simp only[Int.toNat_natCast,hx]
  refine wpAny_bind (wpAny_rule (wpAny_bind (wpAny_setField eo ed (by simp) ?_)))
  show wpAny (model prog w) _ (newExc (.type "StopIteration") [] >>= _) _ E _
  refine wpAny_bind ?_
  simp only[newExc,newTuple]
  refine wpAny_bind (wpAny_newObj_type ?_ (by size_fits))
  refine wpAny_bind (m:=firstArgMember _ _) (wpAny_of_eq (a:=Value.none) (by first | rfl | (simp only[firstArgMember];rfl)) (wpAny_newObj_type ?_ (by size_fits)))
  simp only[raiseNew]
  refine wpAny_bind (wpAny_handled ?_)
  first | rw[show A.in1.handled=none from hh] | rw[hh]
  exact wpAny_bind (wpAny_pure (wpAny_throw (hE _ _ (((Heap.SameBut.update ..).extBut.push _).push _) ⟨_,Heap.get?_push_size _ rfl,rfl⟩)))
theorem z2w{k:Bool}{a:Addr}{its:Array Value}{Q:Value->Shared->Prop}(ha:HasK k s.heap a its)(hQ:Q (.ref s.heap.objs.size) {s with heap:=s.heap.push (iterObj k a)}) :
  wpAny (model prog w) A (pyIter (.ref a)) Q E s:=by
 cases k with
 | true=>exact wpAny_pyIter_list ha hQ
 | false=>exact wpAny_pyIter_tuple ha hQ
theorem z4f{k:Bool}{a it:Addr}{h:Heap}(e:h.get? it=some (iterObj k a)):IterK k h it a 0:=by
 cases k with
 | true=>exact⟨_,e,rfl,rfl⟩
 | false=>exact⟨_,e,rfl,rfl⟩
end
structure ZipRec(h:Heap)(k1 k2:Bool)(z TI TO i1 i2 a b:Addr)(n:Nat)(f0:Value):Prop where
 zr:IsZip h z TI TO f0
 pi:IsPair h TI (.ref i1) (.ref i2)
 po:∃ u v,IsPair h TO u v
 it1:IterK k1 h i1 a n
 it2:IterK k2 h i2 b n
structure ZipFar(z TI TO i1 i2:Addr):Prop where
 d1:TI≠z
 d2:TO≠z
 d3:i1≠z
 d4:i2≠z
 d5:TI≠TO
 d6:TI≠i1
 d7:TI≠i2
 d8:TO≠i1
 d9:TO≠i2
 d10:i1≠i2
section
variable {prog:Program} {w:World} {A:Around} {E:Value->Shared->Prop} {s:Shared} {k1 k2:Bool} {z TI TO i1 i2 a b:Addr} {n:Nat} {xs ys:Array Value}
theorem zai{x y:Value}{Q:Value->Shared->Prop}(D:ZipFar z TI TO i1 i2)(Z:ZipRec s.heap k1 k2 z TI TO i1 i2 a b n .none)(ha:HasK k1 s.heap a xs)(hb:HasK k2 s.heap b ys)
  (fa:a≠z/\a≠TO/\a≠i1/\a≠i2) (fb:b≠z/\b≠TO/\b≠i1/\b≠i2) (hx:xs[n]?=some x) (hy:ys[n]?=some y)
  (hQ:∀ h',ZipRec h' k1 k2 z TI TO i1 i2 a b (n + 1) (rawInt s.heap.objs.size)->IsPair h' s.heap.objs.size x y->h'.objs.size=s.heap.objs.size + 1 ->
   (∀ c o,c≠z->c≠TO->c≠i1->c≠i2->s.heap.get? c=some o->h'.get? c=some o)->Q (.ref s.heap.objs.size) {s with heap:=h'}) :
  wpAny (model prog w) A (Builtin.«zip.__next__» ⟨[.ref z],[]⟩) (fun fin s'=>∃ v,fin=.done (.ret v)/\Q v s') E s:=by
 obtain⟨zr,zi,⟨u,v,zo⟩,z1,z2⟩:=Z
 show wpAny (model prog w) A (field (.ref z) 2 >>= _) _ E s
 refine wpAny_bind (wpAny_field zr rfl (x:=.bool false) rfl ?_)
 show wpAny (model prog w) A (field (.ref z) 3 >>= _) _ E s
 refine wpAny_bind (wpAny_field zr rfl (x:=.ref TI) rfl (wpAny_bind (wpAny_seqItems zi rfl ?_)))
 show wpAny (model prog w) A (Builtin.SmallTypes.ownedTupleIsFree (.ref z) >>= _) _ E s
 refine wpAny_bind ?_
 unfold Builtin.SmallTypes.ownedTupleIsFree
 refine wpAny_bind (wpAny_field zr rfl (x:=.none) rfl (wpAny_pure ?_))
 simp only[if_true]
 refine wpAny_bind (wpAny_rule (wpAny_bind (wpAny_field zr rfl (x:=.ref TO) rfl (wpAny_bind (wpAny_setField_rec zr (by simp) fun g1 r1 e1=>?_)))))
 have r1':IsZip g1 z TI TO .ellipsis:=r1
 clear r1
 simp only[List.zipIdx_cons,List.zipIdx_nil,List.forIn_cons,List.forIn_nil]
 have kp1:∀ c o,c≠z->s.heap.get? c=some o->g1.get? c=some o:=fun c o q e=>e1.extBut c o q e
 refine wpAny_bind (wpAny_bind (wpAny_bind (wpAny_onRaise ?_)))
 show wpAny (model prog w) A (Builtin.SmallTypes.nextOf (.ref i1) >>= _) _ _ {s with heap:=g1}
 refine wpAny_bind (z1r (s:={s with heap:=g1}) (z1.at fun o e=>kp1 _ o D.d3 e) (ha.at fun o e=>kp1 _ o fa.1 e) hx fun g2 j1 e2=>wpAny_pure ?_)
 have kp2:∀ c o,c≠i1->g1.get? c=some o->g2.get? c=some o:=fun c o q e=>e2.extBut c o q e
 have o2:IsPair g2 TO u v:=kp2 _ _ D.d8 (kp1 _ _ D.d2 zo)
 refine wpAny_bind (wpAny_seqItems o2 rfl (wpAny_bind (wpAny_updateSeq_pair o2 fun g3 o3 e3=>wpAny_bind (wpAny_letGo (wpAny_pure ?_)))))
 have o3':IsPair g3 TO x v:=o3
 clear o3
 have kp3:∀ c o,c≠TO->g2.get? c=some o->g3.get? c=some o:=fun c o q e=>e3.extBut c o q e
 refine wpAny_bind (wpAny_bind (wpAny_onRaise ?_))
 show wpAny (model prog w) A (Builtin.SmallTypes.nextOf (.ref i2) >>= _) _ _ {s with heap:=g3}
 refine wpAny_bind (z1r (s:={s with heap:=g3}) (z2.at fun o e=>kp3 _ o D.d9.symm (kp2 _ o D.d10.symm (kp1 _ o D.d4 e))) (hb.at fun o e=>kp3 _ o fb.2.1 (kp2 _ o fb.2.2.1 (kp1 _ o fb.1 e))) hy fun g4 j2 e4=>wpAny_pure ?_)
 have kp4:∀ c o,c≠i2->g3.get? c=some o->g4.get? c=some o:=fun c o q e=>e4.extBut c o q e
 have o4:IsPair g4 TO x v:=kp4 _ _ D.d9 o3'
 refine wpAny_bind (wpAny_seqItems o4 rfl (wpAny_bind (wpAny_updateSeq_pair o4 fun g5 o5 e5=>wpAny_bind (wpAny_letGo (wpAny_pure (wpAny_pure ?_))))))
 have o5':IsPair g5 TO x y:=o5
 clear o5
 have kp5:∀ c o,c≠TO->g4.get? c=some o->g5.get? c=some o:=fun c o q e=>e5.extBut c o q e
 refine wpAny_bind (wpAny_seqItems o5' rfl (wpAny_bind (wpAny_newTuple ?_)))
 have sz5:g5.objs.size=s.heap.objs.size:=by rw[e5.1,e4.1,e3.1,e2.1,e1.1]
 have z5:IsZip g5 z TI TO .ellipsis:=kp5 _ _ D.d2.symm (kp4 _ _ D.d4.symm (kp3 _ _ D.d2.symm (kp2 _ _ D.d3.symm r1')))
 have all5:∀ c o,c≠z->c≠TO->c≠i1->c≠i2->s.heap.get? c=some o->g5.get? c=some o:=fun c o q1 q2 q3 q4 e=>kp5 _ _ q2 (kp4 _ _ q4 (kp3 _ _ q2 (kp2 _ _ q3 (kp1 _ _ q1 e))))
 have j1':IterK k1 g5 i1 a (n + 1):=j1.at fun o e=>kp5 _ _ D.d8.symm (kp4 _ _ D.d10 (kp3 _ _ D.d8.symm e))
 have j2':IterK k2 g5 i2 b (n + 1):=j2.at fun o e=>kp5 _ _ D.d9.symm e
 have zl:z < g5.objs.size:=Heap.lt_size z5
 refine wpAny_bind ?_
 unfold Builtin.SmallTypes.ownedTupleHandOut
 have z6:IsZip (g5.push {cls:=.type "tuple",data:=.seq #[x,y]}) z TI TO .ellipsis:=Heap.get?_push_of_some _ z5
 refine wpAny_bind (wpAny_setField_rec z6 (by simp) fun g7 r7 e7=>?_)
 have r7':IsZip g7 z TI TO (rawInt g5.objs.size):=r7
 refine wpAny_setField_rec r7' (by simp) fun g8 r8 e8=>?_
 have r8':IsZip g8 z TI TO (rawInt g5.objs.size):=r8
 have kp8:∀ c o,c≠z->g5.get? c=some o->g8.get? c=some o:=fun c o q e=>e8.extBut _ _ q (e7.extBut _ _ q (Heap.get?_push_of_some _ e))
 have t8:IsPair g8 g5.objs.size x y:=e8.extBut _ _ (Nat.ne_of_gt zl) (e7.extBut _ _ (Nat.ne_of_gt zl) (Heap.get?_push_size _ rfl))
 have sz8:g8.objs.size=g5.objs.size + 1:=by rw[e8.1,e7.1,Heap.size_push]
 rw[sz5]at r8' t8 sz8
 refine wpAny_pure ⟨_,rfl,?_⟩
 show Q (.ref g5.objs.size) _
 rw[sz5]
 exact hQ g8 ⟨r8',kp8 _ _ D.d1 (all5 _ _ D.d1 D.d5 D.d6 D.d7 zi),⟨_,_,kp8 _ _ D.d2 o5'⟩,j1'.at fun o e=>kp8 _ o D.d3 e,j2'.at fun o e=>kp8 _ o D.d4 e⟩ t8 sz8 fun c o q1 q2 q3 q4 e=>kp8 c o q1 (all5 c o q1 q2 q3 q4 e)
theorem zbE{Q:Fin->Shared->Prop}(hh:A.handled=none)(D:ZipFar z TI TO i1 i2)(Z:ZipRec s.heap k1 k2 z TI TO i1 i2 a b n .none)(ha:HasK k1 s.heap a xs)(hb:HasK k2 s.heap b ys)
  (fa:a≠z/\a≠TO/\a≠i1/\a≠i2) (fb:b≠z/\b≠TO/\b≠i1/\b≠i2) (hend:xs[n]?=none\/ys[n]?=none)
  (hE:∀ h' e,(∀ c o,c≠z->c≠TO->c≠i1->c≠i2->s.heap.get? c=some o->h'.get? c=some o)->(∃ o,h'.get? e=some o/\o.cls=.type "StopIteration")->E (.ref e) {s with heap:=h'}) :
  wpAny (model prog w) A (Builtin.«zip.__next__» ⟨[.ref z],[]⟩) Q E s:=by
 obtain⟨zr,zi,⟨u,v,zo⟩,z1,z2⟩:=Z
 show wpAny (model prog w) A (field (.ref z) 2 >>= _) _ E s
 refine wpAny_bind (wpAny_field zr rfl (x:=.bool false) rfl ?_)
 show wpAny (model prog w) A (field (.ref z) 3 >>= _) _ E s
 refine wpAny_bind (wpAny_field zr rfl (x:=.ref TI) rfl (wpAny_bind (wpAny_seqItems zi rfl ?_)))
 show wpAny (model prog w) A (Builtin.SmallTypes.ownedTupleIsFree (.ref z) >>= _) _ E s
 refine wpAny_bind ?_
 unfold Builtin.SmallTypes.ownedTupleIsFree
 refine wpAny_bind (wpAny_field zr rfl (x:=.none) rfl (wpAny_pure ?_))
 simp only[if_true]
 refine wpAny_bind (wpAny_rule (wpAny_bind (wpAny_field zr rfl (x:=.ref TO) rfl (wpAny_bind (wpAny_setField_rec zr (by simp) fun g1 r1 e1=>?_)))))
 have r1':IsZip g1 z TI TO .ellipsis:=r1
 clear r1
 simp only[List.zipIdx_cons,List.zipIdx_nil,List.forIn_cons,List.forIn_nil]
 have kp1:∀ c o,c≠z->s.heap.get? c=some o->g1.get? c=some o:=fun c o q e=>e1.extBut c o q e
 refine wpAny_bind (wpAny_bind (wpAny_bind (wpAny_onRaise ?_)))
 show wpAny (model prog w) A (Builtin.SmallTypes.nextOf (.ref i1) >>= _) _ _ {s with heap:=g1}
 cases hx:xs[n]? with
 | none =>
  refine wpAny_bind (z2v (s:={s with heap:=g1}) hh (z1.at fun o e=>kp1 _ o D.d3 e) (ha.at fun o e=>kp1 _ o fa.1 e) hx fun g2 e e2 he=>?_)
  obtain⟨oe,eo,ec⟩:=he
  have z2':IsZip g2 z TI TO .ellipsis:=e2 _ _ D.d3.symm r1'
  have ez:e≠z:=fun q=>by subst q;rw[z2']at eo;cases eo;simp at ec
  exact wpAny_setField_rec z2' (by simp) fun g3 _ e3=>hE g3 e (fun c o q1 _ q3 _ q=>e3.extBut _ _ q1 (e2 _ _ q3 (kp1 _ _ q1 q))) ⟨oe,e3.extBut _ _ ez eo,ec⟩
 | some x =>
  have hy:ys[n]?=none:=hend.resolve_left fun q=>by rw[hx]at q;cases q
  refine wpAny_bind (z1r (s:={s with heap:=g1}) (z1.at fun o e=>kp1 _ o D.d3 e) (ha.at fun o e=>kp1 _ o fa.1 e) hx fun g2 j1 e2=>wpAny_pure ?_)
  have kp2:∀ c o,c≠i1->g1.get? c=some o->g2.get? c=some o:=fun c o q e=>e2.extBut c o q e
  have o2:IsPair g2 TO u v:=kp2 _ _ D.d8 (kp1 _ _ D.d2 zo)
  refine wpAny_bind (wpAny_seqItems o2 rfl (wpAny_bind (wpAny_updateSeq_pair o2 fun g3 o3 e3=>wpAny_bind (wpAny_letGo (wpAny_pure ?_)))))
  have kp3:∀ c o,c≠TO->g2.get? c=some o->g3.get? c=some o:=fun c o q e=>e3.extBut c o q e
  refine wpAny_bind (wpAny_bind (wpAny_onRaise ?_))
  show wpAny (model prog w) A (Builtin.SmallTypes.nextOf (.ref i2) >>= _) _ _ {s with heap:=g3}
  refine wpAny_bind (z2v (s:={s with heap:=g3}) hh (z2.at fun o e=>kp3 _ o D.d9.symm (kp2 _ o D.d10.symm (kp1 _ o D.d4 e))) (hb.at fun o e=>kp3 _ o fb.2.1 (kp2 _ o fb.2.2.1 (kp1 _ o fb.1 e))) hy fun g4 e e4 he=>?_)
  obtain⟨oe,eo,ec⟩:=he
  have z4:IsZip g4 z TI TO .ellipsis:=e4 _ _ D.d4.symm (kp3 _ _ D.d2.symm (kp2 _ _ D.d3.symm r1'))
  have ez:e≠z:=fun q=>by subst q;rw[z4]at eo;cases eo;simp at ec
  exact wpAny_setField_rec z4 (by simp) fun g5 _ e5=>hE g5 e (fun c o q1 q2 q3 q4 q=>e5.extBut _ _ q1 (e4 _ _ q4 (kp3 _ _ q2 (kp2 _ _ q3 (kp1 _ _ q1 q))))) ⟨oe,e5.extBut _ _ ez eo,ec⟩
end
section
variable {prog:Program} {w:World} {A:Around} {E:Value->Shared->Prop} {s:Shared} {k1 k2:Bool} {z TI TO i1 i2 a b:Addr} {n:Nat} {xs ys:Array Value}
theorem z4x{x y:Value}{Q:Option Value->Shared->Prop}(D:ZipFar z TI TO i1 i2)(Z:ZipRec s.heap k1 k2 z TI TO i1 i2 a b n .none)(ha:HasK k1 s.heap a xs)(hb:HasK k2 s.heap b ys)
  (fa:a≠z/\a≠TO/\a≠i1/\a≠i2) (fb:b≠z/\b≠TO/\b≠i1/\b≠i2) (hx:xs[n]?=some x) (hy:ys[n]?=some y)
  (hQ:∀ h',ZipRec h' k1 k2 z TI TO i1 i2 a b (n + 1) (rawInt s.heap.objs.size)->IsPair h' s.heap.objs.size x y->h'.objs.size=s.heap.objs.size + 1 ->
   (∀ c o,c≠z->c≠TO->c≠i1->c≠i2->s.heap.get? c=some o->h'.get? c=some o)->Q (some (.ref s.heap.objs.size)) {s with heap:=h'}) :
  wpAny (model prog w) A (pyNext (.ref z)) Q E s:=by
 have ty:s.TypeIs (.ref z) "zip":=⟨_,Z.zr,rfl⟩
 unfold pyNext
 refine wpAny_bind (wpAny_attempt (wpAny_callSpecial?_slot (name:=Str.ofString "__next__") ty F.slot_zip_next (wpAny_call_entry F.slot_zip_next ty F.entry_zip_next ?_ (F.args_zip_next_1 _))))
 exact zai D Z ha hb fa fb hx hy fun h' q1 q2 q3 q4=>wpAny_pure (hQ h' q1 q2 q3 q4)
theorem z5b{Q:Option Value->Shared->Prop}(hh:A.handled=none)(D:ZipFar z TI TO i1 i2)(Z:ZipRec s.heap k1 k2 z TI TO i1 i2 a b n .none)(ha:HasK k1 s.heap a xs)(hb:HasK k2 s.heap b ys)
  (fa:a≠z/\a≠TO/\a≠i1/\a≠i2) (fb:b≠z/\b≠TO/\b≠i1/\b≠i2) (hend:xs[n]?=none\/ys[n]?=none)
  (hQ:∀ h',(∀ c o,c≠z->c≠TO->c≠i1->c≠i2->s.heap.get? c=some o->h'.get? c=some o)->Q none {s with heap:=h'}):wpAny (model prog w) A (pyNext (.ref z)) Q E s:=by
 have ty:s.TypeIs (.ref z) "zip":=⟨_,Z.zr,rfl⟩
 unfold pyNext
 refine wpAny_bind (wpAny_attempt (wpAny_callSpecial?_slot (name:=Str.ofString "__next__") ty F.slot_zip_next (wpAny_call_entry F.slot_zip_next ty F.entry_zip_next ?_ (F.args_zip_next_1 _))))
 refine zbE hh D Z ha hb fa fb hend fun h' e kp he=>?_
 obtain⟨o,ho,hc⟩:=he
 exact wpAny_bind (wpAny_isInstance (T:="StopIteration") (b:=true) ⟨o,ho,hc⟩ isSubtype_stop (wpAny_pure (hQ _ kp)))
abbrev zG1(h:Heap)(k1:Bool)(a:Addr):Heap:=h.push (iterObj k1 a)
abbrev zG2(h:Heap)(k1 k2:Bool)(a b:Addr):Heap:=(zG1 h k1 a).push (iterObj k2 b)
abbrev zG3(h:Heap)(k1 k2:Bool)(a b:Addr):Heap:=(zG2 h k1 k2 a b).push {cls:=.type "tuple",data:=.seq #[.ref h.objs.size,.ref (zG1 h k1 a).objs.size]}
abbrev zG4(h:Heap)(k1 k2:Bool)(a b:Addr):Heap:=(zG3 h k1 k2 a b).push {cls:=.type "tuple",data:=.seq #[.none,.none]}
abbrev zG5(h:Heap)(k1 k2:Bool)(a b:Addr):Heap:=(zG4 h k1 k2 a b).push {cls:=.type "zip",data:=.fields #[.none,.bool false,.bool false,.ref (zG2 h k1 k2 a b).objs.size,.ref (zG3 h k1 k2 a b).objs.size]}
theorem z9d(k1 k2:Bool)(a b:Addr)(xs ys:Array Value):Meets (Builtin.«zip.__new__» ⟨[.type "zip",.ref a,.ref b],[]⟩) (fun _ R s=>HasK k1 s.heap a xs/\HasK k2 s.heap b ys /\
   R (.ok (.ret (.ref (zG4 s.heap k1 k2 a b).objs.size))) {s with heap:=zG5 s.heap k1 k2 a b}) :=
 .of_wp fun prog w A R s h=>by
  obtain⟨hp,g,d,tk,os⟩:=s
  obtain⟨p1,p2,h⟩:=h
  have hsub:=sub_zip
  have q1:HasK k1 (Shared.heap ⟨hp,g,d,tk,os⟩) a xs:=p1
  have q2:HasK k2 (Shared.heap ⟨hp.push (iterObj k1 a),g,d,tk,os⟩) b ys:=p2.at fun o e=>Heap.get?_push_of_some _ e
  wp_walk using z2w q1,z2w q2
  exact⟨_,rfl,h⟩
theorem z72{Q:Value->Shared->Prop}(ha:HasK k1 s.heap a xs)(hb:HasK k2 s.heap b ys)
  (h:∀ h',ZipRec h' k1 k2 (s.heap.objs.size + 4) (s.heap.objs.size + 2) (s.heap.objs.size + 3) s.heap.objs.size (s.heap.objs.size + 1) a b 0 .none->(∀ c o,s.heap.get? c=some o->h'.get? c=some o)->Q (.ref (s.heap.objs.size + 4)) {s with heap:=h'}) :
  wpAny (model prog w) A (call (.type "zip") [.ref a,.ref b]) Q E s:=by
 refine callType_new F.called_zip (by decide) (F.typeCall_zip_2 _ _) (F.newCall_zip_2 _ _) (fun obj=>F.args_object_init_3 obj _ _) F.entry_zip_new (z9d k1 k2 a b xs ys) ⟨ha,hb,?_⟩
 have n1:(zG1 s.heap k1 a).objs.size=s.heap.objs.size + 1:=Heap.size_push ..
 have n2:(zG2 s.heap k1 k2 a b).objs.size=s.heap.objs.size + 2:=by rw[Heap.size_push,n1]
 have n3:(zG3 s.heap k1 k2 a b).objs.size=s.heap.objs.size + 3:=by rw[Heap.size_push,n2]
 have n4:(zG4 s.heap k1 k2 a b).objs.size=s.heap.objs.size + 4:=by rw[Heap.size_push,n3]
 have up:∀ {g:Heap} {o:Obj} {c:Addr} {u:Obj},g.get? c=some u->(g.push o).get? c=some u:=fun e=>Heap.get?_push_of_some _ e
 have g5:(zG5 s.heap k1 k2 a b).get? (zG4 s.heap k1 k2 a b).objs.size=some _:=Heap.get?_push_size _ rfl
 have g4:(zG5 s.heap k1 k2 a b).get? (zG3 s.heap k1 k2 a b).objs.size=some _:=up (Heap.get?_push_size _ rfl)
 have g3:(zG5 s.heap k1 k2 a b).get? (zG2 s.heap k1 k2 a b).objs.size=some _:=up (up (Heap.get?_push_size _ rfl))
 have g2:(zG5 s.heap k1 k2 a b).get? (zG1 s.heap k1 a).objs.size=some (iterObj k2 b):=up (up (up (Heap.get?_push_size _ (by cases k2 <;> rfl))))
 have g1:(zG5 s.heap k1 k2 a b).get? s.heap.objs.size=some (iterObj k1 a):=up (up (up (up (Heap.get?_push_size _ (by cases k1 <;> rfl)))))
 show _/\_
 rw[n2,n3,n4]at g5
 rw[n1,n2]at g3
 rw[n3]at g4
 rw[n1]at g2
 rw[n4]
 exact⟨⟨_,g5,rfl⟩,h _ ⟨g5,g3,⟨_,_,g4⟩,z4f g1,z4f g2⟩ fun c o e=>up (up (up (up (up e))))⟩
end
def Itz(K:PySem.W.Frag)(k1 k2:Bool)(a b:Addr):It :=
  ⟨fun i H=>∃ xs ys x y,SqK k1 K H a xs/\SqK k2 K H b ys/\xs[i]?=some x/\ys[i]?=some y,
   fun i H v H'=>∃ p x y,v=.ref p/\H p=none/\H'=upd H p (.tup [x,y])/\(∀ xs,SqK k1 K H a xs->xs[i]?=some x)/\∀ ys,SqK k2 K H b ys->ys[i]?=some y,
   fun i H=>∃ xs ys,SqK k1 K H a xs/\SqK k2 K H b ys/\(xs.length<=i\/ys.length<=i)⟩
theorem zbF{P:Program}{w:World}{K:PySem.W.Frag}{elts:List Expr}{c:Nat}{pos:Pos}{k1 k2:Bool}{z TI TO i1 i2 a b:Addr}(D:ZipFar z TI TO i1 i2)(fa:a≠z/\a≠TO/\a≠i1/\a≠i2)(fb:b≠z/\b≠TO/\b≠i1/\b≠i2) :
  Turn P w K (.Tuple elts c pos) (Itz K k1 k2 a b) [z,TI,TO,i1,i2] z (fun i h=>ZipRec h k1 k2 z TI TO i1 i2 a b i .none) where
 mem:=by simp
 obj:=fun i h st q hq=>by
  obtain⟨zr,zi,⟨u,v,zo⟩,z1,z2⟩:=st
  simp only[List.mem_cons,List.not_mem_nil,or_false]at hq
  rcases hq with rfl | rfl | rfl | rfl | rfl
  ·exact⟨_,zr,fun v e=>nomatch e⟩
  ·exact⟨_,zi,fun v e=>nomatch e⟩
  ·exact⟨_,zo,fun v e=>nomatch e⟩
  ·exact z1.get
  ·exact z2.get
 keep:=fun i h h' st k=>by
  obtain⟨zr,zi,⟨u,v,zo⟩,z1,z2⟩:=st
  exact⟨k _ (by simp) _ zr,k _ (by simp) _ zi,⟨u,v,k _ (by simp) _ zo⟩,z1.at fun o e=>k _ (by simp) o e,z2.at fun o e=>k _ (by simp) o e⟩
 item:=by
  intro X hP hw hK hc i pins s σ H E I hf st hg
  subst hP hw hK
  obtain⟨xs,ys,x,y,sa,sb,hx,hy⟩:=hg
  obtain⟨ia,ra,ha,za⟩:=I.hasK sa
  obtain⟨ib,rb,hb,zb⟩:=I.hasK sb
  obtain⟨u,hu,ru⟩:=ra.get hx
  obtain⟨v,hv,rv⟩:=rb.get hy
  refine z4x D st ha hb fa fb (x:=u) (y:=v) (by simpa using hu) (by simpa using hv) fun h' Z' t' sz' kp=>?_
  refine⟨_,rfl,wpAny_letOwnedTupleGo_zip Z'.zr fun h'' z'' sb''=>?_⟩
  have lt:∀ {c o},s.heap.get? c=some o->s.heap.objs.size≠c:=fun e=>Nat.ne_of_gt (Heap.lt_size e)
  have hz:s.heap.objs.size≠z:=lt st.zr
  have kp2:∀ c o,c ∉ [z,TI,TO,i1,i2]->s.heap.get? c=some o->h''.get? c=some o:=fun c o hc e=>by
   simp only[List.mem_cons,List.not_mem_nil,or_false,not_or]at hc
   exact sb''.extBut _ _ hc.1 (kp c o hc.1 hc.2.2.1 hc.2.2.2.1 hc.2.2.2.2 e)
  have nH:H s.heap.objs.size=none:=I.hok.fresh (Nat.le_refl _)
  have frL:∀ q∈[z,TI,TO,i1,i2],H q=none:=fun q hq=>(hf q hq).1
  have neT:∀ q u,H q=some u->q≠s.heap.objs.size:=fun q u e=>zf e nH
  refine⟨.ref s.heap.objs.size,upd H s.heap.objs.size (.tup [x,y]),?_,rfl,⟨_,x,y,rfl,nH,rfl,fun xs' q=>by rw[I.sqK_inj q sa];exact hx,fun ys' q=>by rw[I.sqK_inj q sb];exact hy⟩,?_,fun q hq=>?_⟩
  ·refine Inv.step (s:=s) (h':=h'') (g':=s.gens) (d':=s.drawn) (t':=s.toks) (ch:=[z,TI,TO,i1,i2]) I (fun q hq=>?_) (fun q o _ _ hc e _=>kp2 q o hc e) (fun q o _ _ hc e _=>⟨o.slots,kp2 q o hc e⟩) (fun q o hc e n=>?_) (fun q o hc e=>⟨o,kp2 q o hc e⟩)
    (fun q xs e=>by rw[zd (neT q _ e)];exact e) (fun q o u e=>by rw[zd (neT q _ e)];exact e) (fun q ps e=>⟨#[],by rw[zd (neT q _ e),e];simp⟩) (fun m hm=>?_) (fun q o e=>?_) I.bare
   ·exact⟨(hf q hq).2.2.2.1,(hf q hq).2.1,(hf q hq).2.2.2.2.1,(hf q hq).2.2.2.2.2⟩
   ·rw[zd (fun zz=>lt e zz.symm)];exact n
   ·obtain⟨o,es,ep,ho,r⟩:=hm
    exact⟨o,es,ep,kp2 _ o (fun hq=>(hf _ hq).2.1 rfl) ho,r⟩
   ·have notin:∀ q u,H q=some u->q ∉ [z,TI,TO,i1,i2]:=fun q u e hq=>by rw[frL q hq]at e;cases e
    by_cases hq:q=s.heap.objs.size
    ·subst hq
     rw[ze]at e
     cases e
     exact⟨by show 2<=sizeLine;decide,[u,v],.cons ru (.cons rv .nil),⟨_,sb''.extBut _ _ hz t',rfl,_,rfl⟩⟩
    ·rw[zd hq]at e
     refine(I.hok q o e).stay (fun c w' hc r=>kp2 c w' ?_ r) (fun c r=>by rw[zd (neT c _ r)];exact r) fun c xs r=>by rw[zd (neT c _ r)];exact r
     rcases hc with rfl | hc
     ·exact notin _ _ e
     ·exact notin _ _ hc
  ·obtain⟨zr,zi,⟨u',v',zo⟩,z1,z2⟩:=Z'
   exact⟨z'',sb''.extBut _ _ D.d1 zi,⟨u',v',sb''.extBut _ _ D.d2 zo⟩,z1.at fun o e=>sb''.extBut _ o D.d3 e,z2.at fun o e=>sb''.extBut _ o D.d4 e⟩
  ·rw[zd]
   ·exact frL q hq
   ·obtain⟨zr,zi,⟨u',v',zo⟩,z1,z2⟩:=st
    simp only[List.mem_cons,List.not_mem_nil,or_false]at hq
    rcases hq with rfl | rfl | rfl | rfl | rfl
    ·exact fun zz=>lt zr zz.symm
    ·exact fun zz=>lt zi zz.symm
    ·exact fun zz=>lt zo zz.symm
    ·obtain⟨o,e,_⟩:=z1.get;exact fun zz=>lt e zz.symm
    ·obtain⟨o,e,_⟩:=z2.get;exact fun zz=>lt e zz.symm
 done:=by
  intro X hP hw hK hc i pins s σ H E I hf st hg
  subst hP hw hK
  obtain⟨xs,ys,sa,sb,hx⟩:=hg
  obtain⟨ia,ra,ha,za⟩:=I.hasK sa
  obtain⟨ib,rb,hb,zb⟩:=I.hasK sb
  have la:=ra.length
  have lb:=rb.length
  refine z5b (I.ok.hd hc) D st ha hb fa fb (hx.imp (fun q=>by simp;omega) fun q=>by simp;omega) fun h' kp=>⟨rfl,?_⟩
  have kp2:∀ c o,c ∉ [z,TI,TO,i1,i2]->s.heap.get? c=some o->h'.get? c=some o:=fun c o hc e=>by
   simp only[List.mem_cons,List.not_mem_nil,or_false,not_or]at hc
   exact kp c o hc.1 hc.2.2.1 hc.2.2.2.1 hc.2.2.2.2 e
  have notin:∀ q u,H q=some u->q ∉ [z,TI,TO,i1,i2]:=fun q u e hq=>by rw[(hf q hq).1]at e;cases e
  refine Inv.step (s:=s) (h':=h') (g':=s.gens) (d':=s.drawn) (t':=s.toks) (ch:=[z,TI,TO,i1,i2]) I (fun q hq=>?_) (fun q o _ _ hc e _=>kp2 q o hc e) (fun q o _ _ hc e _=>⟨o.slots,kp2 q o hc e⟩) (fun _ _ _ _ n=>n)
   (fun q o hq e=>?_) (fun _ _ e=>e) (fun _ _ _ e=>e) (fun q ps e=>⟨#[],by rw[e];simp⟩) (fun m hm=>?_) (fun q o e=>?_) I.bare
  ·exact⟨(hf q hq).2.2.2.1,(hf q hq).2.1,(hf q hq).2.2.2.2.1,(hf q hq).2.2.2.2.2⟩
  ·exact⟨o,kp2 q o hq e⟩
  ·obtain⟨o,es,ep,ho,r⟩:=hm
   exact⟨o,es,ep,kp2 _ o (fun hq=>(hf _ hq).2.1 rfl) ho,r⟩
  ·refine(I.hok q o e).stay (fun c w' hc r=>kp2 c w' ?_ r) (fun _ r=>r) fun _ _ r=>r
   rcases hc with rfl | hc
   ·exact notin _ _ e
   ·exact notin _ _ hc
 self:=fun _ _ _ _ _ st h=>wpAny_pyIter_zip st.zr h
def iZip(K:PySem.W.Frag)(ta:TA):TI:=fun σ H R=>ta σ H fun vs H1=>∃ k1 k2 a b xs ys,vs=[.ref a,.ref b]/\SqK k1 K H1 a xs/\SqK k2 K H1 b ys/\R (Itz K k1 k2 a b) H1
theorem zev{X:Cx}{elts:List Expr}{c:Nat}{tp:Pos}{a b:Expr}{ta:TA}{p pos:Pos}(hg:Gl X "zip")(hm:X.mg "zip"=none)(ha:PA X [a,b] ta)(hs:starEach [a,b] X.env=[(false,eval a X.env),(false,eval b X.env)]:=by rfl)
  (hs2:starEach [b] X.env=[(false,eval b X.env)]:=by rfl):PI X (.Tuple elts c tp) (.Call (.Name "zip" p) [a,b] [] pos) (iZip X.K ta):=by
 intro pins s σ H R I h
 refine Call_ (z3S I hg hm (u:=.type "zip") rfl (PyProof.Rows.callWith_type1 (thn (ha pos pins s σ H _ I h) fun us s1 zhI=>?_) (by rw[hs,hs2]) (by rw[hs2];rfl)))
 obtain⟨vs,H1,I1,r1,q1⟩:=zhI
 obtain⟨k1,k2,a,b,xs,ys,e,sa,sb,q⟩:=q1
 subst e
 obtain⟨u,v,rfl,ru,rv⟩:=vals2 r1
 cases (show u=Value.ref a from ru)
 cases (show v=Value.ref b from rv)
 obtain⟨ia,ra,ha',za⟩:=I1.hasK sa
 obtain⟨ib,rb,hb',zb⟩:=I1.hasK sb
 refine z72 ha' hb' fun h' Z kp=>?_
 refine wpAny_pyIter_zip Z.zr ?_
 have la:LT.lt (α:=Nat) a s1.heap.objs.size:=ha'.lt
 have lb:LT.lt (α:=Nat) b s1.heap.objs.size:=hb'.lt
 generalize hn:s1.heap.objs.size=n at *
 refine⟨n + 4,[n + 4,n + 2,n + 3,n,n + 1],fun i h=>ZipRec h k1 k2 (n + 4) (n + 2) (n + 3) n (n + 1) a b i .none,Itz X.K k1 k2 a b,H1,rfl,I1.kept (t':=s1.toks) kp,zbF ?_ ?_ ?_,Z,fun q hq=>?_,q⟩
 ·constructor <;> (intro e;have e':(_:Nat)=_:=e;omega)
 ·refine⟨?_,?_,?_,?_⟩ <;> (intro e;have e':(_:Nat)=_:=e;omega)
 ·refine⟨?_,?_,?_,?_⟩ <;> (intro e;have e':(_:Nat)=_:=e;omega)
 ·have hq':s1.heap.objs.size<=q:=by
   rw[hn]
   simp only[List.mem_cons,List.not_mem_nil,or_false]at hq
   rcases hq with rfl | rfl | rfl | rfl | rfl <;> first | exact Nat.le_refl _ | exact Nat.le_add_right _ _
  exact I1.fpOk hq' (I1.hok.fresh hq')
end L2
namespace L2
open PySem PySem.Spec PyProof.Rows
section
variable {prog:Program} {w:World} {A:Around} {E:Value->Shared->Prop} {s:Shared}
theorem drawsK{k:Bool}(hh:A.handled=none){it a:Addr}(hne:a≠it)(its:Array Value) :
  Draws prog w A it [it,a] its.size (fun i x=>its[i]?=some x) (fun i h=>IterK k h it a i/\HasK k h a its) where
 live:=fun i h st=>by obtain⟨o,e,_⟩:=st.1.get;exact⟨o,e⟩
 frame:=fun i h h' st hk=>⟨st.1.at fun o e=>hk it (by simp) o e,st.2.at fun o e=>hk a (by simp) o e⟩
 item:=fun i s Q E hi st hQ=>by
  have hx:its[i]?=some its[i]:=Array.getElem?_eq_getElem hi
  exact z1r st.1 st.2 hx fun h' q1 q2=>hQ _ h' s.toks hx ⟨q1,st.2.at fun o e=>q2.extBut _ _ hne e⟩ q2
 done:=fun s Q E st hE=>z2v hh st.1 st.2 (by simp) hE
theorem drawsEnd{k:Bool}(hh:A.handled=none){it a:Addr}(its:Array Value){i:Nat}(hi:its[i]?=none) :
  Draws prog w A it [it,a] i (fun _ _=>True) (fun j h=>j=i/\IterK k h it a i/\HasK k h a its) where
 live:=fun _ h st=>by obtain⟨o,e,_⟩:=st.2.1.get;exact⟨o,e⟩
 frame:=fun _ h h' st hk=>⟨st.1,st.2.1.at fun o e=>hk it (by simp) o e,st.2.2.at fun o e=>hk a (by simp) o e⟩
 item:=fun j s Q E hj st _=>absurd hj (by rw[st.1];exact Nat.lt_irrefl i)
 done:=fun s Q E st hE=>z2v hh st.2.1 st.2.2 hi hE
abbrev eG1(h:Heap)(k:Bool)(a:Addr):Heap:=h.push (iterObj k a)
abbrev eG2(h:Heap)(k:Bool)(a:Addr):Heap:=(eG1 h k a).push {cls:=.type "enumerate",data:=.fields #[.none,.bool false,.ref h.objs.size,rawInt 0,.none,.none]}
theorem z7N(k:Bool)(a:Addr)(xs:Array Value):Meets (Builtin.«enumerate.__new__» ⟨[.type "enumerate",.ref a],[]⟩) (fun _ R s=>HasK k s.heap a xs/\R (.ok (.ret (.ref (eG1 s.heap k a).objs.size))) {s with heap:=eG2 s.heap k a}) :=
 .of_wp fun prog w A R s h=>by
  obtain⟨hp,g,d,tk,os⟩:=s
  obtain⟨p1,h⟩:=h
  have hsub:=sub_enumerate
  have q1:HasK k (Shared.heap ⟨hp,g,d,tk,os⟩) a xs:=p1
  wp_walk using z2w q1
  all_goals first | exact⟨_,rfl,h⟩ | skip
  refine wpAny_stack_any fun st=>wpAny_pure ?_
  split
  ·rename_i c _ _ _ _ _
   cases (c == Value.type "enumerate")
   ·wp_walk using z2w q1
    exact⟨_,rfl,h⟩
   ·wp_walk using z2w q1
    exact⟨_,rfl,h⟩
  ·wp_walk using z2w q1
   exact⟨_,rfl,h⟩
theorem z9e{k:Bool}{a:Addr}{xs:Array Value}{Q:Value->Shared->Prop}(ha:HasK k s.heap a xs)
  (h:∀ h',IsEnum h' (s.heap.objs.size + 1) s.heap.objs.size 0 .none->IterK k h' s.heap.objs.size a 0->(∀ c o,s.heap.get? c=some o->h'.get? c=some o)->Q (.ref (s.heap.objs.size + 1)) {s with heap:=h'}) :
  wpAny (model prog w) A (call (.type "enumerate") [.ref a]) Q E s:=by
 refine callType_new F.called_enumerate (by decide) (F.typeCall_enumerate_1 _) (F.newCall_enumerate_1 _) (fun ob=>F.args_object_init_2 ob _) F.entry_enumerate_new (z7N k a xs) ⟨ha,?_⟩
 have n1:(eG1 s.heap k a).objs.size=s.heap.objs.size + 1:=Heap.size_push ..
 have up:∀ {g:Heap} {o:Obj} {c:Addr} {u:Obj},g.get? c=some u->(g.push o).get? c=some u:=fun e=>Heap.get?_push_of_some _ e
 have g2:(eG2 s.heap k a).get? (eG1 s.heap k a).objs.size=some _:=Heap.get?_push_size _ rfl
 have g1:(eG2 s.heap k a).get? s.heap.objs.size=some (iterObj k a):=up (Heap.get?_push_size _ (by cases k <;> rfl))
 show _/\_
 rw[n1]at g2 ⊢
 exact⟨⟨_,g2,rfl⟩,h _ g2 (z4f g1) fun c o e=>up (up e)⟩
end
def Itn(K:PySem.W.Frag)(k:Bool)(a:Addr):It :=
  ⟨fun i H=>∃ xs x,SqK k K H a xs/\xs[i]?=some x,
   fun i H v H'=>∃ p x,v=.ref p/\H p=none/\H'=upd H p (.tup [.int (i:Int),x])/\∀ xs,SqK k K H a xs->xs[i]?=some x,
   fun i H=>∃ xs,SqK k K H a xs/\xs.length<=i⟩
structure EnRec(h:Heap)(k:Bool)(e it a:Addr)(i:Nat):Prop where
 er:∃ old,IsEnum h e it i old
 ir:IterK k h it a i
theorem zaj{P:Program}{w:World}{K:PySem.W.Frag}{elts:List Expr}{c:Nat}{pos:Pos}{k:Bool}{e it a:Addr}(hei:e≠it)(fa:a≠e/\a≠it) :
  Turn P w K (.Tuple elts c pos) (Itn K k a) [e,it] e (fun i h=>EnRec h k e it a i) where
 mem:=by simp
 obj:=fun i h st q hq=>by
  obtain⟨⟨old,er⟩,ir⟩:=st
  simp only[List.mem_cons,List.not_mem_nil,or_false]at hq
  rcases hq with rfl | rfl
  ·exact⟨_,er,fun v z=>nomatch z⟩
  ·exact ir.get
 keep:=fun i h h' st kp=>by
  obtain⟨⟨old,er⟩,ir⟩:=st
  exact⟨⟨old,kp _ (by simp) _ er⟩,ir.at fun o z=>kp _ (by simp) o z⟩
 item:=by
  intro X hP hw hK hc i pins s σ H E I hf st hg
  subst hP hw hK
  obtain⟨xs,x,sa,hx⟩:=hg
  obtain⟨ia,ra,ha,za⟩:=I.hasK sa
  obtain⟨u,hu,ru⟩:=ra.get hx
  obtain⟨⟨old,er⟩,ir⟩:=st
  have hil:i < ia.toArray.size:=by rw[List.size_toArray];exact(List.getElem?_eq_some_iff.mp hu).1
  refine wpAny_pyNext_enum_itemD (drawsK (A:=X.A.in1) (k:=k) (show X.A.in1.handled=none from I.ok.hd hc) fa.2 ia.toArray) er ⟨ir,ha⟩ hil hei (by simp only[List.mem_cons,List.not_mem_nil,or_false,not_or];exact⟨hei,Ne.symm fa.1⟩) fun y h' tk hy eo st' ht sz kp=>?_
  have hyu:y=u:=by
   have:ia[i]?=some y:=by simpa using hy
   rw[hu]at this;exact(Option.some.inj this).symm
  subst hyu
  refine⟨_,rfl,wpAny_letOwnedTupleGo_enum eo fun h'' e'' sb''=>?_⟩
  have lt:∀ {c o},s.heap.get? c=some o->s.heap.objs.size≠c:=fun z=>Nat.ne_of_gt (Heap.lt_size z)
  have hz:s.heap.objs.size≠e:=lt er
  have kp2:∀ c o,c ∉ [e,it]->s.heap.get? c=some o->h''.get? c=some o:=fun c o hc z=>by
   simp only[List.mem_cons,List.not_mem_nil,or_false,not_or]at hc
   exact sb''.extBut _ _ hc.1 (kp c o hc.1 hc.2 z)
  have nH:H s.heap.objs.size=none:=I.hok.fresh (Nat.le_refl _)
  have frL:∀ q∈[e,it],H q=none:=fun q hq=>(hf q hq).1
  have neT:∀ q u,H q=some u->q≠s.heap.objs.size:=fun q u z=>zf z nH
  refine⟨.ref s.heap.objs.size,upd H s.heap.objs.size (.tup [.int (i:Int),x]),?_,rfl,⟨_,x,rfl,nH,rfl,fun xs' q=>by rw[I.sqK_inj q sa];exact hx⟩,?_,fun q hq=>?_⟩
  ·refine Inv.step (s:=s) (h':=h'') (g':=s.gens) (d':=s.drawn) (t':=tk + 1) (ch:=[e,it]) I (fun q hq=>?_) (fun q o _ _ hc z _=>kp2 q o hc z) (fun q o _ _ hc z _=>⟨o.slots,kp2 q o hc z⟩) (fun q o hc z n=>?_) (fun q o hc z=>⟨o,kp2 q o hc z⟩)
    (fun q xs z=>by rw[zd (neT q _ z)];exact z) (fun q o u z=>by rw[zd (neT q _ z)];exact z) (fun q ps z=>⟨#[],by rw[zd (neT q _ z),z];simp⟩) (fun m hm=>?_) (fun q o z=>?_) I.bare
   ·exact⟨(hf q hq).2.2.2.1,(hf q hq).2.1,(hf q hq).2.2.2.2.1,(hf q hq).2.2.2.2.2⟩
   ·rw[zd (fun zz=>lt z zz.symm)];exact n
   ·obtain⟨o,es,ep,ho,r⟩:=hm
    exact⟨o,es,ep,kp2 _ o (fun hq=>(hf _ hq).2.1 rfl) ho,r⟩
   ·have notin:∀ q u,H q=some u->q ∉ [e,it]:=fun q u z hq=>by rw[frL q hq]at z;cases z
    by_cases hq:q=s.heap.objs.size
    ·subst hq
     rw[ze]at z
     cases z
     exact⟨by show 2<=sizeLine;decide,[.int (i:Int) tk,y],.cons ⟨_,rfl⟩ (.cons ru .nil),⟨_,sb''.extBut _ _ hz ht,rfl,_,rfl⟩⟩
    ·rw[zd hq]at z
     refine(I.hok q o z).stay (fun c w' hc r=>kp2 c w' ?_ r) (fun c r=>by rw[zd (neT c _ r)];exact r) fun c xs r=>by rw[zd (neT c _ r)];exact r
     rcases hc with rfl | hc
     ·exact notin _ _ z
     ·exact notin _ _ hc
  ·exact⟨⟨_,by simpa using e''⟩,st'.1.at fun o z=>sb''.extBut _ o (Ne.symm hei) z⟩
  ·rw[zd]
   ·exact frL q hq
   ·simp only[List.mem_cons,List.not_mem_nil,or_false]at hq
    rcases hq with rfl | rfl
    ·exact fun zz=>lt er zz.symm
    ·obtain⟨o,z,_⟩:=ir.get;exact fun zz=>lt z zz.symm
 done:=by
  intro X hP hw hK hc i pins s σ H E I hf st hg
  subst hP hw hK
  obtain⟨xs,sa,hx⟩:=hg
  obtain⟨ia,ra,ha,za⟩:=I.hasK sa
  obtain⟨⟨old,er⟩,ir⟩:=st
  have la:=ra.length
  refine wpAny_pyNext_enum_endD (drawsEnd (A:=X.A.in1) (k:=k) (it:=it) (a:=a) (show X.A.in1.handled=none from I.ok.hd hc) ia.toArray (i:=i) (by simp;omega)) er ⟨rfl,ir,ha⟩ fun h' kp=>⟨rfl,?_⟩
  have kp2:∀ c o,c ∉ [e,it]->s.heap.get? c=some o->h'.get? c=some o:=fun c o hc z=>by
   simp only[List.mem_cons,List.not_mem_nil,or_false,not_or]at hc
   exact kp c o hc.2 z
  have notin:∀ q u,H q=some u->q ∉ [e,it]:=fun q u z hq=>by rw[(hf q hq).1]at z;cases z
  refine Inv.step (s:=s) (h':=h') (g':=s.gens) (d':=s.drawn) (t':=s.toks) (ch:=[e,it]) I (fun q hq=>?_) (fun q o _ _ hc z _=>kp2 q o hc z) (fun q o _ _ hc z _=>⟨o.slots,kp2 q o hc z⟩) (fun _ _ _ _ n=>n)
   (fun q o hq z=>⟨o,kp2 q o hq z⟩) (fun _ _ z=>z) (fun _ _ _ z=>z) (fun q ps z=>⟨#[],by rw[z];simp⟩) (fun m hm=>?_) (fun q o z=>?_) I.bare
  ·exact⟨(hf q hq).2.2.2.1,(hf q hq).2.1,(hf q hq).2.2.2.2.1,(hf q hq).2.2.2.2.2⟩
  ·obtain⟨o,es,ep,ho,r⟩:=hm
   exact⟨o,es,ep,kp2 _ o (fun hq=>(hf _ hq).2.1 rfl) ho,r⟩
  ·refine(I.hok q o z).stay (fun c w' hc r=>kp2 c w' ?_ r) (fun _ r=>r) fun _ _ r=>r
   rcases hc with rfl | hc
   ·exact notin _ _ z
   ·exact notin _ _ hc
 self:=fun _ _ _ _ _ st h=>by obtain⟨⟨old,er⟩,_⟩:=st;exact wpAny_pyIter_enum er h
def iEnum(K:PySem.W.Frag)(ta:TA):TI:=fun σ H R=>ta σ H fun vs H1=>∃ k a xs,vs=[.ref a]/\SqK k K H1 a xs/\R (Itn K k a) H1
theorem zdk{X:Cx}{elts:List Expr}{c:Nat}{tp:Pos}{a:Expr}{ta:TA}{p pos:Pos}(hg:Gl X "enumerate")(hm:X.mg "enumerate"=none)(ha:PA X [a] ta)(hs:starEach [a] X.env=[(false,eval a X.env)]:=by rfl) :
  PI X (.Tuple elts c tp) (.Call (.Name "enumerate" p) [a] [] pos) (iEnum X.K ta):=by
 intro pins s σ H R I h
 refine Call_ (z3S I hg hm (u:=.type "enumerate") rfl (PyProof.Rows.callWith_type1 (thn (ha pos pins s σ H _ I h) fun us s1 zhJ=>?_) (by rw[hs];rfl) rfl))
 obtain⟨vs,H1,I1,r1,q1⟩:=zhJ
 obtain⟨k,a,xs,e,sa,q⟩:=q1
 subst e
 obtain⟨u,rfl,ru⟩:=vals1 r1
 cases (show u=Value.ref a from ru)
 obtain⟨ia,ra,ha',za⟩:=I1.hasK sa
 refine z9e ha' fun h' En It kp=>?_
 refine wpAny_pyIter_enum En ?_
 have la:LT.lt (α:=Nat) a s1.heap.objs.size:=ha'.lt
 generalize hn:s1.heap.objs.size=n at *
 refine⟨n + 1,[n + 1,n],fun i h=>EnRec h k (n + 1) n a i,Itn X.K k a,H1,rfl,I1.kept (t':=s1.toks) kp,zaj ?_ ?_,⟨⟨_,En⟩,It⟩,fun q hq=>?_,q⟩
 ·intro e;have e':n + 1=n:=e;omega
 ·refine⟨?_,?_⟩ <;> (intro e;have e':(_:Nat)=_:=e;omega)
 ·have hq':s1.heap.objs.size<=q:=by
   simp only[List.mem_cons,List.not_mem_nil,or_false]at hq
   rw[hn]
   rcases hq with rfl | rfl <;> first | exact Nat.le_refl _ | exact Nat.le_succ _
  exact I1.fpOk hq' (I1.hok.fresh hq')
end L2
namespace L2
open PySem PySem.Spec PyProof.Rows
section
variable {prog:Program} {w:World} {A:Around} {E:Value->Shared->Prop} {s:Shared}
end
end L2
namespace L2
open PySem PySem.Spec PyProof.Rows
section
variable {prog:Program} {w:World} {A:Around} {E:Value->Shared->Prop} {s:Shared}
theorem z73{it t:Addr}{items:Array Value}(hne:t≠it):∀ (n i:Nat) (s:Shared) (Q:List Value->Shared->Prop),s.heap.IsListIter it t i->s.heap.IsList t items->i + n<=items.size ->
  (∀ h',h'.IsListIter it t (i + n)->Heap.SameBut it s.heap h'->Q ((items.toList.drop i).take n) {s with heap:=h'})->wpAny (model prog w) A (draw (.ref it) n) Q E s
 | 0,i,s,Q,hit,_,_,hQ=>by
  show wpAny _ _ (pure []) Q E s
  exact wpAny_pure (by simpa using hQ s.heap hit (Heap.SameBut.refl ..))
 | n + 1,i,s,Q,hit,ht,hle,hQ=>by
  have hlt:i < items.size:=by omega
  show wpAny _ _ (pyNext (.ref it) >>= _) Q E s
  refine wpAny_bind (wpAny_pyNext_list_item hit ht (x:=items[i]) (by simp[hlt]) fun h₁ hit₁ hs₁=>?_)
  refine wpAny_bind (wpAny_holding (z73 hne n (i + 1) _ _ hit₁ (ht.extBut hs₁.extBut hne) (by omega) fun h₂ hit₂ hs₂=>wpAny_pure ?_))
  have hd:items.toList.drop i=items[i]::items.toList.drop (i + 1):=by simp[List.drop_eq_getElem_cons,hlt]
  have:=hQ h₂ (by rw[show i + (n + 1)=i + 1 + n by omega];exact hit₂) (hs₁.trans hs₂)
  rw[hd,List.take_succ_cons]at this
  exact this
theorem z4H{t:Addr}{items:Array Value}{Q:List Value->Shared->Prop}(hh:A.handled=none)(ht:s.heap.IsList t items)
  (hQ:∀ h',Heap.ExtBut s.heap.objs.size s.heap h'->Q items.toList {s with heap:=h'}):wpAny (model prog w) A (unpackItems (.ref t) items.size none) Q E s:=by
 have hlt:t≠s.heap.objs.size:=by obtain⟨o,ho,_⟩:=ht;exact Nat.ne_of_lt (Heap.lt_size ho)
 unfold unpackItems
 refine wpAny_bind ?_
 ·unfold notIterableAtAll
  refine wpAny_bind (wpAny_specialOf ht.typeIs F.slot_list_iter.lookup ?_)
  refine wpAny_pure ?_
  simp only[Bool.false_eq_true,if_false]
  refine wpAny_bind (wpAny_holding (wpAny_pyIter_list ht ?_))
  refine wpAny_bind (wpAny_holding (z73 hlt items.size 0 _ _ ⟨_,Heap.get?_push_size _ rfl,rfl,rfl⟩ (ht.push _) (by omega) fun h₁ hit₁ hs₁=>?_))
  have hall:List.take items.size (List.drop 0 items.toList)=items.toList:=by
   rw[List.drop_zero];exact List.take_of_length_le (by simp)
  rw[hall]
  rw[if_neg (by simp)]
  have ht₁:h₁.IsList t items:=(ht.push _).extBut hs₁.extBut hlt
  refine wpAny_bind (wpAny_holding (wpAny_pyNext_list_end hh hit₁ ht₁ (by simp) fun h₂ he₂=>?_))
  simp only[Option.isSome_none,Bool.false_eq_true,if_false]
  refine wpAny_pure (hQ h₂ fun b o hb e=>he₂ b o hb (hs₁.extBut b o hb (Heap.get?_push_of_some _ e)))
theorem z4g{env:Env}{elts:List Expr}{x1:Nat}{pos:Pos}{t:Addr}{items:Array Value}{Q:Unit->Shared->Prop}(hh:A.handled=none)(ht:s.heap.IsList t items)
  (hn:(assignEach elts env).length=items.size) (hstar:(assignEach elts env).findIdx? (·.1)=none)
  (h:∀ h',Heap.ExtBut s.heap.objs.size s.heap h'->wpAny (model prog w) A (assignInOrder ((assignEach elts env).map (·.2)) items.toList) Q E {s with heap:=h'}) :
  wpAny (model prog w) A (assign (.Tuple elts x1 pos) env (.ref t)) Q E s:=by
 rw[assign_Tuple]
 refine wpAny_bind (wpAny_standAt ?_)
 unfold unpack
 rw[hn,hstar]
 exact wpAny_bind (wpAny_holding (z4H hh ht h))
end
section
variable {X:Cx} {pos:Pos}
def gSeqT(K:PySem.W.Frag)(n:Nat)(t:TGs):TG:=fun v σ H Q=>∃ a xs,v=.ref a/\(SqT K H a xs\/SqL K H a xs)/\xs.length=n/\t xs σ H Q
theorem zdl{es:List Expr}{k:Nat}{t:TGs}{n:Nat}(hc:X.calm=true)(h:PGs X es t)
  (hn:(assignEach es X.env).length=n:=by rfl) (hst:(assignEach es X.env).findIdx? (·.1)=none:=by rfl):PG X (.Tuple es k pos) (gSeqT X.K n t):=by
 intro pins s σ H v u Q I r hw
 obtain⟨a,xs,e1,hq,hl,hw⟩:=hw
 rcases hq with hq | hq
 ·exact z9R hc h hn hst pins s σ H v u Q I r ⟨a,xs,e1,hq,hl,hw⟩
 ·subst e1
  cases r
  obtain⟨its,rv,pl,hz⟩:=I.list hq
  refine z4g (I.ok.hd hc) pl.isList (by simp[hn,<- hl,rv.length]) hst fun h' hx=>?_
  have I1:Inv X pins σ H {s with heap:=h'}:=I.kept (t':=s.toks) fun b o e=>hx b o (Nat.ne_of_lt (Heap.lt_size e)) e
  exact h pins _ σ H xs _ Q I1 (by simpa using rv) hw
def tPar3(i j k:Nat)(ta:TA):TS:=fun D σ H=>ta σ H fun vs H1=>∃ v w z,vs=[v,w,z]/\D.nx (((σ.set i (some v)).set j (some w)).set k (some z)) H1
theorem zdm{i j k:Nat}{x y z:Str}{a b c:Expr}{ta:TA}{px py pz pt:Pos}{kt k2 pt2}(hc:X.calm=true)(hN:X.N.Nodup)(hi:X.N[i]?=some x)(hj:X.N[j]?=some y)(hk:X.N[k]?=some z)(hij:i≠j)(hik:i≠k)(hjk:j≠k)
  (hx:X.env.scope.names.lookup x=some .local) (hy:X.env.scope.names.lookup y=some .local) (hz:X.env.scope.names.lookup z=some .local) (ha:PA X [a,b,c] ta)
  (hw:swappedStores [.Tuple [.Name x px,.Name y py,.Name z pz] kt pt] (.Tuple [a,b,c] k2 pt2) X.env=pure (some [x,y,z]))
  (hs:swapsWithSole [.Tuple [.Name x px,.Name y py,.Name z pz] kt pt] (.Tuple [a,b,c] k2 pt2) pos.line X.env=pure false:=by rfl) :
  PS X (.Assign [.Tuple [.Name x px,.Name y py,.Name z pz] kt pt] (.Tuple [a,b,c] k2 pt2) pos) (tPar3 i j k ta):=by
 intro pins s σ H D I h
 rw[exec_Assign_arm]
 refine wpAny_bind (wpAny_standAt ?_)
 rw[hs]
 refine wpAny_bind (wpAny_pure ?_)
 rw[if_neg (by decide)]
 refine wpAny_bind (Tuple_ (thn (ha _ pins s σ H _ I h) fun us s1 h1=>?_))
 obtain⟨vs,H1,I1,r1,q1⟩:=h1
 obtain⟨v,w,t,e1,q1⟩:=q1
 subst e1
 obtain⟨u1,u2,u3,rfl,rv,rw',rt⟩:∃ u1 u2 u3,us=[u1,u2,u3]/\RelV v u1/\RelV w u2/\RelV t u3:=by
  cases r1 with
  | cons p q =>
   cases q with
   | cons p' q' =>
    cases q' with
    | cons p'' q'' =>
     cases q''
     exact⟨_,_,_,rfl,p,p',p''⟩
 refine wpAny_newObj_type ?_ (by show 3<=sizeLine;decide)
 have I2:Inv X pins σ H1 {s1 with heap:=s1.heap.push {cls:=.type "tuple",data:=.seq [u1,u2,u3].toArray}}:=I1.kept (t':=s1.toks) fun b o e=>Heap.get?_push_of_some _ e
 rw[hw]
 refine wpAny_bind (wpAny_pure ?_)
 show wpAny (model X.prog X.w) X.A (do rule "assign.swapped-stores";let items <- unpackItems (.ref s1.heap.objs.size) 3 none;assignInOrder [fun v=>bindName X.env z v,fun v=>bindName X.env y v,fun v=>bindName X.env x v] items.reverse;pure Flow.next) _ _ _
 refine wpAny_bind (wpAny_rule (wpAny_bind (unpackItems_tuple (items:=#[u1,u2,u3]) (I.ok.hd hc) (IsTup.new s1.heap _) fun h' hx'=>?_)))
 have I3:=I2.kept (h':=h') (t':=s1.toks) fun b o e=>hx' b o (Nat.ne_of_lt (Heap.lt_size e)) e
 show wpAny _ _ (assignInOrder [fun v=>bindName X.env z v,fun v=>bindName X.env y v,fun v=>bindName X.env x v] [u3,u2,u1] >>= fun _=>pure Flow.next) _ _ _
 refine wpAny_bind (assignInOrder_cons (wpAny_bindName (z29 I3 hN hk (.inl hz) rt (fun s2 I4=>?_) (.inr hz))))
 refine assignInOrder_cons (wpAny_bindName (z29 I4 hN hj (.inl hy) rw' (fun s2 I5=>?_) (.inr hy)))
 refine assignInOrder_cons (wpAny_bindName (z29 I5 hN hi (.inl hx) rv (fun s3 I6=>assignInOrder_nil (wpAny_pure ?_)) (.inr hx)))
 rw[List.set_comm _ _ (Ne.symm hij),List.set_comm _ _ (Ne.symm hik),List.set_comm _ _ (Ne.symm hjk)]at I6
 exact⟨_,H1,I6,q1⟩
end
end L2
namespace L2
open PySem PySem.Spec PyProof.Rows
section
variable {prog:Program} {w:World} {A:Around} {E:Value->Shared->Prop} {s:Shared}
end
end L2
namespace L2
open PySem PySem.Spec PyProof.Rows
structure ZipRec2(h:Heap)(k1 k2:Bool)(z TI TO i1 i2 a b:Addr)(n:Nat)(B:Addr):Prop where
 zr:∃ f1:Bool,h.get? z=some {cls:=.type "zip",data:=.fields #[rawInt B,.bool f1,.bool false,.ref TI,.ref TO]}
 pi:IsPair h TI (.ref i1) (.ref i2)
 it1:IterK k1 h i1 a n
 it2:IterK k2 h i2 b n
 bl:∃ o,h.get? B=some o
section
variable {prog:Program} {w:World} {A:Around} {E:Value->Shared->Prop} {s:Shared} {k1 k2:Bool} {z TI TO i1 i2 a b B:Addr} {n:Nat} {xs ys:Array Value}
theorem z7O{M:Model}{a:Addr}{Q:Option Obj->Shared->Prop}(h:Q (s.heap.get? a) s):wpAny M A (loadIfAlive a) Q E s:=fun _ _ _=>h
theorem z8A(zr:∃ f1:Bool,s.heap.get? z=some {cls:=.type "zip",data:=.fields #[rawInt B,.bool f1,.bool false,.ref TI,.ref TO]})(bl:∃ o,s.heap.get? B=some o) :
  wpAny (model prog w) A (Builtin.SmallTypes.ownedTupleIsFree (.ref z)) (fun r s'=>r=false/\∃ g1,s'={s with heap:=g1}/\(∃ f1:Bool,g1.get? z=some {cls:=.type "zip",data:=.fields #[rawInt B,.bool f1,.bool false,.ref TI,.ref TO]})/\Heap.SameBut z s.heap g1) E s:=by
 obtain⟨f1,zr⟩:=zr
 obtain⟨oB,hBo⟩:=bl
 unfold Builtin.SmallTypes.ownedTupleIsFree
 refine wpAny_bind (wpAny_field zr rfl (x:=rawInt B) rfl ?_)
 refine wpAny_bind (z7O ?_)
 show wpAny (model prog w) A (if (s.heap.get? B).isNone=true then _ else _) _ E s
 rw[hBo,if_neg (by simp)]
 refine wpAny_bind (wpAny_field zr rfl (x:=.bool f1) rfl ?_)
 cases f1 with
 | true =>
  show wpAny (model prog w) A (pure false) _ E s
  exact wpAny_pure ⟨rfl,s.heap,rfl,⟨true,zr⟩,Heap.SameBut.refl ..⟩
 | false =>
  show wpAny (model prog w) A (setField (.ref z) 1 (.bool true) >>= fun _=>pure false) _ E s
  refine wpAny_bind (wpAny_setField_rec zr (by simp) fun g1 r1 e1=>?_)
  have r1':g1.get? z=some {cls:=.type "zip",data:=.fields #[rawInt B,.bool true,.bool false,.ref TI,.ref TO]}:=r1
  exact wpAny_pure ⟨rfl,g1,rfl,⟨true,r1'⟩,e1⟩
theorem z9f{x y:Value}{Q:Value->Shared->Prop}(D:ZipFar z TI TO i1 i2)(Z:ZipRec2 s.heap k1 k2 z TI TO i1 i2 a b n B)(hB:B≠z/\B≠i1/\B≠i2)(ha:HasK k1 s.heap a xs)(hb:HasK k2 s.heap b ys)
  (fa:a≠z/\a≠TO/\a≠i1/\a≠i2) (fb:b≠z/\b≠TO/\b≠i1/\b≠i2) (hx:xs[n]?=some x) (hy:ys[n]?=some y)
  (hQ:∀ h',ZipRec2 h' k1 k2 z TI TO i1 i2 a b (n + 1) B->IsPair h' s.heap.objs.size x y->h'.objs.size=s.heap.objs.size + 1 ->
   (∀ c o,c≠z->c≠i1->c≠i2->s.heap.get? c=some o->h'.get? c=some o)->Q (.ref s.heap.objs.size) {s with heap:=h'}) :
  wpAny (model prog w) A (Builtin.«zip.__next__» ⟨[.ref z],[]⟩) (fun fin s'=>∃ v,fin=.done (.ret v)/\Q v s') E s:=by
 obtain⟨zr0,zi,z1,z2,bl⟩:=Z
 obtain⟨f1,zr⟩:=id zr0
 obtain⟨oB,hBo⟩:=id bl
 show wpAny (model prog w) A (field (.ref z) 2 >>= _) _ E s
 refine wpAny_bind (wpAny_field zr rfl (x:=.bool false) rfl ?_)
 show wpAny (model prog w) A (field (.ref z) 3 >>= _) _ E s
 refine wpAny_bind (wpAny_field zr rfl (x:=.ref TI) rfl (wpAny_bind (wpAny_seqItems zi rfl ?_)))
 show wpAny (model prog w) A (Builtin.SmallTypes.ownedTupleIsFree (.ref z) >>= _) _ E s
 refine wpAny_bind (thn (z8A zr0 bl) fun r s' zhK=>?_)
 obtain⟨hr,g1,hs,zr1,e1⟩:=zhK
 subst hr hs
 simp only[Bool.false_eq_true,if_false]
 have kp1:∀ c o,c≠z->s.heap.get? c=some o->g1.get? c=some o:=fun c o q e=>e1.extBut c o q e
 rw[<- Array.forIn_toList]
 simp only[List.forIn_cons,List.forIn_nil]
 refine wpAny_bind (wpAny_bind (wpAny_bind (wpAny_holding ?_)))
 show wpAny (model prog w) A (Builtin.SmallTypes.nextOf (.ref i1) >>= _) _ _ _
 refine wpAny_bind ?_
 refine z1r (s:={s with heap:=g1}) (z1.at fun o e=>kp1 _ o D.d3 e) (ha.at fun o e=>kp1 _ o fa.1 e) hx fun g2 j1 e2=>wpAny_pure ?_
 have kp2:∀ c o,c≠i1->g1.get? c=some o->g2.get? c=some o:=fun c o q e=>e2.extBut c o q e
 refine wpAny_pure ?_
 refine wpAny_bind (wpAny_bind (wpAny_holding ?_))
 show wpAny (model prog w) A (Builtin.SmallTypes.nextOf (.ref i2) >>= _) _ _ _
 refine wpAny_bind ?_
 refine z1r (s:={s with heap:=g2}) (z2.at fun o e=>kp2 _ o D.d10.symm (kp1 _ o D.d4 e)) (hb.at fun o e=>kp2 _ o fb.2.2.1 (kp1 _ o fb.1 e)) hy fun g3 j2 e3=>wpAny_pure ?_
 have kp3:∀ c o,c≠i2->g2.get? c=some o->g3.get? c=some o:=fun c o q e=>e3.extBut c o q e
 refine wpAny_pure (wpAny_pure ?_)
 refine wpAny_bind (wpAny_newTuple (wpAny_pure ⟨_,rfl,?_⟩) (by show 2<=sizeLine;decide))
 have sz3:g3.objs.size=s.heap.objs.size:=by rw[e3.1,e2.1,e1.1]
 have all3:∀ c o,c≠z->c≠i1->c≠i2->s.heap.get? c=some o->g3.get? c=some o:=fun c o q1 q3 q4 e=>kp3 _ _ q4 (kp2 _ _ q3 (kp1 _ _ q1 e))
 obtain⟨f1',zr1⟩:=zr1
 show Q (.ref g3.objs.size) _
 rw[sz3]
 refine hQ _ ⟨⟨f1',Heap.get?_push_of_some _ (kp3 _ _ D.d4.symm (kp2 _ _ D.d3.symm zr1))⟩,Heap.get?_push_of_some _ (all3 _ _ D.d1 D.d6 D.d7 zi),j1.at fun o e=>Heap.get?_push_of_some _ (kp3 _ o D.d10 e),j2.at fun o e=>Heap.get?_push_of_some _ e,oB,Heap.get?_push_of_some _ (all3 _ _ hB.1 hB.2.1 hB.2.2 hBo)⟩ ?_ ?_ fun c o q1 q3 q4 e=>Heap.get?_push_of_some _ (all3 c o q1 q3 q4 e)
 ·rw[<- sz3];exact Heap.get?_push_size _ rfl
 ·rw[Heap.size_push,sz3]
theorem zak{Q:Fin->Shared->Prop}(hh:A.handled=none)(D:ZipFar z TI TO i1 i2)(Z:ZipRec2 s.heap k1 k2 z TI TO i1 i2 a b n B)(ha:HasK k1 s.heap a xs)(hb:HasK k2 s.heap b ys)
  (fa:a≠z/\a≠TO/\a≠i1/\a≠i2) (fb:b≠z/\b≠TO/\b≠i1/\b≠i2) (hend:xs[n]?=none\/ys[n]?=none)
  (hE:∀ h' e,(∀ c o,c≠z->c≠i1->c≠i2->s.heap.get? c=some o->h'.get? c=some o)->(∃ o,h'.get? e=some o/\o.cls=.type "StopIteration")->E (.ref e) {s with heap:=h'}) :
  wpAny (model prog w) A (Builtin.«zip.__next__» ⟨[.ref z],[]⟩) Q E s:=by
 obtain⟨zr0,zi,z1,z2,bl⟩:=Z
 obtain⟨f1,zr⟩:=id zr0
 show wpAny (model prog w) A (field (.ref z) 2 >>= _) _ E s
 refine wpAny_bind (wpAny_field zr rfl (x:=.bool false) rfl ?_)
 show wpAny (model prog w) A (field (.ref z) 3 >>= _) _ E s
 refine wpAny_bind (wpAny_field zr rfl (x:=.ref TI) rfl (wpAny_bind (wpAny_seqItems zi rfl ?_)))
 show wpAny (model prog w) A (Builtin.SmallTypes.ownedTupleIsFree (.ref z) >>= _) _ E s
 refine wpAny_bind (thn (z8A zr0 bl) fun r s' zhL=>?_)
 obtain⟨hr,g1,hs,zr1,e1⟩:=zhL
 subst hr hs
 simp only[Bool.false_eq_true,if_false]
 have kp1:∀ c o,c≠z->s.heap.get? c=some o->g1.get? c=some o:=fun c o q e=>e1.extBut c o q e
 rw[<- Array.forIn_toList]
 simp only[List.forIn_cons,List.forIn_nil]
 cases hx:xs[n]? with
 | none =>
  refine wpAny_bind (wpAny_bind (wpAny_bind (wpAny_holding ?_)))
  show wpAny (model prog w) A (Builtin.SmallTypes.nextOf (.ref i1) >>= _) _ _ _
  exact wpAny_bind (z2v (s:={s with heap:=g1}) hh (z1.at fun o e=>kp1 _ o D.d3 e) (ha.at fun o e=>kp1 _ o fa.1 e) hx fun g2 e e2 he=>hE g2 e (fun c o q1 q3 q4 q=>e2 _ _ q3 (kp1 _ _ q1 q)) he)
 | some x =>
  have hy:ys[n]?=none:=hend.elim (fun h=>by rw[hx]at h;cases h) id
  refine wpAny_bind (wpAny_bind (wpAny_bind (wpAny_holding ?_)))
  show wpAny (model prog w) A (Builtin.SmallTypes.nextOf (.ref i1) >>= _) _ _ _
  refine wpAny_bind ?_
  refine z1r (s:={s with heap:=g1}) (z1.at fun o e=>kp1 _ o D.d3 e) (ha.at fun o e=>kp1 _ o fa.1 e) hx fun g2 j1 e2=>wpAny_pure ?_
  have kp2:∀ c o,c≠i1->g1.get? c=some o->g2.get? c=some o:=fun c o q e=>e2.extBut c o q e
  refine wpAny_pure ?_
  refine wpAny_bind (wpAny_bind (wpAny_holding ?_))
  show wpAny (model prog w) A (Builtin.SmallTypes.nextOf (.ref i2) >>= _) _ _ _
  exact wpAny_bind (z2v (s:={s with heap:=g2}) hh (z2.at fun o e=>kp2 _ o D.d10.symm (kp1 _ o D.d4 e)) (hb.at fun o e=>kp2 _ o fb.2.2.1 (kp1 _ o fb.1 e)) hy fun g3 e e3 he=>hE g3 e (fun c o q1 q3 q4 q=>e3 _ _ q4 (kp2 _ _ q3 (kp1 _ _ q1 q))) he)
theorem z6j{x y:Value}{Q:Option Value->Shared->Prop}(D:ZipFar z TI TO i1 i2)(Z:ZipRec2 s.heap k1 k2 z TI TO i1 i2 a b n B)(hB:B≠z/\B≠i1/\B≠i2)(ha:HasK k1 s.heap a xs)(hb:HasK k2 s.heap b ys)
  (fa:a≠z/\a≠TO/\a≠i1/\a≠i2) (fb:b≠z/\b≠TO/\b≠i1/\b≠i2) (hx:xs[n]?=some x) (hy:ys[n]?=some y)
  (hQ:∀ h',ZipRec2 h' k1 k2 z TI TO i1 i2 a b (n + 1) B->IsPair h' s.heap.objs.size x y->h'.objs.size=s.heap.objs.size + 1 ->
   (∀ c o,c≠z->c≠i1->c≠i2->s.heap.get? c=some o->h'.get? c=some o)->Q (some (.ref s.heap.objs.size)) {s with heap:=h'}):wpAny (model prog w) A (pyNext (.ref z)) Q E s:=by
 obtain⟨f1,zr⟩:=id Z.zr
 have ty:s.TypeIs (.ref z) "zip":=⟨_,zr,rfl⟩
 unfold pyNext
 refine wpAny_bind (wpAny_attempt (wpAny_callSpecial?_slot (name:=Str.ofString "__next__") ty F.slot_zip_next (wpAny_call_entry F.slot_zip_next ty F.entry_zip_next ?_ (F.args_zip_next_1 _))))
 exact z9f D Z hB ha hb fa fb hx hy fun h' q1 q2 q3 q4=>wpAny_pure (hQ h' q1 q2 q3 q4)
theorem z74{Q:Option Value->Shared->Prop}(hh:A.handled=none)(D:ZipFar z TI TO i1 i2)(Z:ZipRec2 s.heap k1 k2 z TI TO i1 i2 a b n B)(ha:HasK k1 s.heap a xs)(hb:HasK k2 s.heap b ys)
  (fa:a≠z/\a≠TO/\a≠i1/\a≠i2) (fb:b≠z/\b≠TO/\b≠i1/\b≠i2) (hend:xs[n]?=none\/ys[n]?=none)
  (hQ:∀ h',(∀ c o,c≠z->c≠i1->c≠i2->s.heap.get? c=some o->h'.get? c=some o)->Q none {s with heap:=h'}):wpAny (model prog w) A (pyNext (.ref z)) Q E s:=by
 obtain⟨f1,zr⟩:=id Z.zr
 have ty:s.TypeIs (.ref z) "zip":=⟨_,zr,rfl⟩
 unfold pyNext
 refine wpAny_bind (wpAny_attempt (wpAny_callSpecial?_slot (name:=Str.ofString "__next__") ty F.slot_zip_next (wpAny_call_entry F.slot_zip_next ty F.entry_zip_next ?_ (F.args_zip_next_1 _))))
 refine zak hh D Z ha hb fa fb hend fun h' e kp he=>?_
 obtain⟨o,ho,hc⟩:=he
 exact wpAny_bind (wpAny_isInstance (T:="StopIteration") (b:=true) ⟨o,ho,hc⟩ isSubtype_stop (wpAny_pure (hQ _ kp)))
end
structure ZipAcc(h0 h:Heap)(k1 k2:Bool)(z TI TO i1 i2 a b S N:Addr)(xs ys:Array Value)(i:Nat):Prop where
 sz:h.objs.size=N + i
 zr:(i=0/\ZipRec h k1 k2 z TI TO i1 i2 a b 0 .none)\/(0 < i/\ZipRec2 h k1 k2 z TI TO i1 i2 a b i N)
 ha:HasK k1 h a xs
 hb:HasK k2 h b ys
 ps:∀ j,j < i->∃ x y,xs[j]?=some x/\ys[j]?=some y/\IsPair h (N + j) x y
 ls:∃ c,h.get? S=some {cls:=.type "list",data:=.seq ((List.range i).map fun j=>Value.ref (N + j)).toArray c}
 kp:∀ c o,c≠z->c≠TO->c≠i1->c≠i2->c≠S->h0.get? c=some o->h.get? c=some o
section
variable {prog:Program} {w:World} {A:Around} {R:Result->Shared->Prop} {k1 k2:Bool} {z TI TO i1 i2 a b S N:Addr} {xs ys:Array Value} {h0:Heap}
theorem z1a{c N:Addr}(h:LT.lt (α:=Nat) c N)(j:Nat):N + j≠c:=(Nat.ne_of_gt (Nat.lt_of_lt_of_le h (Nat.le_add_right _ _)):(N + j:Nat)≠c)
theorem z9g(hh:A.in1.handled=none)(D:ZipFar z TI TO i1 i2)(fa:a≠z/\a≠TO/\a≠i1/\a≠i2)(fb:b≠z/\b≠TO/\b≠i1/\b≠i2)(fS:S≠z/\S≠TI/\S≠TO/\S≠i1/\S≠i2/\S≠a/\S≠b)(lS:LT.lt (α:=Nat) S N)(lz:LT.lt (α:=Nat) z N/\LT.lt (α:=Nat) TO N/\LT.lt (α:=Nat) i1 N/\LT.lt (α:=Nat) i2 N)(res:Value)(hz:min xs.size ys.size<=sizeLine) :
  ∀ (k i:Nat) (s:Shared),min xs.size ys.size - i=k->i<=min xs.size ys.size->ZipAcc h0 s.heap k1 k2 z TI TO i1 i2 a b S N xs ys i ->
  (∀ h',(∀ j,j < min xs.size ys.size->∃ x y,xs[j]?=some x/\ys[j]?=some y/\IsPair h' (N + j) x y)->(∃ c,h'.get? S=some {cls:=.type "list",data:=.seq ((List.range (min xs.size ys.size)).map fun j=>Value.ref (N + j)).toArray c}) ->
   (∀ c o,c≠z->c≠TO->c≠i1->c≠i2->c≠S->h0.get? c=some o->h'.get? c=some o)->R (.ok (.ret res)) {s with heap:=h'}) ->
  codeAny (model prog w) A (.builtin "list.extend.loop" ⟨[.ref S,.ref z,res],[]⟩) R s:=by
 intro k
 induction k with
 | zero =>
  intro i s hk hi Z hR
  have hin:i=min xs.size ys.size:=by omega
  have hend:xs[i]?=none\/ys[i]?=none:=by
   rcases Nat.le_total xs.size ys.size with h | h
   ·exact .inl (Array.getElem?_eq_none (by omega))
   ·exact .inr (Array.getElem?_eq_none (by omega))
  refine codeAny_builtin F.entry_extend_loop ?_
  rw[Around.under_plainId F.plain_extend_loop _]
  show wpAny (model prog w) A.in1 (pyNext (.ref z) >>= _) _ _ s
  refine wpAny_bind ?_
  have fin:∀ h',(∀ c o,c≠z->c≠TO->c≠i1->c≠i2->s.heap.get? c=some o->h'.get? c=some o)->R (.ok (.ret res)) {s with heap:=h'}:=fun h' kp=>by
   obtain⟨c,hc⟩:=Z.ls
   rw[hin]at hc
   refine hR h' (fun j hj=>?_) ⟨c,kp _ _ fS.1 fS.2.2.1 fS.2.2.2.1 fS.2.2.2.2.1 hc⟩ fun c o q1 q2 q3 q4 q5 e=>kp _ _ q1 q2 q3 q4 (Z.kp c o q1 q2 q3 q4 q5 e)
   obtain⟨x,y,e1,e2,e3⟩:=Z.ps j (by omega)
   exact⟨x,y,e1,e2,kp _ _ (z1a lz.1 j) (z1a lz.2.1 j) (z1a lz.2.2.1 j) (z1a lz.2.2.2 j) e3⟩
  rcases Z.zr with ⟨h0',zr⟩ | ⟨h0',zr⟩
  ·rw[h0']at hend
   exact z5b hh D zr Z.ha Z.hb fa fb hend fun h' kp=>wpAny_pure (fin h' kp)
  ·exact z74 hh D zr Z.ha Z.hb fa fb hend fun h' kp=>wpAny_pure (fin h' fun c o q1 _ q3 q4 e=>kp c o q1 q3 q4 e)
 | succ k ih =>
  intro i s hk hi Z hR
  have hlt:i < min xs.size ys.size:=by omega
  obtain⟨x,hx⟩:∃ x,xs[i]?=some x:=⟨_,Array.getElem?_eq_getElem (by omega)⟩
  obtain⟨y,hy⟩:∃ y,ys[i]?=some y:=⟨_,Array.getElem?_eq_getElem (by omega)⟩
  refine codeAny_builtin F.entry_extend_loop ?_
  rw[Around.under_plainId F.plain_extend_loop _]
  show wpAny (model prog w) A.in1 (pyNext (.ref z) >>= _) _ _ s
  refine wpAny_bind ?_
  have go:∀ h',ZipRec2 h' k1 k2 z TI TO i1 i2 a b (i + 1) N->IsPair h' (N + i) x y->h'.objs.size=N + i + 1->(∀ c o,c≠z->c≠TO->c≠i1->c≠i2->s.heap.get? c=some o->h'.get? c=some o) ->
    wpAny (model prog w) A.in1 (updateSeq S (·.push (.ref (N + i))) >>= fun _=>again (.builtin "list.extend.loop" ⟨[.ref S,.ref z,res],[]⟩)) (fun fin s'=>match fin with | .done f=>R (.ok f) s' | .again c'=>c'.quiet=true/\codeAny (model prog w) A c' R s') (fun e s'=>R (.error e) s') {s with heap:=h'}:=fun h' zr' pr' sz' kp=>by
   obtain⟨c,hc⟩:=Z.ls
   have hS':=kp _ _ fS.1 fS.2.2.1 fS.2.2.2.1 fS.2.2.2.2.1 hc
   have la:((List.range i).map fun j=>Value.ref (N + j)).toArray.size=i:=by simp
   have ea:((List.range i).map fun j=>Value.ref (N + j)).toArray.push (.ref (N + i))=((List.range (i + 1)).map fun j=>Value.ref (N + j)).toArray:=by simp[List.range_succ]
   refine wpAny_bind (wpAny_updateSeq (s:={s with heap:=h'}) hS' rfl (wpAny_pure ⟨plainId_quiet F.plain_extend_loop _,ih (i + 1) _ (by omega) hlt ?_ hR⟩) (by rw[la];omega) (by show(((List.range i).map fun j=>Value.ref (N + j)).toArray.push (.ref (N + i))).size<=sizeLine + 1;rw[Array.size_push,la];omega))
   have up:∀ d o,d≠S->h'.get? d=some o->(h'.update S (Obj.mapSeq (·.push (.ref (N + i))))).get? d=some o:=fun d o q e=>(Heap.get?_update_other _ _ (fun h:S=d=>q h.symm)).trans e
   refine⟨?_,.inr ⟨Nat.succ_pos _,?_⟩,?_,?_,fun j hj=>?_,(by rw[<- ea];exact⟨_,Heap.get?_update_self _ hS' rfl⟩),fun d o q1 q2 q3 q4 q5 e=>up d o q5 (kp d o q1 q2 q3 q4 (Z.kp d o q1 q2 q3 q4 q5 e))⟩
   ·exact(Heap.SameBut.update ..).1.trans sz'
   ·obtain⟨⟨f1,q1⟩,q2,q3,q4,⟨oB,q5⟩⟩:=zr'
    exact⟨⟨f1,up _ _ fS.1.symm q1⟩,up _ _ fS.2.1.symm q2,q3.at fun o e=>up _ o fS.2.2.2.1.symm e,q4.at fun o e=>up _ o fS.2.2.2.2.1.symm e,oB,up _ _ (fun e=>z1a lS 0 e) q5⟩
   ·exact(Z.ha.at fun o e=>kp _ o fa.1 fa.2.1 fa.2.2.1 fa.2.2.2 e).at fun o e=>up _ o fS.2.2.2.2.2.1.symm e
   ·exact(Z.hb.at fun o e=>kp _ o fb.1 fb.2.1 fb.2.2.1 fb.2.2.2 e).at fun o e=>up _ o fS.2.2.2.2.2.2.symm e
   ·by_cases hji:j=i
    ·subst hji
     exact⟨x,y,hx,hy,up _ _ (z1a lS j) pr'⟩
    ·obtain⟨x',y',e1,e2,e3⟩:=Z.ps j (by omega)
     exact⟨x',y',e1,e2,up _ _ (z1a lS j) (kp _ _ (z1a lz.1 j) (z1a lz.2.1 j) (z1a lz.2.2.1 j) (z1a lz.2.2.2 j) e3)⟩
  have hsz:=Z.sz
  rcases Z.zr with ⟨h0',zr⟩ | ⟨h0',zr⟩
  ·subst h0'
   refine z4x D zr Z.ha Z.hb fa fb hx hy fun h' Z' pr' sz' kp=>?_
   rw[hsz]at Z' pr' sz' ⊢
   exact go h' ⟨⟨false,Z'.zr⟩,Z'.pi,Z'.it1,Z'.it2,_,pr'⟩ pr' sz' kp
  ·refine z6j D zr ⟨fun e=>z1a lz.1 0 e,fun e=>z1a lz.2.2.1 0 e,fun e=>z1a lz.2.2.2 0 e⟩ Z.ha Z.hb fa fb hx hy fun h' Z' pr' sz' kp=>?_
   rw[hsz]at pr' sz' ⊢
   exact go h' Z' pr' sz' fun c o q1 _ q3 q4 e=>kp c o q1 q3 q4 e
theorem z9h:typeLookup (.type "zip") "__len__"=pure none:=by rw[typeLookup_type,builtinLookup_eq_fast];kernel_rfl
theorem z7P:typeLookup (.type "zip") "__length_hint__"=pure none:=by rw[typeLookup_type,builtinLookup_eq_fast];kernel_rfl
theorem z6k{E:Value->Shared->Prop}{s:Shared}{Q:Value->Shared->Prop}(hh:A.handled=none)(D:ZipFar z TI TO i1 i2)(Z:ZipRec s.heap k1 k2 z TI TO i1 i2 a b 0 .none)(ha:HasK k1 s.heap a xs)(hb:HasK k2 s.heap b ys)
  (fa:a≠z/\a≠TO/\a≠i1/\a≠i2) (fb:b≠z/\b≠TO/\b≠i1/\b≠i2) (hz:min xs.size ys.size<=sizeLine)
  (hQ:∀ h',(∀ j,j < min xs.size ys.size->∃ x y,xs[j]?=some x/\ys[j]?=some y/\IsPair h' (s.heap.objs.size + 1 + j) x y)->(∃ c,h'.get? s.heap.objs.size=some {cls:=.type "list",data:=.seq ((List.range (min xs.size ys.size)).map fun j=>Value.ref (s.heap.objs.size + 1 + j)).toArray c}) ->
   (∀ c o,c≠z->c≠TO->c≠i1->c≠i2->s.heap.get? c=some o->h'.get? c=some o)->Q (.ref s.heap.objs.size) {s with heap:=h'}):wpAny (model prog w) A (call (.type "list") [.ref z]) Q E s:=by
 have lt:∀ {c:Addr} {o:Obj},s.heap.get? c=some o->LT.lt (α:=Nat) c s.heap.objs.size:=fun e=>Heap.lt_size e
 have ne:∀ {c:Addr} {o:Obj},s.heap.get? c=some o->s.heap.objs.size≠c:=fun e=>Nat.ne_of_gt (Heap.lt_size e)
 obtain⟨o1,e1,_⟩:=Z.it1.get
 obtain⟨o2,e2,_⟩:=Z.it2.get
 obtain⟨u,v,eo⟩:=Z.po
 refine callType_codes (Q₁:=fun obj s₁=>obj=.ref s.heap.objs.size/\s₁={s with heap:=s.heap.push {cls:=.type "list",data:=.seq #[]}}) F.called_list (F.typeCall_list_1 _) F.entry_list_init (code_list_new _ ⟨rfl,rfl⟩) fun obj s₁ h₁=>?_
 obtain⟨rfl,rfl⟩:=h₁
 have up0:∀ c o,s.heap.get? c=some o->(s.heap.push {cls:=.type "list",data:=.seq #[]}).get? c=some o:=fun c o e=>Heap.get?_push_of_some _ e
 have hS:(s.heap.push {cls:=.type "list",data:=.seq #[]}).get? s.heap.objs.size=some {cls:=.type "list",data:=.seq #[]}:=Heap.get?_push_size _ rfl
 refine⟨⟨_,hS,rfl⟩,F.args_list_init_2 _ _,?_⟩
 show wpAny (model prog w) A.in1.in1 (do let old <- Builtin.List.listItems (.ref s.heap.objs.size);Builtin.List.listUpdate (.ref s.heap.objs.size) (fun _=>#[]);letGo old.toList.reverse;Builtin.List.listExtendWith (.ref s.heap.objs.size) (.ref z) .none) _ _ _
 generalize hg0:s.heap.push {cls:=.type "list",data:=.seq #[]}=g0 at hS up0 ⊢
 have n0:g0.objs.size=s.heap.objs.size + 1:=by rw[<- hg0];exact Heap.size_push ..
 refine wpAny_bind ?_
 unfold Builtin.List.listItems
 refine wpAny_bind (wpAny_seqItems hS rfl (wpAny_pure ?_))
 show wpAny (model prog w) A.in1.in1 (updateSeq s.heap.objs.size (fun _=>#[]) >>= fun _=>letGo (#[]:Array Value).toList.reverse >>= fun _=>Builtin.List.listExtendWith (.ref s.heap.objs.size) (.ref z) .none) _ _ _
 refine wpAny_bind (wpAny_updateSeq hS rfl (wpAny_bind (wpAny_letGo ?_)))
 have up1:∀ c o,c≠s.heap.objs.size->g0.get? c=some o->(g0.update s.heap.objs.size (Obj.mapSeq fun _=>(#[]:Array Value))).get? c=some o:=fun c o q e=>(Heap.get?_update_other _ _ (fun h=>q h.symm)).trans e
 have hS1:=Heap.get?_update_self (Obj.mapSeq fun _=>(#[]:Array Value)) hS rfl
 have n1:(g0.update s.heap.objs.size (Obj.mapSeq fun _=>(#[]:Array Value))).objs.size=s.heap.objs.size + 1:=(Heap.SameBut.update ..).1.trans n0
 generalize hg1:g0.update s.heap.objs.size (Obj.mapSeq fun _=>(#[]:Array Value))=g1 at up1 hS1 n1 ⊢
 have zr1:g1.get? z=some _:=up1 _ _ (Ne.symm (ne Z.zr)) (up0 _ _ Z.zr)
 have ty:Shared.TypeIs {s with heap:=g1} (.ref z) "zip":=⟨_,zr1,rfl⟩
 unfold Builtin.List.listExtendWith
 refine wpAny_bind (wpAny_typeOf ty ?_)
 have h1:Builtin.List.listSameRef (.ref s.heap.objs.size) (.ref z)=false:=by simp[Builtin.List.listSameRef,ne Z.zr]
 have h2:(Value.type "zip" == Value.type "list")=false:=by decide
 have h3:(Value.type "zip" == Value.type "tuple")=false:=by decide
 simp only[h1,h2,h3,Bool.or_false,Bool.false_eq_true,if_false]
 refine wpAny_bind (wpAny_pyIter_zip zr1 (wpAny_bind (wpAny_holding ?_)))
 unfold Builtin.List.listLengthHint
 refine wpAny_bind (wpAny_specialOf ty z9h ?_)
 show wpAny (model prog w) A.in1.in1 (specialOf (Value.ref z) (Str.ofString "__length_hint__") >>= _) _ _ _
 refine wpAny_bind (wpAny_specialOf ty z7P (wpAny_pure ?_))
 show wpAny (model prog w) A.in1.in1 (rule "list.extend.makes-room" >>= fun _=>(updateSeq s.heap.objs.size (·.push .none) >>= fun _=>updateSeq s.heap.objs.size (·.pop)) >>= fun _=>again (.builtin "list.extend.loop" ⟨[.ref s.heap.objs.size,.ref z,.none],[]⟩)) _ _ _
 refine wpAny_bind (wpAny_rule (wpAny_bind (wpAny_bind (wpAny_updateSeq hS1 rfl ?_))))
 have hS2:=Heap.get?_update_self (Obj.mapSeq (·.push Value.none)) hS1 rfl
 refine wpAny_updateSeq (s:={s with heap:=g1.update s.heap.objs.size (Obj.mapSeq (·.push Value.none))}) (hz:=by seq_fits) hS2 rfl ?_
 have hS3:=Heap.get?_update_self (Obj.mapSeq (·.pop)) hS2 rfl
 have n3:((g1.update s.heap.objs.size (Obj.mapSeq (·.push Value.none))).update s.heap.objs.size (Obj.mapSeq (·.pop))).objs.size=s.heap.objs.size + 1:=((Heap.SameBut.update ..).1.trans (Heap.SameBut.update ..).1).trans n1
 have up3:∀ c o,c≠s.heap.objs.size->g1.get? c=some o->((g1.update s.heap.objs.size (Obj.mapSeq (·.push Value.none))).update s.heap.objs.size (Obj.mapSeq (·.pop))).get? c=some o:=fun c o q e=>(Heap.get?_update_other _ _ (fun h=>q h.symm)).trans ((Heap.get?_update_other _ _ (fun h=>q h.symm)).trans e)
 generalize (g1.update s.heap.objs.size (Obj.mapSeq (·.push Value.none))).update s.heap.objs.size (Obj.mapSeq (·.pop))=g3 at hS3 n3 up3 ⊢
 have up:∀ c o,s.heap.get? c=some o->g3.get? c=some o:=fun c o e=>up3 c o (Ne.symm (ne e)) (up1 c o (Ne.symm (ne e)) (up0 c o e))
 have bump:∀ {c:Addr} {o:Obj},s.heap.get? c=some o->LT.lt (α:=Nat) c (s.heap.objs.size + 1):=fun e=>Nat.lt_succ_of_lt (lt e)
 refine wpAny_pure ⟨plainId_quiet F.plain_extend_loop _,z9g (k1:=k1) (k2:=k2) (h0:=s.heap) (N:=s.heap.objs.size + 1) (show A.in1.in1.handled=none from hh) D fa fb ⟨ne Z.zr,ne Z.pi,ne eo,ne e1,ne e2,Nat.ne_of_gt ha.lt,Nat.ne_of_gt hb.lt⟩ (Nat.lt_succ_self _) ⟨bump Z.zr,bump eo,bump e1,bump e2⟩ .none hz _ 0 {s with heap:=g3} rfl (Nat.zero_le _) ?_ fun h' q1 q2 q3=>⟨rfl,hQ h' q1 q2 fun c o r1 r2 r3 r4 e=>q3 c o r1 r2 r3 r4 (Ne.symm (ne e)) e⟩⟩
 exact⟨n3,.inl ⟨rfl,up _ _ Z.zr,up _ _ Z.pi,⟨u,v,up _ _ eo⟩,Z.it1.at fun o e=>up _ o e,Z.it2.at fun o e=>up _ o e⟩,ha.at fun o e=>up _ o e,hb.at fun o e=>up _ o e,fun j hj=>absurd hj (Nat.not_lt_zero _),⟨_,hS3⟩,fun c o _ _ _ _ _ e=>up c o e⟩
end
def laid(H:Hp)(N:Addr):List (V × V)->Hp
 | []=>H
 | p::r=>laid (upd H N (.tup [p.1,p.2])) (N + 1) r
theorem z4T{c:Addr}:∀ {l:List (V × V)} {H:Hp} {N:Addr},(∀ j,j < l.length->N + j≠c)->laid H N l c=H c
 | [],_,_,_=>rfl
 | p::r,H,N,h=>by
  rw[laid,z4T (l:=r) fun j hj=>by have:=h (j + 1) (by simpa using hj);rwa [show N + 1 + j=N + (j + 1) from by rw[Nat.add_assoc,Nat.add_comm 1 j]],zd (show c≠N from fun e=>h 0 (by simp) e.symm)]
theorem zal:∀ {l:List (V × V)} {H:Hp} {N:Addr} {j:Nat} {p:V × V},l[j]?=some p->laid H N l (N + j)=some (.tup [p.1,p.2])
 | [],_,_,_,_,h=>by simp at h
 | q::r,H,N,0,p,h=>by
  cases h
  rw[laid,z4T (l:=r) fun j _ e=>by have e':(N + 1 + j:Nat)=N + 0:=e;exact absurd e' (Nat.ne_of_gt (by omega))]
  exact ze
 | q::r,H,N,j + 1,p,h=>by
  rw[laid,show N + (j + 1)=N + 1 + j from by rw[Nat.add_assoc,Nat.add_comm 1 j]]
  exact zal (l:=r) (by simpa using h)
section
variable {X:Cx} {pins:List (Addr × Obj)} {σ:St} {s:Shared}
theorem Inv.pairs{m:Addr}(hm:X.s₀.heap.objs.size<=m):∀ {l:List (V × V)} {H:Hp} {N:Addr},Inv X pins σ H s->LE.le (α:=Nat) m N->(∀ j,j < l.length->FpOk X pins H (N + j))->(∀ j p,l[j]?=some p->∃ u v,RelV p.1 u/\RelV p.2 v/\IsPair s.heap (N + j) u v)->Inv X pins σ (L2.laid H N l) s
 | [],_,_,I,_,_,_=>I
 | p::r,H,N,I,hN,hf,ho=>by
  have f:=hf 0 (by simp)
  obtain⟨u,v,r1,r2,pr⟩:=ho 0 p rfl
  have I1:Inv X pins σ (upd H N (.tup [p.1,p.2])) s:=I.track (t':=s.toks) f.1 f.2.1 (Nat.le_trans hm hN) f.2.2.2.2.1 f.2.2.2.2.2 ⟨by show 2<=sizeLine;decide,[u,v],.cons r1 (.cons r2 .nil),⟨_,pr,rfl,_,rfl⟩⟩
  rw[L2.laid]
  refine Inv.pairs hm (l:=r) I1 (Nat.le_succ_of_le hN) (fun j hj=>?_) fun j q hq=>?_
  ·have g:=hf (j + 1) (by simpa using hj)
   rw[show N + (j + 1)=N + 1 + j from by rw[Nat.add_assoc,Nat.add_comm 1 j]]at g
   refine⟨?_,g.2⟩
   rw[zd (show N + 1 + j≠N from(Nat.ne_of_gt (Nat.lt_of_lt_of_le (Nat.lt_succ_self N) (Nat.le_add_right _ _)):(N + 1 + j:Nat)≠N))]
   exact g.1
  ·have g:=ho (j + 1) q (by simpa using hq)
   rwa [show N + (j + 1)=N + 1 + j from by rw[Nat.add_assoc,Nat.add_comm 1 j]]at g
end
def tLZip(K:PySem.W.Frag)(ta:TA):TE:=fun σ H Q=>ta σ H fun vs H1=>∃ k1 k2 a b xs ys,vs=[.ref a,.ref b]/\SqK k1 K H1 a xs/\SqK k2 K H1 b ys /\
 ∀ N S:Addr,(∀ j,H1 (N + j)=none)->H1 S=none->(∀ j,N + j≠S)->Q (.ref S) (upd (laid H1 N (xs.zip ys)) S (.lst ((List.range (xs.zip ys).length).map fun j=>V.ref (N + j))))
theorem zdn{X:Cx}{a b:Expr}{ta:TA}{p pos p2 pos2:Pos}(hc:X.calm=true)(hg:Gl X "list")(hm:X.mg "list"=none)(hg2:Gl X "zip")(hm2:X.mg "zip"=none)(ha:PA X [a,b] ta)
  (hs:starEach [.Call (.Name "zip" p2) [a,b] [] pos2] X.env=(false,eval (.Call (.Name "zip" p2) [a,b] [] pos2) X.env)::starEach [] X.env:=by rfl)
  (hs2:starEach [a,b] X.env=[(false,eval a X.env),(false,eval b X.env)]:=by rfl) (hs3:starEach [b] X.env=[(false,eval b X.env)]:=by rfl):PE X (.Call (.Name "list" p) [.Call (.Name "zip" p2) [a,b] [] pos2] [] pos) (tLZip X.K ta):=by
 intro pins s σ H Q I h
 refine Call_ (z3S I hg hm (u:=.type "list") rfl (PyProof.Rows.callWith_type1 ?_ hs rfl))
 rw[hs]
 refine Calls.spliced_cons (s:=s) ?_
 refine Call_ (z3S I hg2 hm2 (u:=.type "zip") rfl (PyProof.Rows.callWith_type1 (thn (ha pos2 pins s σ H _ I h) fun us s1 zhM=>?_) (by rw[hs2,hs3]) (by rw[hs3];rfl)))
 obtain⟨vs,H1,I1,r1,q1⟩:=zhM
 obtain⟨k1,k2,a,b,xs,ys,e,sa,sb,q⟩:=q1
 subst e
 obtain⟨u,v,rfl,ru,rv⟩:=vals2 r1
 cases (show u=Value.ref a from ru)
 cases (show v=Value.ref b from rv)
 obtain⟨ia,ra,ha',za⟩:=I1.hasK sa
 obtain⟨ib,rb,hb',zb⟩:=I1.hasK sb
 refine z72 ha' hb' fun h' Z kp=>Calls.spliced_nil ?_
 have la:LT.lt (α:=Nat) a s1.heap.objs.size:=ha'.lt
 have lb:LT.lt (α:=Nat) b s1.heap.objs.size:=hb'.lt
 have D:ZipFar (s1.heap.objs.size + 4) (s1.heap.objs.size + 2) (s1.heap.objs.size + 3) s1.heap.objs.size (s1.heap.objs.size + 1):=by constructor <;> (intro e;have e':(_:Nat)=_:=e;omega)
 have fa:∀ {c:Addr},LT.lt (α:=Nat) c s1.heap.objs.size->c≠s1.heap.objs.size + 4/\c≠s1.heap.objs.size + 3/\c≠s1.heap.objs.size/\c≠s1.heap.objs.size + 1:=fun hlt=>by refine⟨?_,?_,?_,?_⟩ <;> (intro e;have e':(_:Nat)=_:=e;omega)
 have big:LT.lt (α:=Nat) s1.heap.objs.size h'.objs.size:=Nat.lt_of_le_of_lt (Nat.le_add_right _ 4) (Heap.lt_size Z.zr)
 refine z6k (s:={s1 with heap:=h'}) (I1.ok.hd hc) D Z (ha'.at fun o e=>kp _ o e) (hb'.at fun o e=>kp _ o e) (fa la) (fa lb) ?_ fun h2 ps ls k2=>?_
 ·rw[List.size_toArray,<- ra.length];exact Nat.le_trans (Nat.min_le_left _ _) za
 have mn:min ia.toArray.size ib.toArray.size=(xs.zip ys).length:=by rw[List.length_zip,List.size_toArray,List.size_toArray,<- ra.length,<- rb.length]
 rw[mn]at ps ls
 have kp2:∀ c o,s1.heap.get? c=some o->h2.get? c=some o:=fun c o e=>k2 c o (fa (Heap.lt_size e)).1 (fa (Heap.lt_size e)).2.1 (fa (Heap.lt_size e)).2.2.1 (fa (Heap.lt_size e)).2.2.2 (kp c o e)
 have I3:Inv X pins σ H1 {s1 with heap:=h2}:=I1.kept (t':=s1.toks) kp2
 have fN:∀ j,LE.le (α:=Nat) s1.heap.objs.size (h'.objs.size + 1 + j):=fun j=>by omega
 have fp:∀ j,FpOk X pins H1 (h'.objs.size + 1 + j):=fun j=>I1.fpOk (fN j) (I1.hok.fresh (fN j))
 have hS:=I1.hok.fresh (Nat.le_of_lt big)
 have fS:=I1.fpOk (Nat.le_of_lt big) hS
 have nS:∀ j,h'.objs.size + 1 + j≠h'.objs.size:=fun j=>(Nat.ne_of_gt (by omega):(h'.objs.size + 1 + j:Nat)≠h'.objs.size)
 have I4:=Inv.pairs (X:=X) (pins:=pins) (σ:=σ) (l:=xs.zip ys) (N:=h'.objs.size + 1) I1.sz I3 (Nat.le_succ_of_le (Nat.le_of_lt big)) (fun j _=>fp j) fun j pr hj=>by
  obtain⟨x,y,e1,e2,e3⟩:=ps j (List.getElem?_eq_some_iff.mp hj).1
  obtain⟨h1,h2'⟩:=List.getElem?_zip_eq_some.mp hj
  obtain⟨u1,g1,r1⟩:=ra.get h1
  obtain⟨u2,g2,r2⟩:=rb.get h2'
  have e1':ia[j]?=some x:=by simpa using e1
  have e2':ib[j]?=some y:=by simpa using e2
  rw[g1]at e1'
  rw[g2]at e2'
  cases e1'
  cases e2'
  exact⟨_,_,r1,r2,e3⟩
 obtain⟨cc,hl⟩:=ls
 have I5:=I4.track (D:=h'.objs.size) (o:=.lst ((List.range (xs.zip ys).length).map fun j=>V.ref (h'.objs.size + 1 + j))) (t':=s1.toks) (by rw[z4T fun j _=>nS j];exact hS) fS.2.1 (Nat.le_trans I1.sz (Nat.le_of_lt big)) fS.2.2.2.2.1 fS.2.2.2.2.2
  ⟨by rw[List.length_map,List.length_range,List.length_zip];exact Nat.le_trans (Nat.min_le_left _ _) za,(List.range (xs.zip ys).length).map fun j=>Value.ref (h'.objs.size + 1 + j),cc,?_,hl⟩
 ·exact⟨.ref h'.objs.size,_,I5,rfl,q (h'.objs.size + 1) h'.objs.size (fun j=>(fp j).1) hS nS⟩
 ·generalize List.range (xs.zip ys).length=rr
  induction rr with
  | nil=>exact .nil
  | cons j r ih=>exact .cons rfl ih
end L2
namespace L2
open PySem PySem.Spec PyProof.Rows
section
variable {M:Model} {A:Around} {E:Value->Shared->Prop} {s:Shared} {base:Heap} {env:Env} {outer:List Env} {L e:Addr} {oe:Obj} {vs:Array Value} {Q:Unit->Shared->Prop}
end
section
variable {M:Model} {A:Around} {E:Value->Shared->Prop} {s:Shared} {base:Heap} {env:Env} {outer:List Env} {L e T0:Addr} {oe:Obj} {vs:Array Value} {cls:Value} {Q:Unit->Shared->Prop}
end
section
variable {X:Cx} {pins:List (Addr × Obj)} {σ:St} {H:Hp} {s:Shared} {h':Heap} {e:Addr} {cls:Value} {args:List Value} {E:XK} {E':Value->Shared->Prop}
end
section
variable {X:Cx} {x z:Str} {C:Addr} {B newId initId:String} {bmB:List Value} {np cpos pos p2:Pos} {j:Nat}
end
section
variable {X:Cx} {pins:List (Addr × Obj)} {σ:St} {H:Hp} {h3:Heap} {s':Shared} {a T C':Addr} {cls:Value} {c n y:Str} {ie iy:Nat} {np p1 p2 p3 pos:Pos} {Q:Flow->Shared->Prop} {E':Value->Shared->Prop}
end
section
variable {X:Cx} {k ie iy:Nat} {f C C':Addr} {fd:FuncData} {ps:List Str} {sp:Sp} {x c n y:Str} {p cpos xpos np p1 p2 p3 pos1 pos:Pos} {e:Expr} {es:List Expr} {t:TA}
end
section
variable {prog:Program} {w:World} {A:Around} {E:Value->Shared->Prop} {s:Shared} {K:PySem.W.Frag} {x D:Addr}
open PySem.W in
open PySem.W in
end
end L2
namespace L2
open PySem PySem.Spec PyProof.Rows
def compCxC(X:Cx)(scope:Scope)(cl:List (Str × Addr))(N:List Str)(x0:Str)(C:Addr)(s:Shared)(H:Hp)(ex:List Addr):Cx:={compCx X scope ((x0,C + 1)::cl) N C s H ex with fn:=fun x=>x == x0}
structure CompOkC(X:Cx)(scope:Scope)(cl:List (Str × Addr))(N:List Str)(k:Nat)(fr:List Nat)(x0:Str):Prop where
 kind:scope.kind=.function
 names:∀ y∈scope.names,y.2=.local->scope.names.lookup y.1=some .local
 lay:∀ n acc,cellsFrom n scope.names acc=(x0,n)::acc
 push:∀ h,pushCells h scope.names=h.push {cls:=.type "cell",data:=.cell none}
 clos:closureFor scope X.env=pure cl
 sub:∀ x c,cl.lookup x=some c->X.env.cells.lookup x=some c
 has:∀ x,x≠x0->((relabel scope X.env).names.lookup x=some .cell\/(relabel scope X.env).names.lookup x=some .free)->∃ c,cl.lookup x=some c
 len:N.length=k + fr.length
 free:∀ (t j:Nat) (x:Str),fr[t]?=some j->N[k + t]?=some x->x≠x0/\X.N[j]?=some x/\Vis X.env.scope x/\(∃ c,cl.lookup x=some c)/\((relabel scope X.env).names.lookup x=some .cell\/(relabel scope X.env).names.lookup x=some .free)/\¬ X.env.scope.names.lookup x=some .local
theorem z7Q{M:Model}{A:Around}{E:Value->Shared->Prop}{s:Shared}{scope:Scope}{globals:Addr}{closure:List (Str × Addr)}{qual:Str}{around:Env}{x0:Str}{Q:Env->Shared->Prop}
  (lay:∀ n acc,cellsFrom n scope.names acc=(x0,n)::acc) (push:∀ h,pushCells h scope.names=h.push {cls:=.type "cell",data:=.cell none})
  (hQ:Q (newEnv scope s.heap.objs.size globals ((x0,s.heap.objs.size + 1)::closure) qual none .none (some around) builtinsNs) {s with heap:=(s.heap.push {cls:=.type "dict",data:=.dict #[]}).push {cls:=.type "cell",data:=.cell none}}) :
  wpAny M A (newFunctionEnv scope globals closure [] qual none .none (some around)) Q E s:=by
 simp only[newFunctionEnv,Option.isSome_some,if_true]
 refine wpAny_bind (wpAny_alloc ?_)
 refine wpAny_bind (wpAny_layCells _ (fun name kind cells=>by cases hkc:kind == NameKind.cell <;> simp[hkc]) _ _ _ _ ?_)
 rw[lay,push]
 rw[show({s with heap:=s.heap.push {cls:=.type "dict",data:=.dict #[]}}:Shared).heap.objs.size=s.heap.objs.size + 1 from Heap.size_push ..]
 rw[List.forIn_nil]
 exact wpAny_bind (wpAny_pure (wpAny_pure hQ))
section
variable {X:Cx} {pins:List (Addr × Obj)} {σ:St} {H:Hp} {s:Shared}
theorem z7R{tg iter elt:Expr}{ifs:List Expr}{scope:Scope}{cl:List (Str × Addr)}{N:List Str}{k:Nat}{fr:List Nat}{x0:Str}{pos:Pos}{g:TG}{tt:TT}{te:TE}
  {F:List V->Hp->Prop} {RR:Value->Addr->Result->Shared->Prop} {it D C:Addr} {fp:List Addr} {tn:Nat->Heap->Prop} {J:It} {H1:Hp} {h3 h₁:Heap}
  (ok:CompOkC X scope cl N k fr x0) (hc:X.calm=true)
  (hg:∀ C s H ex,PG (compCxC X scope cl N x0 C s H ex) tg g) (ht:∀ C s H ex,PIfs (compCxC X scope cl N x0 C s H ex) ifs tt) (he:∀ C s H ex,PE (compCxC X scope cl N x0 C s H ex) elt te)
  (hRR:CompRR X pins σ F RR) (I:Inv X pins σ H1 s) (T:Turn X.prog X.w X.K tg J fp it tn) (st0:tn 0 s.heap) (hf:∀ b∈fp,FpOk X pins H1 b) (hw:CompW J g tt te (compSt k fr σ) H1 F)
  (hD:s.heap.objs.size=D) (hp3:s.heap.push {cls:=.type "list",dict:=none,data:=.seq ([]:List Value).toArray}=h3) (hC:h3.objs.size=C)
  (hh₁:(h3.push {cls:=.type "dict",data:=.dict #[]}).push {cls:=.type "cell",data:=.cell none}=h₁) :
  codeAny (model X.prog X.w) X.A (.compStart (.ListComp elt [⟨tg,iter,ifs,0⟩] scope pos) 0 (.ref it) (.ref D) {newEnv scope C X.env.globals ((x0,C + 1)::cl) X.env.qual none .none (some X.env) builtinsNs with scope:=relabel scope X.env}) (RR (.ref D) C) {s with heap:=h₁}:=by
 obtain⟨W,⟨m0,w0⟩,turn⟩:=hw
 have DF:H1 D=none:=I.hok.fresh (by rw[hD];exact Nat.le_refl _)
 have hDfp:=I.fpOk (b:=D) (by rw[hD];exact Nat.le_refl _) DF
 have up3:∀ b u,s.heap.get? b=some u->h3.get? b=some u:=fun b u e=>by rw[<- hp3];exact Heap.get?_push_of_some _ e
 have I3:Inv X pins σ H1 {s with heap:=h3}:=I.kept (t':=s.toks) up3
 have hD3:h3.get? D=some {cls:=.type "list",dict:=none,data:=.seq ([]:List Value).toArray}:=by rw[<- hD,<- hp3];exact Heap.get?_push_size _ rfl
 have sz3:C=D + 1:=by rw[<- hC,<- hp3,Heap.size_push,hD]
 have CF:H1 C=none:=I3.hok.fresh (by show h3.objs.size<=C;rw[hC];exact Nat.le_refl _)
 have hCfp:FpOk X pins H1 C:=I3.fpOk (b:=C) (by show h3.objs.size<=C;rw[hC];exact Nat.le_refl _) CF
 have CD:C≠D:=by rw[sz3];exact Nat.ne_of_gt (Nat.lt_succ_self _)
 have up1:∀ b u,h3.get? b=some u->h₁.get? b=some u:=fun b u e=>by rw[<- hh₁];exact Heap.get?_push_of_some _ (Heap.get?_push_of_some _ e)
 have hns₁:h₁.Ns C fun _=>none:=by
  rw[<- hh₁,<- hC]
  exact(Heap.Ns.new h3 (.type "dict")).keeps fun b o e=>Heap.get?_push_of_some _ e
 have szd:(h3.push {cls:=.type "dict",data:=.dict #[]}).objs.size=C + 1:=by rw[Heap.size_push,hC]
 have cellC:h₁.IsCell (C + 1) none:=by rw[<- hh₁,<- szd];exact⟨_,Heap.get?_push_size _ rfl,rfl⟩
 have CcF:H1 (C + 1)=none:=I3.hok.fresh (by show h3.objs.size<=C + 1;rw[hC];exact Nat.le_succ _)
 have lk0:((x0,C + 1)::cl).lookup x0=some (C + 1):=by simp
 have lkn:∀ x,x≠x0->((x0,C + 1)::cl).lookup x=cl.lookup x:=fun x hx=>by
  rw[List.lookup_cons,show(x == x0)=false from beq_eq_false_iff_ne.mpr hx]
 have lkc:∀ x c,((x0,C + 1)::cl).lookup x=some c->(x=x0/\c=C + 1)\/(x≠x0/\cl.lookup x=some c):=fun x c e=>by
  by_cases hx:x=x0
  ·subst hx;rw[lk0]at e;cases e;exact .inl ⟨rfl,rfl⟩
  ·rw[lkn x hx]at e;exact .inr ⟨hx,e⟩
 have old:∀ x c,cl.lookup x=some c->c≠C + 1:=fun x c e z=>by
  obtain⟨v,o,eo,_⟩:=I3.cell x c (ok.sub x c e)
  have hlt:=Heap.lt_size eo
  have hlt':c < h3.objs.size:=hlt
  rw[hC,z]at hlt'
  exact Nat.lt_irrefl _ (Nat.lt_trans (Nat.lt_succ_self C) hlt')
 have hfb:∀ b∈fp,b < D:=fun b hb=>by
  obtain⟨o,e,_⟩:=T.obj 0 _ st0 b hb
  have:=Heap.lt_size e
  rw[hD]at this;exact this
 let s3:Shared:={s with heap:=h3}
 let Y:Cx:=compCxC X scope cl N x0 C s3 H1 (D::fp)
 have yok:Y.Ok:={
  mod:=I.ok.mod
  kind:=ok.kind
  glob:=I.ok.glob
  blt:=I.ok.blt
  above:=by show h3.objs.size<=C;rw[hC];exact Nat.le_refl _
  inj:=fun x y c e1 e2=>by
   rcases lkc x c e1 with ⟨rfl,z1⟩ | ⟨_,z1⟩ <;> rcases lkc y c e2 with ⟨rfl,z2⟩ | ⟨_,z2⟩
   ·rfl
   ·exact absurd z1 (old y c z2)
   ·exact absurd z2 (old x c z1)
   ·exact I.ok.inj x y c (ok.sub x c z1) (ok.sub y c z2)
  has:=fun x hx=>by
   by_cases h0:x=x0
   ·exact⟨C + 1,by rw[h0];exact lk0⟩
   ·obtain⟨c,e⟩:=ok.has x h0 hx
    exact⟨c,(lkn x h0).trans e⟩
  cab:=fun x c e e2=>by
   have hx:x=x0:=beq_iff_eq.mp e
   subst hx
   have e3:((x,C + 1)::cl).lookup x=some c:=e2
   rw[lk0]at e3
   cases e3
   show h3.objs.size<=C + 1
   rw[hC];exact Nat.le_succ _
  hd:=fun _=>I.ok.hd hc
  frames:=I.ok.frames
  stk:=.inl rfl
  exf:=fun b hb=>by
   rcases List.mem_cons.mp hb with rfl | hb
   ·exact⟨Ne.symm CD,fun x c e=>by
     rcases lkc x c e with ⟨_,z⟩ | ⟨_,z⟩
     ·rw[z,sz3];exact Nat.ne_of_gt (Nat.lt_trans (Nat.lt_succ_self _) (Nat.lt_succ_self _))
     ·exact hDfp.2.2.2.2.1 x c (ok.sub x c z)⟩
   ·exact⟨fun z=>by have q:=hfb b hb;have z':b=C:=z;rw[z',sz3]at q;exact absurd q (Nat.not_lt.mpr (Nat.le_succ _)),fun x c e=>by
     rcases lkc x c e with ⟨_,z⟩ | ⟨_,z⟩
     ·have q:=hfb b hb;rw[z,sz3];exact Nat.ne_of_gt (Nat.lt_trans q (Nat.lt_trans (Nat.lt_succ_self _) (Nat.lt_succ_self _)))
     ·exact(hf b hb).2.2.2.2.1 x c (ok.sub x c z)⟩
  bs:=fun b o e=>⟨(I3.bs b o e).1,(I3.bs b o e).2⟩
  bsz:=Nat.le_trans I.ok.bsz I3.sz
  noex:=fun b o e hb=>by
   rcases List.mem_cons.mp hb with rfl | hb
   ·have e1:=(I.bs b o e).1
    have:=Heap.lt_size e1
    rw[hD]at this
    exact Nat.lt_irrefl _ this
   ·rcases(hf b hb).2.2.2.1 with z | z
    ·exact I.ok.noex b o e z
    ·exact absurd (Nat.lt_of_lt_of_le (Heap.lt_size e) (Nat.le_trans I.ok.bsz z)) (Nat.lt_irrefl _)
  exfs:=fun b hb hb2=>by
   rcases List.mem_cons.mp hb with rfl | hb
   ·rcases List.mem_cons.mp (I.stkSub b hb2) with z | z
    ·exact hDfp.2.1 z
    ·exact hDfp.2.2.1 z
   ·rcases List.mem_cons.mp (I.stkSub b hb2) with z | z
    ·exact(hf b hb).2.1 z
    ·exact(hf b hb).2.2.1 z
  funs:=I3.stack
  frf:=I.stkFree}
 have neC:∀ b u,h3.get? b=some u->b≠C:=fun b u e=>Nat.ne_of_lt (by have:=Heap.lt_size e;rw[hC]at this;exact this)
 have IY:Inv Y [] (compSt k fr σ) H1 {s3 with heap:=h₁}:={
  ok:=yok
  os:=rfl
  bare:=I.bare
  base:=Un.kept up1
  loc:=by
   obtain⟨m,hn,hl⟩:=I3.loc
   refine⟨_,hns₁,fun i x v e1 e2 e3=>?_⟩
   obtain⟨t,j,rfl,e4,e5⟩:=z5a e2
   obtain⟨nx,e6,e7,⟨c,e8⟩,e9,e10⟩:=ok.free t j x e4 e1
   obtain⟨u,ru,lk⟩:=hl j x v e6 e5 e7
   refine⟨u,ru,?_⟩
   rcases lk with ⟨z,_⟩ | ⟨_,c',e11,o,eo,ed⟩
   ·exact absurd z e10
   ·rw[ok.sub x c e8]at e11;cases e11
    exact .inr ⟨e9,c,(lkn x nx).trans e8,o,up1 _ _ eo,ed⟩
  cell:=fun x c e=>by
   rcases lkc x c e with ⟨_,z⟩ | ⟨_,z⟩
   ·rw[z];exact⟨_,cellC⟩
   ·obtain⟨v,o,eo,ed⟩:=I3.cell x c (ok.sub x c z)
    exact⟨v,o,up1 _ _ eo,ed⟩
  free:=CF
  freeC:=fun x c e=>by
   rcases lkc x c e with ⟨_,z⟩ | ⟨_,z⟩
   ·rw[z];exact CcF
   ·exact I3.freeC x c (ok.sub x c z)
  pin:=fun p hp=>nomatch hp
  hok:=I3.hok.kept up1
  len:=by rw[z62];exact ok.len.symm}
 have DY:D≠Y.env.locals:=Ne.symm CD
 have DYf:D ∉ Y.fs:=yok.exfs D List.mem_cons_self
 have Dfp:D ∉ fp:=fun z=>Nat.lt_irrefl _ (hfb D z)
 have pinD:∀ {σ':St} {H':Hp} {s':Shared} {its:List Value} {n:Nat},Inv Y [] σ' H' s'->H' D=none->s'.heap.get? D=some {cls:=.type "list",data:=.seq its.toArray n} ->
   Inv Y [(D,{cls:=.type "list",data:=.seq its.toArray n})] σ' H' s':=fun{σ' H' s' its n} J0 hn e=>J0.pins_of fun p hp=>by
  rcases List.mem_cons.mp hp with rfl | hp
  ·exact⟨e,hn,DY,DYf,fun v z=>nomatch z⟩
  ·exact nomatch hp
 have ffY:∀ {o:Obj} {H':Hp},(∀ b∈fp,H' b=none)->∀ b∈fp,FpOk Y [(D,o)] H' b:=fun{o H'} hn b hb =>
  ⟨hn b hb,(yok.exf b (List.mem_cons_of_mem _ hb)).1,yok.exfs b (List.mem_cons_of_mem _ hb),.inl (List.mem_cons_of_mem _ hb),(yok.exf b (List.mem_cons_of_mem _ hb)).2,fun p hp=>by
   have hp':p∈([]:List (Addr × Obj))++[(D,o)]:=hp
   have e:p=(D,o):=by simpa using hp'
   rw[e];exact fun z=>Dfp (by have z':D=b:=z;rw[z'];exact hb)⟩
 have loop:codeAny (model X.prog X.w) X.A (.compLoop (.ListComp elt [⟨tg,iter,ifs,0⟩] scope pos) 0 (.ref it) (.ref D) (compEnvC scope ((x0,C + 1)::cl) C X.env)) (RR (.ref D) C)
   {s3 with heap:=h₁}:=by
  refine codeAny_loop rfl (CompI Y (compSt k fr σ) tn fp D W) ?_ m0
   ⟨0,[],[],0,H1,IY,?_,fun b hb=>(hf b hb).1,DF,?_,.nil,w0⟩
  ·rintro n s4 ⟨i,ys,its,nn,H4,I4,st4,fr4,D4,e4,v4,w4⟩
   have P4:=pinD I4 D4 e4
   show wpAny _ X.A ((compTurn (.ListComp elt [⟨tg,iter,ifs,0⟩] scope pos) 0 (.ref it) (.ref D) (compEnvC scope ((x0,C + 1)::cl) C X.env)).onRaise (fun x=>do noteFrame x (compEnvC scope ((x0,C + 1)::cl) C X.env);theTreesLotGoes x)) _ _ s4
   refine wpAny_noted ?_
   rw[compTurn_list]
   refine wpAny_bind (wpAny_standAt (wpAny_bind ?_))
   rcases turn i n ys H4 w4 with ⟨stop,fin⟩ | ⟨go,small,step⟩
   ·refine wpAny_mono (T.done Y rfl rfl rfl hc i _ s4 _ H4 (fun _ _=>False) P4 (ffY fr4) st4 stop) (fun r s5 ⟨hr,I5⟩=>?_) fun _ _ z=>z.elim
    subst hr
    refine wpAny_pure ?_
    have e5:=(I5.pin _ (List.mem_cons_self)).1
    have fin5:Inv X pins σ H4 s5:=I3.call' (ch:=D::fp) I5.os I5.base I5.hok I5.bare fun b hb=>by
     rcases List.mem_cons.mp hb with rfl | hb
     ·exact⟨hDfp.2.2.2.1,hDfp.2.1,hDfp.2.2.2.2.1,hDfp.2.2.2.2.2⟩
     ·exact⟨(hf b hb).2.2.2.1,(hf b hb).2.1,(hf b hb).2.2.2.2.1,(hf b hb).2.2.2.2.2⟩
    obtain⟨m5,n5,_⟩:=I5.loc
    have szD:X.s₀.heap.objs.size<=D:=by have:=I.sz;rw[hD]at this;exact this
    have szC:X.s₀.heap.objs.size<=C:=by rw[sz3];exact Nat.le_succ_of_le szD
    exact hRR D C ys its nn H4 m5 s5 fin5 D4 szD hDfp.2.1 hDfp.2.2.2.2.1 hDfp.2.2.2.2.2 e5 v4 n5 I5.free szC hCfp.2.1 hCfp.2.2.2.2.1 hCfp.2.2.2.2.2 CD fin
   ·refine wpAny_mono (T.item Y rfl rfl rfl hc i _ s4 _ H4 (fun _ _=>False) P4 (ffY fr4) st4 go) (fun r s5 ⟨u,hr,h5⟩=>?_) fun _ _ z=>z.elim
    subst hr
    refine wpAny_bind (wpAny_mono h5 (fun _ s6 zhN=>?_) fun _ _ z=>z.elim)
    obtain⟨x,H6,I6,r6,y6,st6,fr6⟩:=zhN
    have I6':=I6.pinned (ffY fr6) (T.obj _ _ st6)
    refine wpAny_bind (wpAny_mono (hg C s3 H1 (D::fp) _ s6 _ H6 x u _ I6' r6 (step x H6 y6)) (fun _ s7 zhO=>?_) fun _ _ z=>z.elim)
    obtain⟨σ7,H7,I7,f7,q7⟩:=zhO
    refine wpAny_bind (wpAny_mono (ht C s3 H1 (D::fp) _ s7 σ7 H7 _ I7 q7) (fun b s8 zhP=>?_) fun _ _ z=>z.elim)
    obtain⟨H8,I8,q8⟩:=zhP
    have keep:∀ {s9:Shared} {H9:Hp},Inv Y ([(D,{cls:=.type "list",data:=.seq its.toArray nn})]++pinsAt fp s6.heap) σ7 H9 s9->tn (i + 1) s9.heap/\(∀ b∈fp,H9 b=none)/\H9 D=none/\s9.heap.get? D=some {cls:=.type "list",data:=.seq its.toArray nn}/\Inv Y [] (compSt k fr σ) H9 s9:=fun{s9 H9} I9=>by
     refine⟨T.keep _ _ _ st6 fun b hb o e=>(I9.pin (b,o) (List.mem_append_right _ (List.mem_append_right _ (z1X hb e)))).1,fun b hb=>?_,?_,?_,?_⟩
     ·obtain⟨o,e,d⟩:=T.obj _ _ st6 b hb
      exact(I9.pin (b,o) (List.mem_append_right _ (List.mem_append_right _ (z1X hb e)))).2.1
     ·exact(I9.pin _ (List.mem_append_right _ (List.mem_append_left _ List.mem_cons_self))).2.1
     ·exact(I9.pin _ (List.mem_append_right _ (List.mem_append_left _ List.mem_cons_self))).1
     ·exact(I9.pins_of (pins':=[]) fun p hp=>nomatch hp).weak f7.1.symm f7.2
    cases b with
    | false =>
     have q8:∃ m',m' < n/\W (i + 1) m' ys H8:=by simpa using q8
     obtain⟨m',hm,w8⟩:=q8
     obtain⟨a1,a2,a3,a4,a5⟩:=keep I8
     exact wpAny_pure ⟨rfl,m',hm,i + 1,ys,its,nn,H8,a5,a1,a2,a3,a4,v4,w8⟩
    | true =>
     have q8:te σ7 H8 fun y H4=>∃ m',m' < n/\W (i + 1) m' (ys++[y]) H4:=by simpa using q8
     refine wpAny_bind (wpAny_bind (wpAny_mono (he C s3 H1 (D::fp) _ s8 σ7 H8 _ I8 q8) (fun yv s9 zhQ=>?_) fun _ _ z=>z.elim))
     obtain⟨y,H9,I9,r9,m',hm,w9⟩:=zhQ
     obtain⟨a1,a2,a3,a4,a5⟩:=keep I9
     refine wpAny_bind (append_at (hsz:=by rw[List.size_toArray,<- v4.length];exact Nat.le_of_lt small) a4 fun h' hs' e'=>?_)
     refine wpAny_pure (wpAny_pure ⟨rfl,m',hm,i + 1,ys++[y],its++[yv],nn + 1,H9,?_,?_,a2,a3,?_,v4.append (.cons r9 .nil),w9⟩)
     ·exact a5.turned (t':=s9.toks) (fun b o hb e=>hs'.extBut b o hb e) a3 DY (.inl List.mem_cons_self) (yok.exf D List.mem_cons_self).2 fun p hp=>nomatch hp
     ·exact T.keep _ _ _ a1 fun b hb o e=>hs'.extBut b o (fun z=>Dfp (by rw[<- z];exact hb)) e
     ·show h'.get? D=_
      rw[e']
      simp
  ·exact T.keep 0 _ _ st0 fun b hb o e=>up1 _ _ (up3 _ _ e)
  ·exact up1 _ _ hD3
 exact codeAny_compStart_list loop (T.self _ 0 _ _ _ (T.keep 0 _ _ st0 fun b hb o e=>up1 _ _ (up3 _ _ e)) loop)
theorem z9i{tg iter elt:Expr}{ifs:List Expr}{scope:Scope}{cl:List (Str × Addr)}{N:List Str}{k:Nat}{fr:List Nat}{x0:Str}{pos:Pos}{g:TG}{tt:TT}{te:TE}{itv:Value}{E:Value->Shared->Prop}
  {F:List V->Hp->Prop} {RR:Value->Addr->Result->Shared->Prop}
  (ok:CompOkC X scope cl N k fr x0) (hc:X.calm=true)
  (hg:∀ C s H ex,PG (compCxC X scope cl N x0 C s H ex) tg g) (ht:∀ C s H ex,PIfs (compCxC X scope cl N x0 C s H ex) ifs tt) (he:∀ C s H ex,PE (compCxC X scope cl N x0 C s H ex) elt te)
  (h:PIE X pins σ tg (fun J H1=>CompW J g tt te (compSt k fr σ) H1 F) itv s)
  (hRR:CompRR X pins σ F RR) :
  wpAny (model X.prog X.w) X.A (newList []) (fun acc s₃=>wpAny (model X.prog X.w) X.A (newFunctionEnv scope X.env.globals cl [] X.env.qual none .none (some X.env)) (fun cenv s₄ =>
   codeAny (model X.prog X.w) X.A (.compStart (.ListComp elt [⟨tg,iter,ifs,0⟩] scope pos) 0 itv acc {cenv with scope:=relabel scope X.env}) (RR acc cenv.locals) s₄) E s₃) E s:=by
 obtain⟨it,fp,tn,J,H1,rfl,I,T,st0,hf,hw⟩:=h
 exact wpAny_newObj_type (z7Q ok.lay ok.push (z7R (s:=s) (h3:=s.heap.push {cls:=.type "list",dict:=none,data:=.seq ([]:List Value).toArray}) ok hc hg ht he hRR I T st0 hf hw rfl rfl rfl rfl))
theorem zbG{i:Nat}{x:Str}{py spos:Pos}{tg iter elt:Expr}{ifs:List Expr}{scope:Scope}{cl:List (Str × Addr)}{N:List Str}{k:Nat}{fr:List Nat}{x0:Str}{pos:Pos}{wi:TI}{g:TG}{tt:TT}{te:TE}
  (hN:X.N.Nodup) (hi':X.N[i]?=some x) (hx:Loc X.env.scope x) (ok:CompOkC X scope cl N k fr x0) (hc:X.calm=true) (hi:PI X tg iter wi)
  (hg:∀ C s H ex,PG (compCxC X scope cl N x0 C s H ex) tg g) (ht:∀ C s H ex,PIfs (compCxC X scope cl N x0 C s H ex) ifs tt) (he:∀ C s H ex,PE (compCxC X scope cl N x0 C s H ex) elt te)
  (hsw:swapsWith (.ListComp elt [⟨tg,iter,ifs,0⟩] scope pos) (some (.Name x py)) spos.line X.env=pure true)
  (hs:∀ x,foldedSetIterable iter X.env x=pure x:=by intro _;rfl) (hf:X.fn x=true\/X.env.scope.names.lookup x=some .local:=by first | exact .inl rfl | exact .inr rfl | assumption) :
  PS X (.Assign [.Name x py] (.ListComp elt [⟨tg,iter,ifs,0⟩] scope pos) spos) (sComp i k fr wi g tt te):=by
 intro pins s σ H Dd I h
 rw[exec_Assign_Name_used _ _ _ _ hsw]
 refine wpAny_bind (wpAny_standAt (wpAny_bind ?_))
 show wpAny _ X.A (do let _ <- comprehension (.ListComp elt [⟨tg,iter,ifs,0⟩] scope pos) scope X.env _ (newList []) false (eval iter X.env) (some (assign (.Name x py) X.env))) _ _ s
 refine wpAny_bind (wpAny_mono (wpAny_comprehension_free (use:=some (assign (.Name x py) X.env)) (Q:=fun _ s'=>SP X pins Dd .next s') rfl hs ok.clos ok.kind ok.names (thn (hi pins s σ H _ I h) fun v s1 h1=>thn h1 fun itv s2 h2=>?_)) (fun _ s' hq=>wpAny_pure (wpAny_pure hq)) fun _ _ e=>e)
 refine z9i ok hc hg ht he h2 fun D C ys its n H' m s' I' d1 d2 d3 d4 d5 e vv nC c1 c2 c3 c4 c5 cd fin=>?_
 show wpAny _ X.A (assign (.Name x py) X.env (.ref D)) _ _ s'
 have I0:Inv X pins σ (upd H' D (.lst ys)) s':=I'.track (t':=s'.toks) d1 d3 d2 d4 d5 ⟨fin.1,its,n,vv,e⟩
 refine wpAny_assign_Name (z53 I0 hN hi' hx (show RelV (.ref D) (.ref D) from rfl) (fun s2 I2 zhR=>?_) hf)
 obtain⟨a,sb,ha⟩:=zhR
 have aC:C≠a:=by
  rcases ha with z | z
  ·rw[z];exact c3
  ·exact Ne.symm (c4 x a z)
 refine⟨m,nC.sameBut sb aC,fun h'' sb2=>?_⟩
 have HC:(upd H' D (.lst ys)) C=none:=by rw[zd cd];exact c1
 exact⟨_,_,I2.turned (t':=s2.toks) (fun b o hb e=>sb2.extBut b o hb e) HC c3 (.inr c2) c4 c5,fin.2 D d1⟩
end
end L2
namespace L3
open PySem L2 PySem.Spec PyProof.Rows
theorem bnd1{α γ:Type}{x:Option α}{f:α->Option γ}{r:γ}{Q:Prop}(e:x.bind f=some r)(h:∀ p,x=some p->f p=some r->Q):Q:=by
 cases x with
 | none=>cases e
 | some p=>exact h p rfl e
theorem bnd2{α β γ:Type}{x:Option (α × β)}{f:α × β->Option γ}{r:γ}{Q:Prop}(e:x.bind f=some r)(h:∀ d s,x=some (d,s)->f (d,s)=some r->Q):Q:=bnd1 e fun p=>h p.1 p.2
theorem mpp1{α γ:Type}{x:Option α}{f:α->γ}{r:γ}{Q:Prop}(e:x.map f=some r)(h:∀ p,x=some p->f p=r->Q):Q:=by
 cases x with
 | none=>cases e
 | some p=>exact h p rfl (Option.some.inj e)
theorem mpp2{α β γ:Type}{x:Option (α × β)}{f:α × β->γ}{r:γ}{Q:Prop}(e:x.map f=some r)(h:∀ d s,x=some (d,s)->f (d,s)=r->Q):Q:=mpp1 e fun p=>h p.1 p.2
abbrev D:=PyData
abbrev Zt:=Option (Addr × Addr)
abbrev Sx:=List Int × Int
def NotZ(Z:Zt)(p:Addr):Prop:=∀ a c,Z=some (a,c)->p≠a/\p≠c
def stDict(c:Addr)(t:Int):List (Key × V):=[(Sum.inr "cells",.ref c),(Sum.inr "turn",.int t)]
def StateAt(Z:Zt)(H:Hp)(s:Sx):Prop:=∀ a c,Z=some (a,c)->H a=some (.dK (stDict c s.2))/\H c=some (.lst (s.1.map V.int))
def Ext(Z:Zt)(H H':Hp):Prop:=∀ b o,H b=some o->NotZ Z b->H' b=some o
theorem Ext.refl{Z:Zt}(H:Hp):Ext Z H H:=fun _ _ e _=>e
theorem Ext.trans{Z:Zt}{H H1 H2:Hp}(a:Ext Z H H1)(b:Ext Z H1 H2):Ext Z H H2:=fun c o e n=>b c o (a c o e n) n
theorem Ext.upd{Z:Zt}{H:Hp}{p:Addr}{o:HO}(h:H p=none):Ext Z H (upd H p o):=fun b u e _=>by rw[zd (zf e h)];exact e
theorem StateAt.upd{Z:Zt}{H:Hp}{s:Sx}{p:Addr}{o:HO}(S:StateAt Z H s)(h:H p=none):StateAt Z (upd H p o) s:=fun a c e =>
 ⟨by rw[zd (zf (S a c e).1 h)];exact(S a c e).1,by rw[zd (zf (S a c e).2 h)];exact(S a c e).2⟩
theorem StateAt.notZ{Z:Zt}{H:Hp}{s:Sx}{p:Addr}(S:StateAt Z H s)(h:H p=none):NotZ Z p:=fun a c e=>⟨Ne.symm (zf (S a c e).1 h),Ne.symm (zf (S a c e).2 h)⟩
def ModT(K:PySem.W.Frag)(p:Addr)(vs:List V):Prop:=∃ (o:Obj) (its:Array Value) (n:Nat),K.lookup p=some o/\o.cls=.type "tuple"/\o.data=.seq its n/\its.size<=sizeLine/\Vals vs its.toList
mutual
inductive Rep(K:PySem.W.Frag)(Z:Zt)(H:Hp)(A:List Addr):V->D->Prop
 | non:Rep K Z H A .non .none
 | bl (b:Bool):Rep K Z H A (.bl b) (.bool b)
 | int (i:Int):Rep K Z H A (.int i) (.int i)
 | str (x:Str):Rep K Z H A (.str x) (.str x)
 | tup {p:Addr} {vs:List V} {ds:List D}:H p=some (.tup vs)->¬ p∈A->NotZ Z p->Reps K Z H A vs ds->Rep K Z H A (.ref p) (.tuple ds)
 | lst {p:Addr} {vs:List V} {ds:List D}:H p=some (.lst vs)->¬ p∈A->NotZ Z p->Reps K Z H A vs ds->Rep K Z H A (.ref p) (.list ds)
 | mod {p:Addr} {vs:List V} {ds:List D}:ModT K p vs->Reps K Z H A vs ds->Rep K Z H A (.ref p) (.tuple ds)
 | st {a c:Addr}:Z=some (a,c)->Rep K Z H A (.ref a) (.dict [])
 | obj {p C dx:Addr} {c:Str} {ns:List Str} {vs:List V} {ds:List D}:PySem.W.nsIn K mainGlobals c=some (some (.ref C))->H p=some (.ins C dx (ns.zip vs))->¬ p∈A->NotZ Z p->Reps K Z H A vs ds ->
   Rep K Z H A (.ref p) (.dict ((.str "",.str c)::(ns.map PyData.str).zip ds))
inductive Reps(K:PySem.W.Frag)(Z:Zt)(H:Hp)(A:List Addr):List V->List D->Prop
 | nil:Reps K Z H A [] []
 | cons {v:V} {d:D} {vs:List V} {ds:List D}:Rep K Z H A v d->Reps K Z H A vs ds->Reps K Z H A (v::vs) (d::ds)
end
section
variable {K:PySem.W.Frag} {Z:Zt} {H H':Hp} {A A':List Addr}
theorem Reps.move(hm:∀ p o,H p=some o->¬ p∈A->NotZ Z p->H' p=some o/\¬ p∈A'){vs:List V}{ds:List D}(r:Reps K Z H A vs ds):Reps K Z H' A' vs ds :=
 Reps.rec (motive_1:=fun v d _=>Rep K Z H' A' v d) (motive_2:=fun vs ds _=>Reps K Z H' A' vs ds) .non .bl .int .str
  (fun h n z _ r=>.tup (hm _ _ h n z).1 (hm _ _ h n z).2 z r) (fun h n z _ r=>.lst (hm _ _ h n z).1 (hm _ _ h n z).2 z r) (fun h _ r=>.mod h r) (fun h=>.st h)
  (fun k h n z _ r=>.obj k (hm _ _ h n z).1 (hm _ _ h n z).2 z r) .nil (fun _ _ r t=>.cons r t) r
theorem Reps.head{v:V}{d:D}{vs:List V}{ds:List D}(r:Reps K Z H A (v::vs) (d::ds)):Rep K Z H A v d:=by
 cases r with
 | cons r _=>exact r
theorem Rep.move(hm:∀ p o,H p=some o->¬ p∈A->NotZ Z p->H' p=some o/\¬ p∈A'){v:V}{d:D}(r:Rep K Z H A v d):Rep K Z H' A' v d:=Reps.head (Reps.move hm (.cons r .nil))
theorem Rep.ext{v:V}{d:D}(r:Rep K Z H A v d)(e:Ext Z H H'):Rep K Z H' A v d:=r.move fun p o h n z=>⟨e p o h z,n⟩
theorem Reps.ext{vs:List V}{ds:List D}(r:Reps K Z H A vs ds)(e:Ext Z H H'):Reps K Z H' A vs ds:=r.move fun p o h n z=>⟨e p o h z,n⟩
theorem Rep.sub{v:V}{d:D}(r:Rep K Z H A v d)(e:∀ q∈A',q∈A):Rep K Z H A' v d:=r.move fun p o h n z=>⟨h,fun q=>n (e _ q)⟩
theorem Reps.sub{vs:List V}{ds:List D}(r:Reps K Z H A vs ds)(e:∀ q∈A',q∈A):Reps K Z H A' vs ds:=r.move fun p o h n z=>⟨h,fun q=>n (e _ q)⟩
theorem Reps.length{vs:List V}{ds:List D}(h:Reps K Z H A vs ds):vs.length=ds.length:=by
 induction vs generalizing ds with
 | nil=>cases h;rfl
 | cons v vs ih =>
  cases h with
  | cons _ t=>exact congrArg (· + 1) (ih t)
theorem Reps.get:∀ {vs:List V} {ds:List D} {i:Nat} {d:D},Reps K Z H A vs ds->ds[i]?=some d->∃ v,vs[i]?=some v/\Rep K Z H A v d
 | _,_,_,_,.nil,e=>by simp at e
 | _,_,0,_,.cons r _,e=>by simp at e;subst e;exact⟨_,rfl,r⟩
 | _,_,i + 1,d,.cons _ t,e=>by
  obtain⟨u,h1,h2⟩:=Reps.get (i:=i) (d:=d) t (by simpa using e)
  exact⟨u,by simpa using h1,h2⟩
theorem Reps.at:∀ {vs:List V} {ds:List D} {i:Nat} {v:V},Reps K Z H A vs ds->vs[i]?=some v->∃ d,ds[i]?=some d/\Rep K Z H A v d
 | _,_,_,_,.nil,e=>by simp at e
 | _,_,0,_,.cons r _,e=>by simp at e;subst e;exact⟨_,rfl,r⟩
 | _,_,i + 1,v,.cons _ t,e=>by
  obtain⟨u,h1,h2⟩:=Reps.at (i:=i) (v:=v) t (by simpa using e)
  exact⟨u,by simpa using h1,h2⟩
theorem Reps.append{vs ws:List V}{ds es:List D}(h:Reps K Z H A vs ds)(s:Reps K Z H A ws es):Reps K Z H A (vs++ws) (ds++es):=by
 induction vs generalizing ds with
 | nil=>cases h;exact s
 | cons v vs ih =>
  cases h with
  | cons r t=>exact .cons r (ih t)
theorem Reps.take:∀ {vs:List V} {ds:List D} (n:Nat),Reps K Z H A vs ds->Reps K Z H A (vs.take n) (ds.take n)
 | _,_,0,_=>.nil
 | _,_,_ + 1,.nil=>.nil
 | _,_,n + 1,.cons r t=>.cons r (Reps.take n t)
theorem Reps.drop:∀ {vs:List V} {ds:List D} (n:Nat),Reps K Z H A vs ds->Reps K Z H A (vs.drop n) (ds.drop n)
 | _,_,0,r=>r
 | _,_,_ + 1,.nil=>.nil
 | _,_,n + 1,.cons _ t=>Reps.drop n t
theorem Reps.set{v:V}{d:D}(r:Rep K Z H A v d):∀ {vs:List V} {ds:List D} (i:Nat),Reps K Z H A vs ds->Reps K Z H A (vs.set i v) (ds.set i d)
 | _,_,_,.nil=>.nil
 | _,_,0,.cons _ t=>.cons r t
 | _,_,i + 1,.cons q t=>.cons q (Reps.set r i t)
theorem Reps.rep(k:Nat){vs:List V}{ds:List D}(h:Reps K Z H A vs ds):Reps K Z H A (List.replicate k vs).flatten (List.replicate k ds).flatten:=by
 induction k with
 | zero=>exact .nil
 | succ k ih=>rw[List.replicate_succ,List.replicate_succ,List.flatten_cons,List.flatten_cons];exact h.append ih
theorem Reps.dropLast:∀ {vs:List V} {ds:List D},Reps K Z H A vs ds->Reps K Z H A vs.dropLast ds.dropLast:=fun{vs ds} h=>by
 rw[List.dropLast_eq_take,List.dropLast_eq_take,h.length];exact h.take _
theorem zM{p:Addr}(hA:∀ q∈A,∃ o,H q=some o)(h:H p=none):¬ p∈A:=fun m=>by
 obtain⟨o,e⟩:=hA p m
 rw[h]at e;cases e
end
def RepW(K:PySem.W.Frag)(Z:Zt)(H:Hp)(A:List Addr)(v:V)(d:D):Prop :=
 Rep K Z H A v d\/∃ p vs ds,v=.ref p/\d=.list ds/\H p=some (.lst vs)/\NotZ Z p/\Reps K Z H A vs ds
section
variable {K:PySem.W.Frag} {Z:Zt} {H H':Hp} {A A':List Addr} {v:V} {d:D}
theorem Rep.w(r:Rep K Z H A v d):RepW K Z H A v d:=.inl r
theorem RepW.ext(r:RepW K Z H A v d)(e:Ext Z H H'):RepW K Z H' A v d:=by
 rcases r with r | ⟨p,vs,ds,e1,e2,e3,e4,e5⟩
 ·exact .inl (r.ext e)
 ·exact .inr ⟨p,vs,ds,e1,e2,e _ _ e3 e4,e4,e5.ext e⟩
theorem RepW.list{ds:List D}(r:RepW K Z H A v (.list ds)):∃ p vs,v=.ref p/\SqL K H p vs/\NotZ Z p/\Reps K Z H A vs ds:=by
 rcases r with r | ⟨p,vs,ds,e1,e2,e3,e4,e5⟩
 ·cases r with
  | lst h n z q=>exact⟨_,_,rfl,.of h,z,q⟩
 ·cases e2;exact⟨p,vs,e1,.of e3,e4,e5⟩
theorem RepW.tuple{ds:List D}(r:RepW K Z H A v (.tuple ds)):∃ p vs,v=.ref p/\SqT K H p vs/\Reps K Z H A vs ds:=by
 rcases r with r | ⟨p,vs,ds,e1,e2,e3,e4,e5⟩
 ·cases r with
  | tup h n z q=>exact⟨_,_,rfl,.of h,q⟩
  | mod h q=>exact⟨_,_,rfl,.inr h,q⟩
 ·cases e2
theorem RepW.int{i:Int}(r:RepW K Z H A v (.int i)):v=.int i:=by
 rcases r with r | ⟨p,vs,ds,e1,e2,e3,e4,e5⟩
 ·cases r;rfl
 ·cases e2
theorem RepW.bool{i:Bool}(r:RepW K Z H A v (.bool i)):v=.bl i:=by
 rcases r with r | ⟨p,vs,ds,e1,e2,e3,e4,e5⟩
 ·cases r;rfl
 ·cases e2
theorem RepW.str{i:Str}(r:RepW K Z H A v (.str i)):v=.str i:=by
 rcases r with r | ⟨p,vs,ds,e1,e2,e3,e4,e5⟩
 ·cases r;rfl
 ·cases e2
theorem RepW.none(r:RepW K Z H A v .none):v=.non:=by
 rcases r with r | ⟨p,vs,ds,e1,e2,e3,e4,e5⟩
 ·cases r;rfl
 ·cases e2
end
inductive Ce where
 | non | val (d:D) | own (xs:List D)
abbrev Sl:=List Ce
abbrev Ow:=List (Nat × Addr)
inductive ValAt(K:PySem.W.Frag)(Z:Zt)(A:List Addr)(ow:Ow)(σ:L2.St)(H:Hp)(i:Nat)(d:D):Prop
 | mk (v:V) (h0:σ[i]?=some (some v)) (h1:Rep K Z H (A++ow.map (·.2)) v d)
inductive OwnAt(K:PySem.W.Frag)(Z:Zt)(A:List Addr)(ow:Ow)(σ:L2.St)(H:Hp)(i:Nat)(xs:List D):Prop
 | mk (p:Addr) (vs:List V) (h0:(i,p)∈ow) (h1:σ[i]?=some (some (.ref p))) (h2:H p=some (.lst vs)) (h3:Reps K Z H (A++ow.map (·.2)) vs xs)
structure RepS(K:PySem.W.Frag)(B:Hp)(Z:Zt)(A:List Addr)(ow:Ow)(σ:L2.St)(δ:Sl)(H:Hp):Prop where
 ok:∀ q∈A,(∃ o,H q=some o)/\NotZ Z q
 ext:Ext Z B H
 len:δ.length=σ.length
 val:∀ (i:Nat) (d:D),δ[i]?=some (.val d)->ValAt K Z A ow σ H i d
 own:∀ (i:Nat) (xs:List D),δ[i]?=some (.own xs)->OwnAt K Z A ow σ H i xs
 ows:∀ i p,(i,p)∈ow->B p=none/\(∃ vs,H p=some (.lst vs))/\NotZ Z p/\¬ p∈A
 inj:∀ i j p,(i,p)∈ow->(j,p)∈ow->i=j
section
variable {K:PySem.W.Frag} {B:Hp} {Z:Zt} {A:List Addr} {ow:Ow} {σ:L2.St} {δ:Sl} {H H':Hp}
theorem RepS.mono(R:RepS K B Z A ow σ δ H)(e:Ext Z H H'):RepS K B Z A ow σ δ H' where
 ok:=fun q hq=>⟨let ⟨o,h⟩:=(R.ok q hq).1;⟨o,e q o h (R.ok q hq).2⟩,(R.ok q hq).2⟩
 ext:=R.ext.trans e
 len:=R.len
 val:=fun i d h=>let ⟨v,a,b⟩:=R.val i d h;⟨v,a,b.ext e⟩
 own:=fun i xs h=>let ⟨p,vs,a,b,c,d⟩:=R.own i xs h;⟨p,vs,a,b,e p _ c (R.ows i p a).2.2.1,d.ext e⟩
 ows:=fun i p h=>let ⟨a,⟨o,b⟩,c,d⟩:=R.ows i p h;⟨a,⟨o,e p _ b c⟩,c,d⟩
 inj:=R.inj
theorem RepS.all(R:RepS K B Z A ow σ δ H):∀ q∈A++ow.map (·.2),∃ o,H q=some o:=fun q hq=>by
 rcases List.mem_append.mp hq with h | h
 ·exact(R.ok q h).1
 ·obtain⟨⟨i,p⟩,hp,rfl⟩:=List.mem_map.mp h
  obtain⟨vs,h⟩:=(R.ows i p hp).2.1
  exact⟨_,h⟩
end
def Frm(Z:Zt)(ow:Ow)(H:Hp)(ow':Ow)(H':Hp):Prop:=∀ b o,H b=some o->NotZ Z b->¬ b∈ow.map (·.2)->H' b=some o/\¬ b∈ow'.map (·.2)
theorem Frm.ext{Z:Zt}{ow:Ow}{H H':Hp}(e:Ext Z H H'):Frm Z ow H ow H':=fun b o h n m=>⟨e b o h n,m⟩
theorem Frm.refl{Z:Zt}{ow:Ow}{H:Hp}:Frm Z ow H ow H:=fun _ _ h _ m=>⟨h,m⟩
theorem Frm.trans{Z:Zt}{o1 o2 o3:Ow}{H1 H2 H3:Hp}(a:Frm Z o1 H1 o2 H2)(b:Frm Z o2 H2 o3 H3):Frm Z o1 H1 o3 H3:=fun c o h n m=>let ⟨h',m'⟩:=a c o h n m;b c o h' n m'
section
variable {K:PySem.W.Frag} {Z:Zt} {H H':Hp} {A:List Addr} {ow ow':Ow}
theorem z64{p:Addr}{u:HO}(h:H p=some u)(f:Frm Z ow H ow' H')(n:NotZ Z p)(m:¬ p∈A++ow.map (·.2)):H' p=some u/\¬ p∈A++ow'.map (·.2):=by
 have m1:¬ p∈A:=fun q=>m (List.mem_append_left _ q)
 have m2:¬ p∈ow.map (·.2):=fun q=>m (List.mem_append_right _ q)
 exact⟨(f _ _ h n m2).1,fun q=>(List.mem_append.mp q).elim m1 (f _ _ h n m2).2⟩
theorem Rep.frm{v:V}{d:D}(r:Rep K Z H (A++ow.map (·.2)) v d)(f:Frm Z ow H ow' H'):Rep K Z H' (A++ow'.map (·.2)) v d:=r.move fun p o h n z=>z64 h f z n
theorem Reps.frm{vs:List V}{ds:List D}(r:Reps K Z H (A++ow.map (·.2)) vs ds)(f:Frm Z ow H ow' H'):Reps K Z H' (A++ow'.map (·.2)) vs ds:=r.move fun p o h n z=>z64 h f z n
end
abbrev FE:=Sl->Sx->Option (D × Sx)
abbrev FT:=Sl->Sx->Option (Bool × Sx)
abbrev FA:=Sl->Sx->Option (List D × Sx)
inductive tDK(K:PySem.W.Frag)(Z:Zt)(A:List Addr)(F:FE)(σ:L2.St)(H:Hp)(Q:VK):Prop
 | mk (B:Hp) (ow:Ow) (δ:Sl) (s:Sx) (d:D) (s':Sx) (h0:RepS K B Z A ow σ δ H) (h1:StateAt Z H s) (h2:F δ s=some (d,s')) (h3:∀ v H',Ext Z H H'->StateAt Z H' s'->Rep K Z H' (A++ow.map (·.2)) v d->Q v H')
abbrev tD(X:Cx)(Z:Zt)(A:List Addr)(F:FE):TE:=tDK X.K Z A F
inductive tDTK(K:PySem.W.Frag)(Z:Zt)(A:List Addr)(F:FT)(σ:L2.St)(H:Hp)(Q:Bool->Hp->Prop):Prop
 | mk (B:Hp) (ow:Ow) (δ:Sl) (s:Sx) (b:Bool) (s':Sx) (h0:RepS K B Z A ow σ δ H) (h1:StateAt Z H s) (h2:F δ s=some (b,s')) (h3:∀ H',Ext Z H H'->StateAt Z H' s'->Q b H')
abbrev tDT(X:Cx)(Z:Zt)(A:List Addr)(F:FT):TT:=tDTK X.K Z A F
inductive tDAK(K:PySem.W.Frag)(Z:Zt)(A:List Addr)(F:FA)(σ:L2.St)(H:Hp)(Q:List V->Hp->Prop):Prop
 | mk (B:Hp) (ow:Ow) (δ:Sl) (s:Sx) (ds:List D) (s':Sx) (h0:RepS K B Z A ow σ δ H) (h1:StateAt Z H s) (h2:F δ s=some (ds,s')) (h3:∀ vs H',Ext Z H H'->StateAt Z H' s'->Reps K Z H' (A++ow.map (·.2)) vs ds->Q vs H')
abbrev tDA(X:Cx)(Z:Zt)(A:List Addr)(F:FA):TA:=tDAK X.K Z A F
structure DE(X:Cx)(e:Expr)(F:FE):Prop where
 go:∀ Z A,PE X e (tD X Z A F)
instance {X:Cx} {e:Expr} {F:FE}:CoeFun (DE X e F) (fun _=>∀ Z A,PE X e (tD X Z A F)):=⟨fun h=>h.go⟩
structure DT(X:Cx)(e:Expr)(F:FT):Prop where
 go:∀ Z A,PT X e (tDT X Z A F)
instance {X:Cx} {e:Expr} {F:FT}:CoeFun (DT X e F) (fun _=>∀ Z A,PT X e (tDT X Z A F)):=⟨fun h=>h.go⟩
structure DA(X:Cx)(es:List Expr)(F:FA):Prop where
 go:∀ Z A,PA X es (tDA X Z A F)
instance {X:Cx} {es:List Expr} {F:FA}:CoeFun (DA X es F) (fun _=>∀ Z A,PA X es (tDA X Z A F)):=⟨fun h=>h.go⟩
abbrev FO:=Sl->Sx->Option (List D × Sx)
inductive tDWK(K:PySem.W.Frag)(Z:Zt)(A:List Addr)(F:FE)(σ:L2.St)(H:Hp)(Q:VK):Prop
 | mk (B:Hp) (ow:Ow) (δ:Sl) (s:Sx) (d:D) (s':Sx) (h0:RepS K B Z A ow σ δ H) (h1:StateAt Z H s) (h2:F δ s=some (d,s')) (h3:∀ v H',Ext Z H H'->StateAt Z H' s'->RepW K Z H' (A++ow.map (·.2)) v d->Q v H')
abbrev tDW(X:Cx)(Z:Zt)(A:List Addr)(F:FE):TE:=tDWK X.K Z A F
structure DW(X:Cx)(e:Expr)(F:FE):Prop where
 go:∀ Z A,PE X e (tDW X Z A F)
instance {X:Cx} {e:Expr} {F:FE}:CoeFun (DW X e F) (fun _=>∀ Z A,PE X e (tDW X Z A F)):=⟨fun h=>h.go⟩
theorem PE.imp{X:Cx}{e:Expr}{t t':TE}(h:PE X e t)(hi:∀ σ H Q,t' σ H Q->t σ H Q):PE X e t':=fun pins s σ H Q I q=>h pins s σ H Q I (hi σ H Q q)
theorem PT.imp{X:Cx}{e:Expr}{t t':TT}(h:PT X e t)(hi:∀ σ H Q,t' σ H Q->t σ H Q):PT X e t':=fun pins s σ H Q I q=>h pins s σ H Q I (hi σ H Q q)
theorem PA.imp{X:Cx}{e:List Expr}{t t':TA}(h:PA X e t)(hi:∀ σ H Q,t' σ H Q->t σ H Q):PA X e t':=fun pos pins s σ H Q I q=>h pos pins s σ H Q I (hi σ H Q q)
theorem PS.imp{X:Cx}{st:Stmt}{t t':TS}(h:PS X st t)(hi:∀ D σ H,t' D σ H->t D σ H):PS X st t':=fun pins s σ H D I q=>h pins s σ H D I (hi D σ H q)
theorem PSs.imp{X:Cx}{st:List Stmt}{t t':TS}(h:PSs X st t)(hi:∀ D σ H,t' D σ H->t D σ H):PSs X st t':=fun pins s σ H D I q=>h pins s σ H D I (hi D σ H q)
section
variable {X:Cx} {a b c:Expr} {Fa Fb Fc:FE} {pos:Pos}
def fVar(i:Nat):FE:=fun δ s=>match δ[i]? with | some (.val d)=>some (d,s) | _=>none
def fC(d:D):FE:=fun _ s=>some (d,s)
theorem zgQ{e:Expr}{i:Nat}(h:PE X e (tVar i)):DE X e (fVar i):=⟨fun Z A=>PE.imp h fun σ H Q zhS=>by
 obtain⟨B,ow,δ,s,d,s',R,S,e,q⟩:=zhS
 unfold fVar at e
 split at e
 ·rename_i d' hd
  cases e
  obtain⟨v,h1,h2⟩:=R.val i _ hd
  exact⟨v,h1,q v H (Ext.refl H) S h2⟩
 ·cases e⟩
theorem dv(i:Nat){x:Str}(hN:X.N[i]?=some x:=by rfl)(hv:Vis X.env.scope x:=by first | exact Or.inl rfl | exact Or.inr (Or.inl rfl) | exact Or.inr (Or.inr rfl))(hd:(x == ("__debug__":Str))=false:=by decide)
  (hcd:(x == ("__classdict__":Str))=false:=by decide):DE X (.Name x pos) (fVar i):=zgQ (pv i hN hv hd hcd)
theorem z4U{e:Expr}{v:V}{d:D}(h:PE X e (tC v))(r:∀ K Z H A,Rep K Z H A v d):DE X e (fC d):=⟨fun Z A=>PE.imp h fun σ H Q zhT=>by
 obtain⟨B,ow,δ,s,d',s',R,S,e,q⟩:=zhT
 cases e
 exact q v H (Ext.refl H) S (r _ _ _ _)⟩
theorem de_int{i:Int}{j}:DE X (.Constant (.int i) j pos) (fC (.int i)):=z4U z2t fun _ _ _ _=>.int i
theorem z5c{i:Bool}{j}:DE X (.Constant (.bool i) j pos) (fC (.bool i)):=z4U zgH fun _ _ _ _=>.bl i
theorem z75{j}:DE X (.Constant .none j pos) (fC .none):=z4U ze6 fun _ _ _ _=>.non
theorem zew{x:Str}{j}:DE X (.Constant (.str x) j pos) (fC (.str x)):=z4U z4v fun _ _ _ _=>.str x
theorem DE.w{e:Expr}{F:FE}(h:DE X e F):DW X e F:=⟨fun Z A=>PE.imp (h Z A) fun σ H Q zhU=>(by obtain⟨B,ow,δ,s,d,s',R,S,e,q⟩:=zhU;exact⟨B,ow,δ,s,d,s',R,S,e,fun v H' a b c=>q v H' a b c.w⟩)⟩
def asL(F:FO):FE:=fun δ s=>(F δ s).map fun p=>(.list p.1,p.2)
abbrev G2:=D->D->Option D
def DOp(X:Cx)(f:Value->Value->Sem Value)(g:G2):Prop:=∀ (Z:Zt) (A:List Addr) (pins:List (Addr × Obj)) (s:Shared) (σ:L2.St) (H:Hp) (st:Sx) (x y:V) (v u:Value) (dx dy d:D) (Q:VK),
 Inv X pins σ H s->StateAt Z H st->(∀ q∈A,∃ o,H q=some o)->RepW X.K Z H A x dx->RepW X.K Z H A y dy->RelV x v->RelV y u->g dx dy=some d ->
 (∀ v' H',Ext Z H H'->StateAt Z H' st->Rep X.K Z H' A v' d->Q v' H')->wpAny (model X.prog X.w) X.A (f v u) (EP X pins σ Q) X.xe s
theorem DOp.of{f:Value->Value->Sem Value}{g:G2}{r:R2}(h:OpR X f r)
  (hr:∀ (Z:Zt) (A:List Addr) (H:Hp) (st:Sx) (x y:V) (dx dy d:D) (Q:VK),StateAt Z H st->(∀ q∈A,∃ o,H q=some o)->RepW X.K Z H A x dx->RepW X.K Z H A y dy->g dx dy=some d ->
   (∀ v' H',Ext Z H H'->StateAt Z H' st->Rep X.K Z H' A v' d->Q v' H')->r x y H Q):DOp X f g :=
 fun Z A pins s σ H st x y v u dx dy d Q I S hA rx ry vx vy e q=>h pins s σ H x y v u Q I vx vy (hr Z A H st x y dx dy d Q S hA rx ry e q)
theorem DOp.or{f:Value->Value->Sem Value}{g g':G2}(h:DOp X f g)(h':DOp X f g'):DOp X f (fun a b=>(g a b).or (g' a b)) :=
 fun Z A pins s σ H st x y v u dx dy d Q I S hA rx ry vx vy e q=>by
  cases e1:g dx dy with
  | some d'=>dsimp only at e;rw[e1]at e;exact h Z A pins s σ H st x y v u dx dy d Q I S hA rx ry vx vy (by rw[e1];exact e) q
  | none=>dsimp only at e;rw[e1]at e;exact h' Z A pins s σ H st x y v u dx dy d Q I S hA rx ry vx vy e q
def f2(g:G2)(Fa Fb:FE):FE:=fun δ s=>(Fa δ s).bind fun p=>(Fb δ p.2).bind fun q=>(g p.1 q.1).map fun d=>(d,q.2)
theorem two{g:G2}{f:Value->Value->Sem Value}(ho:DOp X f g)(ha:DW X a Fa)(hb:DW X b Fb){Z:Zt}{A:List Addr}{pins:List (Addr × Obj)}{s:Shared}{σ:L2.St}{H:Hp}{Q:VK}(I:Inv X pins σ H s)(h:tD X Z A (f2 g Fa Fb) σ H Q) :
  wpAny (model X.prog X.w) X.A (eval a X.env) (fun v s₁=>wpAny (model X.prog X.w) X.A (eval b X.env) (fun u s₂=>wpAny (model X.prog X.w) X.A (f v u) (EP X pins σ Q) X.xe s₂) X.xe s₁) X.xe s:=by
 obtain⟨B,ow,δ,st,d,st',R,S,e,q⟩:=h
 unfold f2 at e
 first | refine bnd2 e fun dx s1 e1 e=>?_ | refine mpp2 e fun dx s1 e1 e=>?_
 replace e:((Fb δ s1).bind fun q=>(g dx q.1).map fun d=>(d,q.2))=some (d,st'):=e
 first | refine bnd2 e fun dy s2 e2 e=>?_ | refine mpp2 e fun dy s2 e2 e=>?_
 replace e:((g dx dy).map fun d=>(d,s2))=some (d,st'):=e
 cases e3:g dx dy with
 | none=>rw[e3]at e;cases e
 | some d' =>
  rw[e3]at e
  cases e
  refine thn (ha Z A pins s σ H (fun x H1=>Ext Z H H1/\StateAt Z H1 s1/\RepW X.K Z H1 (A++ow.map (·.2)) x dx) I ⟨B,ow,δ,st,dx,s1,R,S,e1,fun v H' a b c=>⟨a,b,c⟩⟩) fun v s1' zeY=>?_
  obtain⟨x,H1,I1,r1,x1,S1,q1⟩:=zeY
  refine thn (hb Z A pins s1' σ H1 (fun y H2=>Ext Z H1 H2/\StateAt Z H2 st'/\RepW X.K Z H2 (A++ow.map (·.2)) y dy) I1 ⟨B,ow,δ,s1,dy,st',R.mono x1,S1,e2,fun v H' a b c=>⟨a,b,c⟩⟩) fun u s2' zeZ=>?_
  obtain⟨y,H2,I2,r2,x2,S2,q2⟩:=zeZ
  exact ho Z _ pins s2' σ H2 st' x y v u dx dy d Q I2 S2 ((R.mono x1).mono x2).all (q1.ext x2) q2 r1 r2 e3 fun v' H' a b c=>q v' H' ((x1.trans x2).trans a) b c
theorem de_op{op:Operator}{g:G2}(ho:DOp X (binaryOp op) g)(ha:DW X a Fa)(hb:DW X b Fb):DE X (.BinOp a op b pos) (f2 g Fa Fb):=⟨fun _ _ _ _ _ _ _ I h=>wpAny_BinOp (two ho ha hb I h)⟩
theorem z2a{op:CmpOp}{g:G2}(ho:DOp X (compareOp op) g)(ha:DW X a Fa)(hb:DW X b Fb)(hm:behindInMarks op b=false):DE X (.Compare a [op] [b] pos) (f2 g Fa Fb):=⟨fun _ _ _ _ _ _ _ I h=>wpAny_Compare1 (two ho ha hb I h) hm⟩
def asB(F:FE):FT:=fun δ s=>(F δ s).bind fun p=>match p.1 with | .bool b=>some (b,p.2) | _=>none
theorem zcE{Z:Zt}{A:List Addr}{F:FE}{σ:L2.St}{H:Hp}{Q:Bool->Hp->Prop}(h:tDT X Z A (asB F) σ H Q):tD X Z A F σ H fun x H'=>∃ k,x=.bl k/\Q k H':=by
 obtain⟨B,ow,δ,st,b,st',R,S,e,q⟩:=h
 unfold asB at e
 first | refine bnd2 e fun d s1 e1 e=>?_ | refine mpp2 e fun d s1 e1 e=>?_
 cases d <;> first | (cases e;done) | skip
 cases e
 exact⟨B,ow,δ,st,_,_,R,S,e1,fun v H' a b c=>by cases c;exact⟨_,rfl,q H' a b⟩⟩
theorem z04{op:CmpOp}{g:G2}(ho:DOp X (compareOp op) g)(ha:DW X a Fa)(hb:DW X b Fb)(hm:behindInMarks op b=false):DT X (.Compare a [op] [b] pos) (asB (f2 g Fa Fb)):=⟨fun Z A pins s σ H Q I h=>by
 refine wpAny_isTrue_Compare1 (thn (two ho ha hb I (zcE h)) fun v s1 h1=>thn h1 fun u s2 h2=>thn h2 fun cv s3 zf0=>?_) hm
 obtain⟨x,H1,I1,r1,k,e,q1⟩:=zf0
 subst e
 cases r1
 exact wpAny_truthy_bool ⟨H1,I1,q1⟩⟩
def gI(C:Int->Int->Bool)(f:Int->Int->D):G2:=fun a b=>match a,b with | .int i,.int j=>if C i j then some (f i j) else none | _,_=>none
theorem z1Z{f:Value->Value->Sem Value}{C:Int->Int->Prop}{Cb:Int->Int->Bool}{gv:Int->Int->V}{gd:Int->Int->D}(h:OpR X f (rI C gv))(hC:∀ i j,Cb i j=true->C i j)(hg:∀ i j K Z H A,Rep K Z H A (gv i j) (gd i j)):DOp X f (gI Cb gd) :=
 DOp.of h fun Z A H st x y dx dy d Q S hA rx ry e q=>by
  unfold gI at e
  split at e
  ·have ex:=rx.int
   have ey:=ry.int
   subst ex ey
   split at e
   ·rename_i i j hc
    cases e
    exact⟨i,j,rfl,rfl,hC i j hc,q _ H (Ext.refl H) S (hg i j _ _ _ _)⟩
   ·cases e
  ·cases e
theorem z4y{g:Int->Int->V}{f:Value->Value->Sem Value}(h:OpR X f (rI0 g)):OpR X f (rI (fun _ _=>True) g):=fun pins s σ H x y v u Q I rx ry zf1=>(by obtain⟨i,j,e1,e2,_,q⟩:=zf1;exact h pins s σ H x y v u Q I rx ry ⟨i,j,e1,e2,q⟩)
def gAddI:G2:=gI (fun _ _=>true) fun i j=>.int (i + j)
def gSubI:G2:=gI (fun _ _=>true) fun i j=>.int (i - j)
def mulOk(i j:Int):Bool:=decide (Builtin.Int.intBits i + Builtin.Int.intBits j<=134217728)
def divOk(_ j:Int):Bool:=decide (j≠0) && decide (j.natAbs.log2 < 9000)
theorem dadd_int:DOp X (binaryOp .Add) gAddI:=z1Z (z4y zcy) (fun _ _ _=>trivial) fun i j _ _ _ _=>.int _
theorem zW:DOp X (binaryOp .Sub) gSubI:=z1Z (z4y zef) (fun _ _ _=>trivial) fun i j _ _ _ _=>.int _
def gLt:G2:=gI (fun _ _=>true) fun i j=>.bool (decide (i < j))
def gLe:G2:=gI (fun _ _=>true) fun i j=>.bool (decide (i<=j))
def gGt:G2:=gI (fun _ _=>true) fun i j=>.bool (decide (j < i))
def gGe:G2:=gI (fun _ _=>true) fun i j=>.bool (decide (j<=i))
theorem dlt:DOp X (compareOp .Lt) gLt:=z1Z (z4y zgK) (fun _ _ _=>trivial) fun i j _ _ _ _=>.bl _
theorem dle:DOp X (compareOp .LtE) gLe:=z1Z (z4y zgL) (fun _ _ _=>trivial) fun i j _ _ _ _=>.bl _
theorem dgt:DOp X (compareOp .Gt) gGt:=z1Z (z4y zgM) (fun _ _ _=>trivial) fun i j _ _ _ _=>.bl _
theorem dge:DOp X (compareOp .GtE) gGe:=z1Z (z4y zej) (fun _ _ _=>trivial) fun i j _ _ _ _=>.bl _
end
end L3
namespace L3
open PySem L2 PySem.Spec PyProof.Rows
section
variable {X:Cx} {a b c e:Expr} {es:List Expr} {Fa Fb Fc F:FE} {Ga Gb:FT} {FL:FA} {pos:Pos}
theorem zbH{i j:Int}(h:mulOk i j=true):IntMulOk i j:=mulOk_of_bits (Nat.le_refl _) (Nat.le_refl _) (of_decide_eq_true h)
theorem zdo:OpR X (binaryOp .Mult) (rI (fun i j=>mulOk i j=true) fun i j=>.int (i * j)):=opI fun _ _ _ _ _ _ _ hc q=>mul_int q (zbH hc)
theorem zbI:OpR X (binaryOp .FloorDiv) (rI (fun i j=>divOk i j=true) fun i j=>.int (i.fdiv j)):=opI fun _ _ _ _ _ _ _ hc q=>by
 have hc':(decide _ && decide _)=true:=hc
 rw[Bool.and_eq_true]at hc'
 exact floordiv_int (of_decide_eq_true hc'.1) q (.inl (PyProof.noPylong_of_log2 (of_decide_eq_true hc'.2)))
def gMulI:G2:=gI mulOk fun i j=>.int (i * j)
def gDivI:G2:=gI divOk fun i j=>.int (i.fdiv j)
def gModI:G2:=gI (fun _ j=>decide (j≠0)) fun i j=>.int (i.fmod j)
theorem dmul_int:DOp X (binaryOp .Mult) gMulI:=z1Z zdo (fun _ _ h=>h) fun i j _ _ _ _=>.int _
theorem z3k:DOp X (binaryOp .FloorDiv) gDivI:=z1Z zbI (fun _ _ h=>h) fun i j _ _ _ _=>.int _
theorem dmod_int:DOp X (binaryOp .Mod) gModI:=z1Z z9W (fun _ _ h=>of_decide_eq_true h) fun i j _ _ _ _=>.int _
abbrev G1:=D->Option D
def f1(g:G1)(Fa:FE):FE:=fun δ s=>(Fa δ s).bind fun p=>(g p.1).map fun d=>(d,p.2)
def gNeg:G1:=fun d=>match d with | .int i=>some (.int (-i)) | _=>none
theorem z2X(ha:DW X a Fa):DE X (.UnaryOp .USub a pos) (f1 gNeg Fa):=⟨fun Z A=>PE.imp (zgJ zeh (ha Z A)) fun σ H Q zf2=>by
 obtain⟨B,ow,δ,s,d,s',R,S,e,q⟩:=zf2
 unfold f1 at e
 first | refine bnd2 e fun dx s1 e1 e=>?_ | refine mpp2 e fun dx s1 e1 e=>?_
 cases dx <;> first | (cases e;done) | skip
 cases e
 exact⟨B,ow,δ,s,_,_,R,S,e1,fun v H' x1 S1 r=>⟨_,r.int,q _ H' x1 S1 (.int _)⟩⟩⟩
def tAndF(Ga Gb:FT):FT:=fun δ s=>(Ga δ s).bind fun p=>if p.1=true then Gb δ p.2 else some (false,p.2)
def tOrF(Ga Gb:FT):FT:=fun δ s=>(Ga δ s).bind fun p=>if p.1=true then some (true,p.2) else Gb δ p.2
def tNotF(Ga:FT):FT:=fun δ s=>(Ga δ s).map fun p=>(!p.1,p.2)
structure DTW(X:Cx)(e:Expr)(F:FT):Prop where
 go:∀ Z A,PW X e (tDT X Z A F)
instance {X:Cx} {e:Expr} {F:FT}:CoeFun (DTW X e F) (fun _=>∀ Z A,PW X e (tDT X Z A F)):=⟨fun h=>h.go⟩
theorem DTW.t(h:DTW X e Ga):DT X e Ga:=⟨fun Z A=>(h Z A).pt⟩
theorem z5d(ha:DT X a Ga):DTW X (.BoolOp .And [a] pos) Ga:=⟨fun Z A=>zd3 (ha Z A)⟩
theorem z5e(ha:DT X a Ga):DTW X (.BoolOp .Or [a] pos) Ga:=⟨fun Z A=>ze7 (ha Z A)⟩
theorem PW.imp{t t':TT}(h:PW X e t)(hi:∀ σ H Q,t' σ H Q->t σ H Q):PW X e t':=fun wh pins s σ H Q I q=>h wh pins s σ H Q I (hi σ H Q q)
theorem z76(ha:DT X a Ga)(hb:DTW X (.BoolOp .And (b::es) pos) Gb):DTW X (.BoolOp .And (a::b::es) pos) (tAndF Ga Gb):=⟨fun Z A=>PW.imp (ze8 (ha Z A) (hb Z A)) fun σ H Q zf3=>by
 obtain⟨B,ow,δ,s,d,s',R,S,e,q⟩:=zf3
 unfold tAndF at e
 first | refine bnd2 e fun k s1 e1 e=>?_ | refine mpp2 e fun k s1 e1 e=>?_
 refine⟨B,ow,δ,s,k,s1,R,S,e1,fun H1 x1 S1=>?_⟩
 cases k with
 | true=>exact iteT ⟨B,ow,δ,s1,d,s',R.mono x1,S1,e,fun H2 x2 S2=>q H2 (x1.trans x2) S2⟩
 | false=>cases e;exact iteF (q H1 x1 S1)⟩
theorem z6l(ha:DT X a Ga)(hb:DTW X (.BoolOp .Or (b::es) pos) Gb):DTW X (.BoolOp .Or (a::b::es) pos) (tOrF Ga Gb):=⟨fun Z A=>PW.imp (zgI (ha Z A) (hb Z A)) fun σ H Q zf4=>by
 obtain⟨B,ow,δ,s,d,s',R,S,e,q⟩:=zf4
 unfold tOrF at e
 first | refine bnd2 e fun k s1 e1 e=>?_ | refine mpp2 e fun k s1 e1 e=>?_
 refine⟨B,ow,δ,s,k,s1,R,S,e1,fun H1 x1 S1=>?_⟩
 cases k with
 | true=>cases e;exact iteT (q H1 x1 S1)
 | false=>exact iteF ⟨B,ow,δ,s1,d,s',R.mono x1,S1,e,fun H2 x2 S2=>q H2 (x1.trans x2) S2⟩⟩
theorem z3Y(ha:DT X a Ga):DT X (.UnaryOp .Not a pos) (tNotF Ga):=⟨fun Z A=>PT.imp (ze9 (ha Z A)) fun σ H Q zf5=>by
 obtain⟨B,ow,δ,s,d,s',R,S,e,q⟩:=zf5
 unfold tNotF at e
 first | refine bnd1 e fun p e1 e=>?_ | refine mpp1 e fun p e1 e=>?_
 cases e
 exact⟨B,ow,δ,s,_,_,R,S,e1,fun H1 x1 S1=>q H1 x1 S1⟩⟩
def eAnd(Fa Fb:FE):FE:=fun δ s=>(Fa δ s).bind fun p=>match p.1 with | .bool true=>Fb δ p.2 | .bool false=>some (.bool false,p.2) | _=>none
theorem z77{op}(ha:DE X a Fa):DE X (.BoolOp op [a] pos) Fa:=⟨fun Z A=>zea (ha Z A)⟩
theorem z4z(ha:DE X a Fa)(hb:DE X (.BoolOp .And (b::es) pos) Fb):DE X (.BoolOp .And (a::b::es) pos) (eAnd Fa Fb):=⟨fun Z A=>PE.imp (zeb (ha Z A) (hb Z A)) fun σ H Q zf6=>by
 obtain⟨B,ow,δ,s,d,s',R,S,e,q⟩:=zf6
 unfold eAnd at e
 first | refine bnd2 e fun dx s1 e1 e=>?_ | refine mpp2 e fun dx s1 e1 e=>?_
 cases dx with
 | bool k =>
  refine⟨B,ow,δ,s,_,s1,R,S,e1,fun v H1 x1 S1 r=>?_⟩
  cases r
  refine⟨k,rfl,?_⟩
  cases k with
  | true=>exact iteT ⟨B,ow,δ,s1,d,s',R.mono x1,S1,e,fun v H2 x2 S2 r=>q v H2 (x1.trans x2) S2 r⟩
  | false=>cases e;exact iteF (q _ H1 x1 S1 (.bl _))
 | _=>cases e⟩
def gNot:G1:=fun d=>match d with | .bool k=>some (.bool (!k)) | _=>none
theorem zcF(ha:DE X a Fa):DE X (.UnaryOp .Not a pos) (f1 gNot Fa):=⟨fun Z A=>PE.imp (zec (ha Z A)) fun σ H Q zf7=>by
 obtain⟨B,ow,δ,s,d,s',R,S,e,q⟩:=zf7
 unfold f1 at e
 first | refine bnd2 e fun dx s1 e1 e=>?_ | refine mpp2 e fun dx s1 e1 e=>?_
 cases dx with
 | bool k=>cases e;exact⟨B,ow,δ,s,_,_,R,S,e1,fun v H' x1 S1 r=>by cases r;exact⟨_,rfl,q _ H' x1 S1 (.bl _)⟩⟩
 | _=>cases e⟩
def eIf(Ga:FT)(Fa Fb:FE):FE:=fun δ s=>(Ga δ s).bind fun p=>if p.1=true then Fa δ p.2 else Fb δ p.2
theorem zex(hc:DT X c Ga)(ha:DE X a Fa)(hb:DE X b Fb):DE X (.IfExp c a b pos) (eIf Ga Fa Fb):=⟨fun Z A=>PE.imp (zbo (hc Z A) (ha Z A) (hb Z A)) fun σ H Q zf8=>by
 obtain⟨B,ow,δ,s,d,s',R,S,e,q⟩:=zf8
 unfold eIf at e
 first | refine bnd2 e fun k s1 e1 e=>?_ | refine mpp2 e fun k s1 e1 e=>?_
 refine⟨B,ow,δ,s,k,s1,R,S,e1,fun H1 x1 S1=>?_⟩
 cases k with
 | true=>exact iteT ⟨B,ow,δ,s1,d,s',R.mono x1,S1,e,fun v H2 x2 S2 r=>q v H2 (x1.trans x2) S2 r⟩
 | false=>exact iteF ⟨B,ow,δ,s1,d,s',R.mono x1,S1,e,fun v H2 x2 S2 r=>q v H2 (x1.trans x2) S2 r⟩⟩
def aNil:FA:=fun _ s=>some ([],s)
def aCons(Fa:FE)(FL:FA):FA:=fun δ s=>(Fa δ s).bind fun p=>(FL δ p.2).map fun q=>(p.1::q.1,q.2)
theorem zj:DA X [] aNil:=⟨fun Z A=>PA.imp z0U fun σ H Q zf9=>by
 obtain⟨B,ow,δ,s,d,s',R,S,e,q⟩:=zf9
 cases e
 exact q [] H (Ext.refl H) S .nil⟩
theorem z8(ha:DE X e Fa)(hr:DA X es FL)(hs:starEach (e::es) X.env=(false,eval e X.env)::starEach es X.env:=by rfl):DA X (e::es) (aCons Fa FL):=⟨fun Z A=>PA.imp (zS (ha Z A) (hr Z A) hs) fun σ H Q zfa=>by
 obtain⟨B,ow,δ,s,d,s',R,S,e,q⟩:=zfa
 unfold aCons at e
 first | refine bnd2 e fun dx s1 e1 e=>?_ | refine mpp2 e fun dx s1 e1 e=>?_
 replace e:((FL δ s1).map fun q=>(dx::q.1,q.2))=some (d,s'):=e
 first | refine bnd1 e fun p2 e2 e=>?_ | refine mpp1 e fun p2 e2 e=>?_
 cases e
 exact⟨B,ow,δ,s,dx,s1,R,S,e1,fun v H1 x1 S1 r=>⟨B,ow,δ,s1,p2.1,p2.2,R.mono x1,S1,e2,fun vs H2 x2 S2 rs=>q _ H2 (x1.trans x2) S2 (.cons (r.ext x2) rs)⟩⟩⟩
def small(ds:List D):Bool:=decide (ds.length<=sizeLine)
def eTup(FL:FA):FE:=fun δ s=>(FL δ s).bind fun p=>if small p.1=true then some (.tuple p.1,p.2) else none
def eLst(FL:FA):FE:=fun δ s=>(FL δ s).bind fun p=>if small p.1=true then some (.list p.1,p.2) else none
theorem z2x{x1}(h:DA X es FL):DE X (.Tuple es x1 pos) (eTup FL):=⟨fun Z A=>PE.imp (z6T (h Z A)) fun σ H Q zfb=>by
 obtain⟨B,ow,δ,s,d,s',R,S,e,q⟩:=zfb
 unfold eTup at e
 first | refine bnd1 e fun p e1 e=>?_ | refine mpp1 e fun p e1 e=>?_
 replace e:(if small p.1=true then some (PyData.tuple p.1,p.2) else none)=some (d,s'):=e
 split at e
 ·rename_i hs
  cases e
  refine⟨B,ow,δ,s,_,_,R,S,e1,fun vs H1 x1 S1 rs=>⟨?_,fun p hp=>q _ _ (x1.trans (Ext.upd hp)) (S1.upd hp) (.tup ze (zM (R.mono x1).all hp) (S1.notZ hp) (rs.ext (Ext.upd hp)))⟩⟩
  rw[rs.length];exact of_decide_eq_true hs
 ·cases e⟩
theorem z1A(h:DA X es FL):DE X (.List es pos) (eLst FL):=⟨fun Z A=>PE.imp (za2 (h Z A)) fun σ H Q zfc=>by
 obtain⟨B,ow,δ,s,d,s',R,S,e,q⟩:=zfc
 unfold eLst at e
 first | refine bnd1 e fun p e1 e=>?_ | refine mpp1 e fun p e1 e=>?_
 replace e:(if small p.1=true then some (PyData.list p.1,p.2) else none)=some (d,s'):=e
 split at e
 ·rename_i hs
  cases e
  refine⟨B,ow,δ,s,_,_,R,S,e1,fun vs H1 x1 S1 rs=>⟨?_,fun p hp=>q _ _ (x1.trans (Ext.upd hp)) (S1.upd hp) (.lst ze (zM (R.mono x1).all hp) (S1.notZ hp) (rs.ext (Ext.upd hp)))⟩⟩
  rw[rs.length];exact of_decide_eq_true hs
 ·cases e⟩
def gIx:G2:=fun a b=>match a,b with | .list xs,.int i=>atI xs i | .tuple xs,.int i=>atI xs i | _,_=>none
theorem Reps.atI{K:PySem.W.Frag}{Z:Zt}{H:Hp}{A:List Addr}{vs:List V}{ds:List D}{i:Int}{d:D}(r:Reps K Z H A vs ds)(e:L2.atI ds i=some d):∃ v,L2.atI vs i=some v/\Rep K Z H A v d:=by
 unfold L2.atI at e ⊢
 rw[r.length]
 cases e1:ixN ds.length i with
 | none=>rw[e1]at e;cases e
 | some j =>
  rw[e1]at e
  obtain⟨v,h1,h2⟩:=r.get (i:=j) (d:=d) e
  exact⟨v,h1,h2⟩
theorem z0c(ha:DW X a Fa)(hb:DW X b Fb)(hs:PlainIx b):DE X (.Subscript a b pos) (f2 gIx Fa Fb):=⟨fun Z A=>PE.imp (zeo (ix_list.or zep) (ha Z A) (hb Z A) hs) fun σ H Q zfd=>by
 obtain⟨B,ow,δ,s,d,s',R,S,e,q⟩:=zfd
 unfold f2 at e
 first | refine bnd2 e fun dx s1 e1 e=>?_ | refine mpp2 e fun dx s1 e1 e=>?_
 replace e:((Fb δ s1).bind fun q=>(gIx dx q.1).map fun d=>(d,q.2))=some (d,s'):=e
 first | refine bnd2 e fun dy s2 e2 e=>?_ | refine mpp2 e fun dy s2 e2 e=>?_
 replace e:((gIx dx dy).map fun d=>(d,s2))=some (d,s'):=e
 cases e3:gIx dx dy with
 | none=>rw[e3]at e;cases e
 | some d' =>
  rw[e3]at e
  cases e
  refine⟨B,ow,δ,s,dx,s1,R,S,e1,fun v H1 x1 S1 r1=>⟨B,ow,δ,s1,dy,s',R.mono x1,S1,e2,fun u H2 x2 S2 r2=>?_⟩⟩
  unfold gIx at e3
  split at e3
  ·rename_i xs i
   have eu:=r2.int
   obtain⟨p,vs,ev,sq,_,rs⟩:=(r1.ext x2).list
   obtain⟨w',h1,h2⟩:=Reps.atI rs e3
   exact .inl ⟨p,vs,i,w',ev,eu,sq,h1,q w' H2 (x1.trans x2) S2 h2⟩
  ·rename_i xs i
   have eu:=r2.int
   obtain⟨p,vs,ev,sq,rs⟩:=(r1.ext x2).tuple
   obtain⟨w',h1,h2⟩:=Reps.atI rs e3
   exact .inr ⟨p,vs,i,w',ev,eu,sq,h1,q w' H2 (x1.trans x2) S2 h2⟩
  ·cases e3⟩
theorem Reps.reads{K:PySem.W.Frag}{pins:List (Addr × Obj)}{σ:L2.St}{H:Hp}{s:Shared}(hK:X.K=K)(I:Inv X pins σ H s){Z:Zt}{A:List Addr}{vs:List V}{ds:List D}(x:Reps K Z H A vs ds):PyData.canLayAll0 ds=true->∀ us,Vals vs us->∃ as,ReadsAll s.heap us ds as :=
 Reps.rec (motive_1:=fun v d _=>d.canLay0=true->∀ u,RelV v u->∃ as,Reads s.heap u d as) (motive_2:=fun vs ds _=>PyData.canLayAll0 ds=true->∀ us,Vals vs us->∃ as,ReadsAll s.heap us ds as)
  (fun _ _ r=>by cases r;exact⟨_,.none⟩) (fun b _ _ r=>by cases r;exact⟨_,.bool b⟩) (fun i _ _ r=>by obtain⟨t,rfl⟩:=r;exact⟨_,.int i t⟩) (fun x _ _ r=>by obtain⟨t,rfl⟩:=r;exact⟨_,.str x t⟩)
  (fun h n z _ ih c u r=>by
   cases r
   obtain⟨its,rv,⟨o,e1,e2,m,e3⟩,_⟩:=I.tuple (.of h)
   obtain⟨as,q⟩:=ih c _ rv
   exact⟨as,.tuple e1 e2 e3 q⟩)
  (fun h n z _ ih c u r=>by
   cases r
   obtain⟨its,rv,p,_⟩:=I.list (.of h)
   obtain⟨o,e1,e2,m,e3⟩:=p.isList
   obtain⟨as,q⟩:=ih c _ rv
   exact⟨_,.list e1 e2 e3 q⟩)
  (fun h _ ih c u r=>by
   cases r
   obtain⟨its,rv,⟨o,e1,e2,m,e3⟩,_⟩:=I.tuple (.inr (hK.symm ▸ h))
   obtain⟨as,q⟩:=ih c _ rv
   exact⟨as,.tuple e1 e2 e3 q⟩)
  (fun _ c _ _=>absurd c Bool.false_ne_true) (fun _ _ _ _ _ _ c _ _=>absurd c Bool.false_ne_true)
  (fun _ _ r=>by cases r;exact⟨_,.nil⟩)
  (fun _ _ h1 h2 c us r=>by
   cases r with
   | cons q w =>
    obtain⟨as,g1⟩:=h1 ((Bool.and_eq_true _ _).mp c).1 _ q
    obtain⟨bs,g2⟩:=h2 ((Bool.and_eq_true _ _).mp c).2 _ w
    exact⟨_,.cons g1 g2⟩) x
theorem Rep.reads{K:PySem.W.Frag}{pins:List (Addr × Obj)}{σ:L2.St}{H:Hp}{s:Shared}(hK:X.K=K)(I:Inv X pins σ H s){Z:Zt}{A:List Addr}{v:V}{d:D}{u:Value}(x:Rep K Z H A v d)(c:d.canLay0=true)(r:RelV v u):∃ as,Reads s.heap u d as:=by
 obtain⟨as,h⟩:=Reps.reads hK I (.cons x .nil) (by rw[PyData.canLayAll0,c];rfl) [u] (.cons r .nil)
 cases h with
 | cons h _=>exact⟨_,h⟩
theorem RepW.reads{pins:List (Addr × Obj)}{σ:L2.St}{H:Hp}{s:Shared}(I:Inv X pins σ H s){Z:Zt}{A:List Addr}{v:V}{d:D}{u:Value}(r:RepW X.K Z H A v d)(c:d.canLay0=true)(ru:RelV v u):∃ as,Reads s.heap u d as:=by
 rcases r with r | ⟨p,vs,ds,rfl,rfl,e3,e4,e5⟩
 ·exact r.reads rfl I c ru
 ·cases ru
  obtain⟨its,rv,pl,_⟩:=I.list (SqL.of e3)
  obtain⟨o,e1,e2,m,e3⟩:=pl.isList
  obtain⟨as,q⟩:=Reps.reads rfl I e5 (by simpa [PyData.canLay0] using c) _ rv
  exact⟨_,.list e1 e2 e3 (by simpa using q)⟩
def gEq:G2:=fun a b=>if (SeqAt.shaped a && SeqAt.shaped b)=true then some (.bool (PyData.eqv a b)) else none
def gNe:G2:=fun a b=>if (SeqAt.shaped a && SeqAt.shaped b)=true then some (.bool (!PyData.eqv a b)) else none
theorem deq(hu:X.A.units + 64 < cLine):DOp X (compareOp .Eq) gEq:=fun Z A pins s σ H st x y v u dx dy d Q I S hA rx ry vx vy e q=>by
 unfold gEq at e
 split at e
 ·rename_i hc
  cases e
  rw[Bool.and_eq_true]at hc
  obtain⟨as,h1⟩:=rx.reads I (SeqAt.canLay_of_shaped hc.1) vx
  obtain⟨bs,h2⟩:=ry.reads I (SeqAt.canLay_of_shaped hc.2) vy
  exact eq_dataH h1 h2 hc.1 hc.2 hu ⟨.bl _,H,I,rfl,q _ H (Ext.refl H) S (.bl _)⟩
 ·cases e
theorem dne(hu:X.A.units + 64 < cLine):DOp X (compareOp .NotEq) gNe:=fun Z A pins s σ H st x y v u dx dy d Q I S hA rx ry vx vy e q=>by
 unfold gNe at e
 split at e
 ·rename_i hc
  cases e
  rw[Bool.and_eq_true]at hc
  obtain⟨as,h1⟩:=rx.reads I (SeqAt.canLay_of_shaped hc.1) vx
  obtain⟨bs,h2⟩:=ry.reads I (SeqAt.canLay_of_shaped hc.2) vy
  exact ne_dataH h1 h2 hc.1 hc.2 hu ⟨.bl _,H,I,rfl,q _ H (Ext.refl H) S (.bl _)⟩
 ·cases e
@[simp] def isNon:D->Option Bool
 | .none=>some true
 | .bool _ | .int _ | .str _ | .list _ | .tuple _=>some false
 | _=>none
def gIs:G2:=fun a b=>match b with | .none=>(isNon a).map .bool | .bool j=>(match a with | .bool i=>some (.bool (i == j)) | _=>none) | _=>none
theorem RepW.isNon{K:PySem.W.Frag}{Z:Zt}{H:Hp}{A:List Addr}{v:V}{d:D}{b:Bool}(r:RepW K Z H A v d)(e:isNon d=some b):decide (v=.non)=b:=by
 rcases r with r | ⟨p,vs,ds,e1,e2,e3,e4,e5⟩
 ·cases r <;> cases e <;> rfl
 ·subst e1 e2;cases e;rfl
theorem op_is_bl:OpR X (compareOp .Is) (fun x y H Q=>∃ i j,x=.bl i/\y=.bl j/\Q (.bl (i == j)) H):=fun pins s σ H x y v u Q I rx ry zfe=>by
 obtain⟨i,j,e1,e2,q⟩:=zfe
 subst e1 e2;cases rx;cases ry
 exact is_bool ⟨.bl _,H,I,rfl,q⟩
theorem dis:DOp X (compareOp .Is) gIs:=DOp.of (op_is_bl.or zek) fun Z A H st x y dx dy d Q S hA rx ry e q=>by
 unfold gIs at e
 split at e
 ·refine mpp1 e fun b e1 e=>?_
  subst e
  exact .inr ⟨ry.none,by rw[RepW.isNon rx e1];exact q _ H (Ext.refl H) S (.bl _)⟩
 ·split at e
  ·cases e
   exact .inl ⟨_,_,rx.bool,ry.bool,q _ H (Ext.refl H) S (.bl _)⟩
  ·cases e
 ·cases e
end
end L3
namespace L3
open PySem L2 PySem.Spec PyProof.Rows
theorem lenS{α:Type}{us:List α}{n:Nat}(h:us.length=n + 1):∃ a t,us=a::t/\t.length=n:=by
 cases us with
 | nil=>cases h
 | cons a t=>exact⟨a,t,rfl,Nat.succ.inj h⟩
theorem len1{α:Type}{us:List α}(h:us.length=1):∃ a0,us=[a0]:=by
 obtain⟨a,t,rfl,h2⟩:=lenS h
 cases List.eq_nil_of_length_eq_zero h2
 exact⟨a,rfl⟩
theorem len2{α:Type}{us:List α}(h:us.length=2):∃ a0 a1,us=[a0,a1]:=by
 obtain⟨a0,t,rfl,h2⟩:=lenS h
 obtain⟨a1,rfl⟩:=len1 h2
 exact⟨a0,a1,rfl⟩
theorem len3{α:Type}{us:List α}(h:us.length=3):∃ a0 a1 a2,us=[a0,a1,a2]:=by
 obtain⟨a0,t,rfl,h2⟩:=lenS h
 obtain⟨a1,a2,rfl⟩:=len2 h2
 exact⟨a0,a1,a2,rfl⟩
theorem len4{α:Type}{us:List α}(h:us.length=4):∃ a0 a1 a2 a3,us=[a0,a1,a2,a3]:=by
 obtain⟨a0,t,rfl,h2⟩:=lenS h
 obtain⟨a1,a2,a3,rfl⟩:=len3 h2
 exact⟨a0,a1,a2,a3,rfl⟩
inductive rD1(K:PySem.W.Frag)(g:G1)(xs:List V)(H:Hp)(Q:VK):Prop
 | mk (Z:Zt) (A:List Addr) (st:Sx) (x:V) (dx:D) (d:D) (h0:xs=[x]) (h1:StateAt Z H st) (h2:(∀ q∈A,∃ o,H q=some o)) (h3:RepW K Z H A x dx) (h4:g dx=some d) (h5:∀ v' H',Ext Z H H'->StateAt Z H' st->Rep K Z H' A v' d->Q v' H')
inductive rD2(K:PySem.W.Frag)(g:G2)(xs:List V)(H:Hp)(Q:VK):Prop
 | mk (Z:Zt) (A:List Addr) (st:Sx) (x:V) (y:V) (dx:D) (dy:D) (d:D) (h0:xs=[x,y]) (h1:StateAt Z H st) (h2:(∀ q∈A,∃ o,H q=some o)) (h3:RepW K Z H A x dx) (h4:RepW K Z H A y dy) (h5:g dx dy=some d) (h6:∀ v' H',Ext Z H H'->StateAt Z H' st->Rep K Z H' A v' d->Q v' H')
section
variable {X:Cx} {e e2:Expr} {es:List Expr} {Fa Fb:FE} {FL:FA} {x:Str} {id T:String} {p pos:Pos} {g:G1} {g2:G2}
theorem CallR.imp{f:Value}{r r':List V->Hp->VK->Prop}(h:CallR X f r)(hi:∀ xs H Q,r' xs H Q->r xs H Q):CallR X f r':=fun pins s σ H xs us Q I rv q=>h pins s σ H xs us Q I rv (hi xs H Q q)
theorem read1{Z:Zt}{A:List Addr}{σ:L2.St}{H:Hp}{Q:VK}(h:tD X Z A (f1 g Fa) σ H Q):tDW X Z A Fa σ H fun x H1=>tNil σ H1 fun xs H2=>rD1 X.K g (x::xs) H2 Q:=by
 obtain⟨B,ow,δ,s,d,s',R,S,e,q⟩:=h
 unfold f1 at e
 first | refine bnd2 e fun dx s1 e1 e=>?_ | refine mpp2 e fun dx s1 e1 e=>?_
 replace e:((g dx).map fun d=>(d,s1))=some (d,s'):=e
 cases e3:g dx with
 | none=>rw[e3]at e;cases e
 | some d' =>
  rw[e3]at e
  cases e
  exact⟨B,ow,δ,s,dx,s',R,S,e1,fun v H1 x1 S1 r1=>⟨Z,_,s',v,dx,d,rfl,S1,(R.mono x1).all,r1,e3,fun v' H' a b c=>q v' H' (x1.trans a) b c⟩⟩
theorem read2{Z:Zt}{A:List Addr}{σ:L2.St}{H:Hp}{Q:VK}(h:tD X Z A (f2 g2 Fa Fb) σ H Q):tDW X Z A Fa σ H fun x H1=>tDW X Z A Fb σ H1 fun y H2=>tNil σ H2 fun xs H3=>rD2 X.K g2 (x::y::xs) H3 Q:=by
 obtain⟨B,ow,δ,s,d,s',R,S,e,q⟩:=h
 unfold f2 at e
 first | refine bnd2 e fun dx s1 e1 e=>?_ | refine mpp2 e fun dx s1 e1 e=>?_
 replace e:((Fb δ s1).bind fun q=>(g2 dx q.1).map fun d=>(d,q.2))=some (d,s'):=e
 first | refine bnd2 e fun dy s2 e2 e=>?_ | refine mpp2 e fun dy s2 e2 e=>?_
 replace e:((g2 dx dy).map fun d=>(d,s2))=some (d,s'):=e
 cases e3:g2 dx dy with
 | none=>rw[e3]at e;cases e
 | some d' =>
  rw[e3]at e
  cases e
  exact⟨B,ow,δ,s,dx,s1,R,S,e1,fun v H1 x1 S1 r1=>⟨B,ow,δ,s1,dy,s',R.mono x1,S1,e2,fun u H2 x2 S2 r2=>⟨Z,_,s',v,u,dx,dy,d,rfl,S2,((R.mono x1).mono x2).all,r1.ext x2,r2,e3,fun v' H' a b c=>q v' H' ((x1.trans x2).trans a) b c⟩⟩⟩
theorem z0v(hc:CallR X (.builtin id) (rD1 X.K g))(hv:bootBuiltins x=some (.builtin id))(hm:X.mg x=none)(ha:DW X e Fa)(hg:Gl X x:=by rfl)(hn:x≠"__name__":=by decide)(hdb:(x == ("__debug__":Str))=false:=by decide)
  (hs:starEach [e] X.env=(false,eval e X.env)::starEach [] X.env:=by rfl):DE X (.Call (.Name x p) [e] [] pos) (f1 g Fa):=⟨fun Z A=>PE.imp (z3U hc hg hm hv (zS (ha Z A) z0U hs) hn hdb hs rfl) fun σ H Q q=>read1 q⟩
theorem zbJ(hc:CallR X (.builtin id) (rD2 X.K g2))(hv:bootBuiltins x=some (.builtin id))(hm:X.mg x=none)(ha:DW X e Fa)(hb:DW X e2 Fb)(hg:Gl X x:=by rfl)(hn:x≠"__name__":=by decide)(hdb:(x == ("__debug__":Str))=false:=by decide)
  (hs:starEach [e,e2] X.env=(false,eval e X.env)::starEach [e2] X.env:=by rfl) (hs2:starEach [e2] X.env=(false,eval e2 X.env)::starEach [] X.env:=by rfl) (hpl:(backTo pos (starEach [e2] X.env)).any (·.1)=false:=by rfl):DE X (.Call (.Name x p) [e,e2] [] pos) (f2 g2 Fa Fb):=⟨fun Z A=>PE.imp (z3U hc hg hm hv (zS (ha Z A) (zS (hb Z A) z0U hs2) hs) hn hdb hs hpl) fun σ H Q q=>read2 q⟩
theorem z4I(hc:CallR X (.type T) (rD1 X.K g))(hv:bootBuiltins x=some (.type T))(hm:X.mg x=none)(ha:DW X e Fa)(hg:Gl X x:=by rfl)(hn:x≠"__name__":=by decide)(hdb:(x == ("__debug__":Str))=false:=by decide)
  (hs:starEach [e] X.env=(false,eval e X.env)::starEach [] X.env:=by rfl):DE X (.Call (.Name x p) [e] [] pos) (f1 g Fa):=⟨fun Z A=>PE.imp (z57 hc hg hm hv (zS (ha Z A) z0U hs) hn hdb hs rfl) fun σ H Q q=>read1 q⟩
def gLen:G1:=fun d=>match d with | .list xs=>some (.int xs.length) | .tuple xs=>some (.int xs.length) | _=>none
theorem z05:CallR X (.builtin "len") (rD1 X.K gLen):=CallR.imp z4w fun xs H Q zff=>by
 obtain⟨Z,A,st,x,dx,d,e0,S,hA,rx,e,q⟩:=zff
 subst e0
 cases dx with
 | list ds=>cases e;obtain⟨p,vs,ev,sq,_,rs⟩:=rx.list;exact⟨p,vs,by rw[ev],.inl sq,by rw[rs.length];exact q _ H (Ext.refl H) S (.int _)⟩
 | tuple ds=>cases e;obtain⟨p,vs,ev,sq,rs⟩:=rx.tuple;exact⟨p,vs,by rw[ev],.inr sq,by rw[rs.length];exact q _ H (Ext.refl H) S (.int _)⟩
 | _=>cases e
def gInt:G1:=fun d=>match d with | .int i=>some (.int i) | .bool k=>some (.int (if k then 1 else 0)) | _=>none
theorem zcG:CallR X (.type "int") (rD1 X.K gInt):=CallR.imp z9Z fun xs H Q zfg=>by
 obtain⟨Z,A,st,x,dx,d,e0,S,hA,rx,e,q⟩:=zfg
 subst e0
 cases dx with
 | int i=>cases e;exact .inl ⟨i,by rw[rx.int],q _ H (Ext.refl H) S (.int _)⟩
 | bool i=>cases e;exact .inr ⟨i,by rw[rx.bool],q _ H (Ext.refl H) S (.int _)⟩
 | _=>cases e
def gMax:G2:=gI (fun _ _=>true) fun i j=>.int (if j > i then j else i)
def gMin:G2:=gI (fun _ _=>true) fun i j=>.int (if j < i then j else i)
theorem zcH(hc:X.calm=true):CallR X (.builtin "max") (rD2 X.K gMax):=CallR.imp (z9X hc) fun xs H Q zfh=>by
 obtain⟨Z,A,st,x,y,dx,dy,d,e0,S,hA,rx,ry,e,q⟩:=zfh
 subst e0
 unfold gMax gI at e
 split at e
 ·cases e;exact⟨_,_,by rw[rx.int,ry.int],q _ H (Ext.refl H) S (.int _)⟩
 ·cases e
theorem zcI(hc:X.calm=true):CallR X (.builtin "min") (rD2 X.K gMin):=CallR.imp (z9Y hc) fun xs H Q zfi=>by
 obtain⟨Z,A,st,x,y,dx,dy,d,e0,S,hA,rx,ry,e,q⟩:=zfi
 subst e0
 unfold gMin gI at e
 split at e
 ·cases e;exact⟨_,_,by rw[rx.int,ry.int],q _ H (Ext.refl H) S (.int _)⟩
 ·cases e
def gTuple:G1:=fun d=>match d with | .list xs=>some (.tuple xs) | .tuple xs=>some (.tuple xs) | _=>none
theorem z2C:CallR X (.type "tuple") (rD1 X.K gTuple):=CallR.imp z6g fun xs H Q zfj=>by
 obtain⟨Z,A,st,x,dx,d,e0,S,hA,rx,e,q⟩:=zfj
 subst e0
 cases dx with
 | list ds =>
  cases e;obtain⟨p,vs,ev,sq,_,rs⟩:=rx.list
  exact⟨p,vs,by rw[ev],.inl ⟨sq,fun l hl=>q _ _ (Ext.upd hl) (S.upd hl) (.tup ze (zM hA hl) (S.notZ hl) (rs.ext (Ext.upd hl)))⟩⟩
 | tuple ds =>
  cases e
  have rx':=rx
  obtain⟨p,vs,ev,sq,rs⟩:=rx.tuple
  subst ev
  refine⟨p,vs,rfl,.inr ⟨sq,q _ H (Ext.refl H) S ?_⟩⟩
  rcases rx' with r | ⟨_,_,_,_,e2,_⟩
  ·exact r
  ·cases e2
 | _=>cases e
def gList:G1:=fun d=>match d with | .list xs=>some (.list xs) | .tuple xs=>some (.list xs) | _=>none
theorem z7S:CallR X (.type "list") (rD1 X.K gList):=CallR.imp z2W fun xs H Q zfk=>by
 obtain⟨Z,A,st,x,dx,d,e0,S,hA,rx,e,q⟩:=zfk
 subst e0
 cases dx with
 | list ds =>
  cases e;obtain⟨p,vs,ev,sq,_,rs⟩:=rx.list
  exact⟨p,vs,by rw[ev],.inl sq,fun l hl=>q _ _ (Ext.upd hl) (S.upd hl) (.lst ze (zM hA hl) (S.notZ hl) (rs.ext (Ext.upd hl)))⟩
 | tuple ds =>
  cases e;obtain⟨p,vs,ev,sq,rs⟩:=rx.tuple
  exact⟨p,vs,by rw[ev],.inr sq,fun l hl=>q _ _ (Ext.upd hl) (S.upd hl) (.lst ze (zM hA hl) (S.notZ hl) (rs.ext (Ext.upd hl)))⟩
 | _=>cases e
def bools:List D->Option (List Bool)
 | []=>some []
 | .bool k::r=>(bools r).map (k::·)
 | _=>none
def gAll:G1:=fun d=>match d with | .list xs=>(bools xs).map fun ks=>.bool (ks.all (fun b=>b)) | _=>none
theorem z78:∀ {ds:List D} {ks:List Bool},bools ds=some ks->ds=ks.map PyData.bool
 | [],ks,e=>by simp[bools]at e;subst e;rfl
 | d::r,ks,e=>by
  cases d with
  | bool k =>
   simp only[bools,Option.map_eq_some_iff]at e
   obtain⟨ks',h1,rfl⟩:=e
   rw[z78 h1];rfl
  | _=>cases e
theorem zam(ks:List Bool):(List.range ks.length).all (fun i=>ks.getD i false)=ks.all (fun b=>b):=by
 induction ks with
 | nil=>rfl
 | cons k r ih =>
  rw[List.length_cons,List.range_succ_eq_map,List.all_cons,List.all_map,List.all_cons,<- ih]
  congr 1
theorem zcJ(hc:X.calm=true):CallR X (.builtin "all") (rD1 X.K gAll):=fun pins s σ H xs us Q I rv zfl=>by
 obtain⟨Z,A,st,x,dx,d,e0,S,hA,rx,e,q⟩:=zfl
 subst e0
 obtain⟨u,rfl,ru⟩:=vals1 rv
 cases dx with
 | list ds =>
  replace e:((bools ds).map fun ks=>PyData.bool (ks.all (fun b=>b)))=some d:=e
  first | refine bnd1 e fun ks e1 e=>?_ | refine mpp1 e fun ks e1 e=>?_
  cases e
  have eds:=z78 e1
  subst eds
  obtain⟨p,vs,ev,sq,_,rs⟩:=rx.list
  subst ev
  cases (show u=Value.ref p from ru)
  obtain⟨its,r2,pl,_⟩:=I.list sq
  have hl:=pl.isList
  have lens:its.length=ks.length:=by rw[<- r2.length,rs.length,List.length_map]
  refine call_all_walk (wpAny_pyIter_list hl ?_)
  have lt:LT.lt (α:=Nat) p s.heap.objs.size:=by obtain⟨_,e,_⟩:=hl;exact Heap.lt_size e
  refine⟨_,_,_,_,_,_,fun i=>ks.getD i false,rfl,Walks.list (A:=X.A.in1) (show X.A.in1.handled=none from I.ok.hd hc) s.heap.objs.size p (Nat.ne_of_lt lt) its.toArray,⟨⟨_,Heap.get?_push_size _ rfl,rfl,rfl⟩,hl.push _⟩,?_,fun h' tk kp=>?_⟩
  ·intro i v s' Q' E' hP hQ
   have hi:its[i]?=some v:=by simpa using hP
   obtain⟨vv,h1,h2⟩:∃ vv,vs[i]?=some vv/\RelV vv v:=by
    cases e3:vs[i]? with
    | none=>rw[r2.none_of e3]at hi;cases hi
    | some vv=>obtain⟨u',h3,h4⟩:=r2.get e3;rw[h3]at hi;cases hi;exact⟨vv,rfl,h4⟩
   obtain⟨dd,h3,h4⟩:=rs.at h1
   rw[List.getElem?_map]at h3
   cases e4:ks[i]? with
   | none=>rw[e4]at h3;cases h3
   | some k =>
    rw[e4]at h3
    cases h3
    cases h4
    cases h2
    refine wpAny_truthy_bool ?_
    have eg:ks.getD i false=k:=by simp[e4]
    have hQ2:Q' (ks.getD i false) s':=hQ
    rw[eg]at hQ2
    exact hQ2
  ·have e5:(List.range its.toArray.size).all (fun i=>ks.getD i false)=ks.all (fun b=>b):=by rw[List.size_toArray,lens];exact zam ks
   rw[e5]
   refine⟨.bl _,H,?_,rfl,q _ H (Ext.refl H) S (.bl _)⟩
   refine I.kept (h':=h') (t':=tk) fun b o eb=>kp b o ?_ (Heap.get?_push_of_some _ eb)
   intro z
   have z':b=s.heap.objs.size:=by simpa using z
   rw[z']at eb
   exact Nat.lt_irrefl _ (Heap.lt_size eb)
 | _=>cases e
def tyN:D->Option String
 | .none=>some "NoneType" | .bool _=>some "bool" | .int _=>some "int" | .str _=>some "str" | .list _=>some "list" | .tuple _=>some "tuple" | .dict _=>none
def gInst(T:String):G1:=fun d=>(tyN d).map fun t=>.bool (t == T || (t == "bool" && T == "int"))
def isTy(T:String):Bool:=T == "int" || T == "bool" || T == "str" || T == "list" || T == "tuple"
theorem z65(K:PySem.W.Frag){t T:String}(ht:t="NoneType"\/t="bool"\/t="int"\/t="str"\/t="list"\/t="tuple")(hT:isTy T=true):PySem.W.kitOne K (.type t) (.type T)=some (t == T || (t == "bool" && T == "int")):=by
 have hT':T="int"\/T="bool"\/T="str"\/T="list"\/T="tuple":=by simpa [isTy,or_assoc] using hT
 rcases hT' with rfl | rfl | rfl | rfl | rfl <;> rcases ht with rfl | rfl | rfl | rfl | rfl | rfl <;> first | rfl | decide +kernel
theorem TypeIs.isinst{pins:List (Addr × Obj)}{σ:L2.St}{H:Hp}{s:Shared}{Z:Zt}{A:List Addr}{v:V}{d:D}{u:Value}{t:String}{Q:Value->Shared->Prop}(I:Inv X pins σ H s)(r:RepW X.K Z H A v d)(ru:RelV v u)(et:tyN d=some t)(hT:isTy T=true)
  (h:∀ tk,Q (.bool (t == T || (t == "bool" && T == "int"))) {s with toks:=tk}):wpAny (model X.prog X.w) X.A (call (.builtin "isinstance") [u,.type T]) Q X.xe s:=by
 cases d with
 | none=>cases et;cases r.none;cases ru;exact PySem.W.kia_one PySem.W.kitx_none I.kIn True.intro (z65 X.K (by simp) hT) (fun z=>nomatch z) h
 | bool b=>cases et;cases r.bool;cases ru;exact PySem.W.kia_one PySem.W.kitx_bool I.kIn True.intro (z65 X.K (by simp) hT) (fun z=>nomatch z) h
 | int b=>cases et;cases r.int;obtain⟨t,rfl⟩:=ru;exact PySem.W.kia_one PySem.W.kitx_int I.kIn True.intro (z65 X.K (by simp) hT) (fun z=>nomatch z) h
 | str b=>cases et;cases r.str;obtain⟨t,rfl⟩:=ru;exact PySem.W.kia_one PySem.W.kitx_str I.kIn True.intro (z65 X.K (by simp) hT) (fun z=>nomatch z) h
 | list ds =>
  cases et
  obtain⟨p,vs,rfl,sq,_,rs⟩:=r.list
  cases ru
  obtain⟨its,r2,pl,_⟩:=I.list sq
  obtain⟨o,e1,e2,_⟩:=pl.isList
  exact PySem.W.kia_one PySem.W.kitx_list I.kIn ⟨o,e1,e2⟩ (z65 X.K (by simp) hT) (fun z=>nomatch z) h
 | tuple ds =>
  cases et
  obtain⟨p,vs,rfl,sq,rs⟩:=r.tuple
  cases ru
  obtain⟨its,r2,⟨o,e1,e2,_⟩,_⟩:=I.tuple sq
  exact PySem.W.kia_one PySem.W.kitx_tuple I.kIn ⟨o,e1,e2⟩ (z65 X.K (by simp) hT) (fun z=>nomatch z) h
 | dict _=>cases et
theorem zdp(hT:isTy T=true):CallR X (.builtin "isinstance") (fun xs H Q=>∃ y,xs=[y,.ty T]/\rD1 X.K (gInst T) [y] H Q):=fun pins s σ H xs us Q I rv zfm=>by
 obtain⟨y,e0,Z,A,st,x,dx,d,e1,S,hA,rx,e,q⟩:=zfm
 subst e0
 cases e1
 obtain⟨u,u2,rfl,ru,ru2⟩:=vals2 rv
 cases ru2
 unfold gInst at e
 first | refine bnd1 e fun t et e=>?_ | refine mpp1 e fun t et e=>?_
 cases e
 exact TypeIs.isinst I rx ru et hT fun tk=>⟨.bl _,H,I.tok tk,rfl,q _ H (Ext.refl H) S (.bl _)⟩
theorem z15{q:Pos}(hT:isTy T=true)(hv:bootBuiltins x=some (.type T))(hm:X.mg "isinstance"=none)(hm2:X.mg x=none)(ha:DW X e Fa)(hg:Gl X "isinstance":=by rfl)(hg2:Gl X x:=by rfl)
  (hn:x≠"__name__":=by decide) (hdb:(x == ("__debug__":Str))=false:=by decide) (hs:starEach [e,.Name x q] X.env=(false,eval e X.env)::starEach [.Name x q] X.env:=by rfl):DE X (.Call (.Name "isinstance" p) [e,.Name x q] [] pos) (f1 (gInst T) Fa):=⟨fun Z A=>PE.imp (z3U (zdp hT) hg hm rfl (zS (ha Z A) (zS (zd2 (v:=.ty T) hg2 hm2 hv rfl hn hdb) z0U rfl) hs) (by decide) (by decide) hs rfl) fun σ H Q h=>by
  obtain⟨B,ow,δ,s,dx,s1,R,S,e1,q⟩:=read1 h
  exact⟨B,ow,δ,s,dx,s1,R,S,e1,fun v H1 x1 S1 r1=>⟨v,rfl,q v H1 x1 S1 r1⟩⟩⟩
abbrev GF:=List D->Sx->Option (D × Sx)
inductive spD(K:PySem.W.Frag)(g:GF)(vs:List V)(H:Hp)(Q:VK)(_E:XK):Prop
 | mk (Z:Zt) (A:List Addr) (ds:List D) (s:Sx) (d:D) (s':Sx) (h0:Reps K Z H A vs ds) (h1:(∀ q∈A,(∃ o,H q=some o)/\NotZ Z q)) (h2:StateAt Z H s) (h3:g ds s=some (d,s')) (h4:∀ v H',Ext Z H H'->StateAt Z H' s'->Rep K Z H' A v d->Q v H')
def fCall(g:GF)(FL:FA):FE:=fun δ s=>(FL δ s).bind fun p=>g p.1 p.2
theorem zan{gf:GF}{Z:Zt}{A:List Addr}{σ:L2.St}{H:Hp}{Q:VK}{E:XK}(h:tD X Z A (fCall gf FL) σ H Q):tCall (spD X.K gf) [] E (tDA X Z A FL) σ H Q:=by
 obtain⟨B,ow,δ,s,d,s',R,S,e,q⟩:=h
 unfold fCall at e
 first | refine bnd2 e fun ds s1 e1 e=>?_ | refine mpp2 e fun ds s1 e1 e=>?_
 refine⟨B,ow,δ,s,ds,s1,R,S,e1,fun vs H1 x1 S1 rs=>?_⟩
 show spD X.K gf (vs++[]) H1 Q E
 rw[List.append_nil]
 refine⟨Z,A++ow.map (·.2),ds,s1,d,s',rs,fun q hq=>?_,S1,e,fun v H' a b c=>q v H' (x1.trans a) b c⟩
 refine⟨(R.mono x1).all q hq,?_⟩
 rcases List.mem_append.mp hq with h | h
 ·exact(R.ok q h).2
 ·obtain⟨⟨i,p⟩,hp,rfl⟩:=List.mem_map.mp h
  exact(R.ows i p hp).2.2.1
theorem zdq{gf:GF}{k:Nat}{f:Addr}{fd:FuncData}{ps:List Str}(G:FnOk X.prog X.w X.K X.mg X.base CX0 k f fd ps (spD X.K gf))(hr:Room k X.A)(hm:X.mg x=some (.ref f))(hk:PySem.W.keepIn X.K (.ref f)=true)(hb:Binds X.K fd ps [])
  (ha:DA X (e::es) FL) (hg:Gl X x:=by rfl) (hdb:(x == ("__debug__":Str))=false:=by decide) (he:starEach (e::es) X.env=(false,eval e X.env)::starEach es X.env:=by rfl) (hpl:(backTo pos (starEach es X.env)).any (·.1)=false:=by rfl) :
  DE X (.Call (.Name x p) (e::es) [] pos) (fCall gf FL):=⟨fun Z A=>PE.imp (z7K G hr hg hm hk hb .nil pass0 (ha Z A) hdb he hpl) fun σ H Q q=>zan q⟩
end
end L3
namespace L3
open PySem L2 PySem.Spec PyProof.Rows
inductive Out where
 | next (δ:Sl) | ret (d:D) | brk (δ:Sl) | cnt (δ:Sl) | own (xs:List D)
abbrev GS:=Sl->Sx->Option (Out × Sx)
def postS(X:Cx)(Z:Zt)(A:List Addr)(ow:Ow)(H:Hp)(s':Sx)(E:Ends):Out->Prop
 | .next δ'=>∀ ow' σ' H',RepS X.K X.H₀ Z A ow' σ' δ' H'->StateAt Z H' s'->Frm Z ow H ow' H'->E.nx σ' H'
 | .ret d=>∀ v H',Ext Z X.H₀ H'->StateAt Z H' s'->Rep X.K Z H' A v d->E.rt v H'
 | .own xs=>∀ p vs H',Ext Z X.H₀ H'->StateAt Z H' s'->X.H₀ p=none->H' p=some (.lst vs)->Reps X.K Z H' (p::A) vs xs->E.rt (.ref p) H'
 | .brk δ'=>∀ ow' σ' H',RepS X.K X.H₀ Z A ow' σ' δ' H'->StateAt Z H' s'->Frm Z ow H ow' H'->E.bk σ' H'
 | .cnt δ'=>∀ ow' σ' H',RepS X.K X.H₀ Z A ow' σ' δ' H'->StateAt Z H' s'->Frm Z ow H ow' H'->E.ct σ' H'
theorem postS.frm{X:Cx}{Z:Zt}{A:List Addr}{ow ow':Ow}{H H':Hp}{s':Sx}{E:Ends}{o:Out}(h:postS X Z A ow H s' E o)(f:Frm Z ow H ow' H'):postS X Z A ow' H' s' E o:=by
 cases o with
 | next δ=>exact fun ow2 σ2 H2 a b c=>h ow2 σ2 H2 a b (f.trans c)
 | ret d=>exact h
 | own d=>exact h
 | brk δ=>exact fun ow2 σ2 H2 a b c=>h ow2 σ2 H2 a b (f.trans c)
 | cnt δ=>exact fun ow2 σ2 H2 a b c=>h ow2 σ2 H2 a b (f.trans c)
inductive tDS(X:Cx)(Z:Zt)(A:List Addr)(G:GS)(E:Ends)(σ:L2.St)(H:Hp):Prop
 | mk (ow:Ow) (δ:Sl) (s:Sx) (o:Out) (s':Sx) (h0:RepS X.K X.H₀ Z A ow σ δ H) (h1:StateAt Z H s) (h2:G δ s=some (o,s')) (h3:postS X Z A ow H s' E o)
structure DS(X:Cx)(st:Stmt)(G:GS):Prop where
 go:∀ Z A,PS X st (tDS X Z A G)
instance {X:Cx} {st:Stmt} {G:GS}:CoeFun (DS X st G) (fun _=>∀ Z A,PS X st (tDS X Z A G)):=⟨fun h=>h.go⟩
structure DSs(X:Cx)(st:List Stmt)(G:GS):Prop where
 go:∀ Z A,PSs X st (tDS X Z A G)
instance {X:Cx} {st:List Stmt} {G:GS}:CoeFun (DSs X st G) (fun _=>∀ Z A,PSs X st (tDS X Z A G)):=⟨fun h=>h.go⟩
def sNext:GS:=fun δ s=>some (.next δ,s)
def sSeq(G1 G2:GS):GS:=fun δ s=>match G1 δ s with | some (.next δ',s')=>G2 δ' s' | r=>r
section
variable {X:Cx} {st:Stmt} {sts body a b:List Stmt} {G G1 G2:GS} {e c:Expr} {F:FE} {Ft:FT} {FL:FA} {pos:Pos}
theorem z08:DSs X [] sNext:=⟨fun Z A=>PSs.imp z54 fun E σ H zfn=>by
 obtain⟨ow,δ,s,o,s',R,S,e,q⟩:=zfn
 cases e
 exact q ow σ H R S .refl⟩
theorem zh(h:DS X st G):DSs X [st] G:=⟨fun Z A=>z2m (h Z A)⟩
theorem dss_cons(h1:DS X st G1)(h2:DSs X sts G2):DSs X (st::sts) (sSeq G1 G2):=⟨fun Z A=>PSs.imp (zK (h1 Z A) (h2 Z A)) fun E σ H zfo=>by
 obtain⟨ow,δ,s,o,s',R,S,e,q⟩:=zfo
 unfold sSeq at e
 cases e1:G1 δ s with
 | none=>rw[e1]at e;cases e
 | some p =>
  obtain⟨o1,s1⟩:=p
  rw[e1]at e
  cases o1 with
  | next δ1=>exact⟨ow,δ,s,.next δ1,s1,R,S,e1,fun ow' σ' H' R' S' f=>⟨ow',δ1,s1,o,s',R',S',e,q.frm f⟩⟩
  | ret d=>cases e;exact⟨ow,δ,s,_,_,R,S,e1,q⟩
  | own d=>cases e;exact⟨ow,δ,s,_,_,R,S,e1,q⟩
  | brk d=>cases e;exact⟨ow,δ,s,_,_,R,S,e1,q⟩
  | cnt d=>cases e;exact⟨ow,δ,s,_,_,R,S,e1,q⟩⟩
theorem RepS.set{K:PySem.W.Frag}{B:Hp}{Z:Zt}{A:List Addr}{ow:Ow}{σ:L2.St}{δ:Sl}{H:Hp}{i:Nat}{v:V}{d:D}(R:RepS K B Z A ow σ δ H)(r:Rep K Z H (A++ow.map (·.2)) v d) :
  RepS K B Z A (ow.filter fun p=>decide (p.1≠i)) (σ.set i (some v)) (δ.set i (.val d)) H/\Frm Z ow H (ow.filter fun p=>decide (p.1≠i)) H:=by
 have sub:∀ q∈A++(ow.filter fun p=>decide (p.1≠i)).map (·.2),q∈A++ow.map (·.2):=fun q hq=>by
  rcases List.mem_append.mp hq with h | h
  ·exact List.mem_append_left _ h
  ·obtain⟨p,hp,rfl⟩:=List.mem_map.mp h
   exact List.mem_append_right _ (List.mem_map_of_mem (List.mem_filter.mp hp).1)
 refine⟨⟨R.ok,R.ext,by rw[List.length_set,List.length_set];exact R.len,fun j d' h=>?_,fun j xs h=>?_,fun j p h=>R.ows j p (List.mem_filter.mp h).1,fun j k p h1 h2=>R.inj j k p (List.mem_filter.mp h1).1 (List.mem_filter.mp h2).1⟩,fun b o h n m=>⟨h,fun z=>m ?_⟩⟩
 ·by_cases hj:i=j
  ·subst hj
   have hi:i < δ.length:=by
    have:=(List.getElem?_eq_some_iff.mp h).1
    rwa [List.length_set]at this
   rw[List.getElem?_set_self hi]at h
   cases h
   exact⟨v,List.getElem?_set_self (by rw[<- R.len];exact hi),r.sub sub⟩
  ·rw[List.getElem?_set_ne hj]at h
   obtain⟨v',h1,h2⟩:=R.val j d' h
   exact⟨v',by rw[List.getElem?_set_ne hj];exact h1,h2.sub sub⟩
 ·by_cases hj:i=j
  ·subst hj
   have hi:i < δ.length:=by
    have:=(List.getElem?_eq_some_iff.mp h).1
    rwa [List.length_set]at this
   rw[List.getElem?_set_self hi]at h
   cases h
  ·rw[List.getElem?_set_ne hj]at h
   obtain⟨p,vs,h1,h2,h3,h4⟩:=R.own j xs h
   exact⟨p,vs,List.mem_filter.mpr ⟨h1,decide_eq_true (Ne.symm hj)⟩,by rw[List.getElem?_set_ne hj];exact h2,h3,h4.sub sub⟩
 ·obtain⟨p,hp,e⟩:=List.mem_map.mp z
  exact List.mem_map.mpr ⟨p,(List.mem_filter.mp hp).1,e⟩
def sSet(i:Nat)(F:FE):GS:=fun δ s=>(F δ s).map fun p=>(.next (δ.set i (.val p.1)),p.2)
theorem ds_set{i:Nat}{x:Str}{pos':Pos}(hN:X.N.Nodup)(he:DE X e F)(hi:X.N[i]?=some x:=by rfl)(hx:Loc X.env.scope x:=by first | exact Or.inl rfl | exact Or.inr rfl)(hs:swapsWith e (some (.Name x pos')) pos.line X.env=pure false:=by rfl)
  (hf:X.fn x=true\/X.env.scope.names.lookup x=some .local:=by first | exact .inl rfl | exact .inr rfl | assumption):DS X (.Assign [.Name x pos'] e pos) (sSet i F):=⟨fun Z A=>PS.imp (z2u hN hi hx (he Z A) hs hf) fun E σ H zfp=>by
 obtain⟨ow,δ,s,o,s',R,S,e,q⟩:=zfp
 unfold sSet at e
 cases e1:F δ s with
 | none=>rw[e1]at e;cases e
 | some p =>
  rw[e1]at e
  cases e
  refine⟨_,ow,δ,s,_,_,R,S,e1,fun v H' x1 S1 r=>?_⟩
  obtain⟨R',f⟩:=(R.mono x1).set (i:=i) r
  exact q _ _ H' R' S1 ((Frm.ext x1).trans f)⟩
def sPar(i j:Nat)(FL:FA):GS:=fun δ s=>(FL δ s).bind fun p=>match p.1 with | [x,y]=>some (.next ((δ.set i (.val x)).set j (.val y)),p.2) | _=>none
theorem z8B{i j:Nat}{x y:Str}{a b:Expr}{px py pt:Pos}{kt k2 pt2}(hN:X.N.Nodup)(hij:i≠j)(ha:DA X [a,b] FL)(hw:swappedStores [.Tuple [.Name x px,.Name y py] kt pt] (.Tuple [a,b] k2 pt2) X.env=pure (some [x,y]))
  (hi:X.N[i]?=some x:=by rfl) (hj:X.N[j]?=some y:=by rfl) (hx:X.env.scope.names.lookup x=some .local:=by rfl) (hy:X.env.scope.names.lookup y=some .local:=by rfl) (hc:X.calm=true:=by rfl)
  (hs:swapsWithSole [.Tuple [.Name x px,.Name y py] kt pt] (.Tuple [a,b] k2 pt2) pos.line X.env=pure false:=by rfl):DS X (.Assign [.Tuple [.Name x px,.Name y py] kt pt] (.Tuple [a,b] k2 pt2) pos) (sPar i j FL):=⟨fun Z A=>PS.imp (zed hc hN hi hj hij hx hy (ha Z A) hw hs) fun E σ H zfq=>by
  obtain⟨ow,δ,s,o,s',R,S,e,q⟩:=zfq
  unfold sPar at e
  cases e1:FL δ s with
  | none=>rw[e1]at e;cases e
  | some p =>
   obtain⟨ds,s1⟩:=p
   rw[e1]at e
   refine⟨_,ow,δ,s,ds,s1,R,S,e1,fun vs H' x1 S1 rs=>?_⟩
   rcases ds with _ | ⟨dx,_ | ⟨dy,_ | _⟩⟩
   ·cases e
   ·cases e
   ·cases e
    cases rs with
    | cons r1 rs =>
     cases rs with
     | cons r2 rs =>
      cases rs
      obtain⟨R1,f1⟩:=(R.mono x1).set (i:=i) r1
      obtain⟨R2,f2⟩:=R1.set (i:=j) (r2.frm f1)
      exact⟨_,_,rfl,q _ _ H' R2 S1 (((Frm.ext x1).trans f1).trans f2)⟩
   ·cases e⟩
def sRet(F:FE):GS:=fun δ s=>(F δ s).map fun p=>(.ret p.1,p.2)
theorem zG(he:DE X e F):DS X (.Return (some e) pos) (sRet F):=⟨fun Z A=>PS.imp (z8t (he Z A)) fun E σ H zfr=>by
 obtain⟨ow,δ,s,o,s',R,S,e,q⟩:=zfr
 unfold sRet at e
 cases e1:F δ s with
 | none=>rw[e1]at e;cases e
 | some p =>
  rw[e1]at e
  cases e
  exact⟨_,ow,δ,s,_,_,R,S,e1,fun v H' x1 S1 r=>q v H' (R.ext.trans x1) S1 (r.sub fun q hq=>List.mem_append_left _ hq)⟩⟩
def sIf(Ft:FT)(G1 G2:GS):GS:=fun δ s=>(Ft δ s).bind fun p=>if p.1=true then G1 δ p.2 else G2 δ p.2
theorem z1U(hc:DT X c Ft)(ha:DSs X a G1)(hb:DSs X b G2):DS X (.If c a b pos) (sIf Ft G1 G2):=⟨fun Z A=>PS.imp (z9Q (hc Z A) (ha Z A) (hb Z A)) fun E σ H zfs=>by
 obtain⟨ow,δ,s,o,s',R,S,e,q⟩:=zfs
 unfold sIf at e
 cases e1:Ft δ s with
 | none=>rw[e1]at e;cases e
 | some p =>
  obtain⟨k,s1⟩:=p
  rw[e1]at e
  refine⟨_,ow,δ,s,k,s1,R,S,e1,fun H1 x1 S1=>?_⟩
  cases k with
  | true=>exact iteT ⟨ow,δ,s1,o,s',R.mono x1,S1,e,q.frm (Frm.ext x1)⟩
  | false=>exact iteF ⟨ow,δ,s1,o,s',R.mono x1,S1,e,q.frm (Frm.ext x1)⟩⟩
def whileN(Ft:FT)(G:GS):Nat->GS
 | 0,_,_=>none
 | n + 1,δ,s=>(Ft δ s).bind fun p=>if p.1=true then (match G δ p.2 with
   | some (.next δ',s')=>whileN Ft G n δ' s'
   | some (.cnt δ',s')=>whileN Ft G n δ' s'
   | some (.brk δ',s')=>some (.next δ',s')
   | some (.ret d,s')=>some (.ret d,s')
   | some (.own d,s')=>some (.own d,s')
   | none=>none) else some (.next δ,p.2)
def fuel:Nat:=1000000000
def sWhile(Ft:FT)(G:GS):GS:=whileN Ft G fuel
theorem z2D(hc:DT X c Ft)(hb:DSs X body G)(hp:PassesOwn (model X.prog X.w) X.A X.env X.xe:=by exact PassesOwn.never):DS X (.While c body [] pos) (sWhile Ft G):=⟨fun Z A=>PS.imp (zbp hp (hc Z A) (hb Z A)) fun E σ H zft=>by
 obtain⟨ow,δ,s,o,s',R,S,e,q⟩:=zft
 refine⟨fun n σ H=>∃ ow δ s,RepS X.K X.H₀ Z A ow σ δ H/\StateAt Z H s/\whileN Ft G n δ s=some (o,s')/\postS X Z A ow H s' E o,⟨fuel,ow,δ,s,R,S,e,q⟩,?_⟩
 clear e q S R
 rintro n σ H ⟨ow,δ,s,R,S,e,q⟩
 cases n with
 | zero=>cases e
 | succ n =>
  unfold whileN at e
  cases e1:Ft δ s with
  | none=>rw[e1]at e;cases e
  | some p =>
   obtain⟨k,s1⟩:=p
   rw[e1]at e
   refine⟨_,ow,δ,s,k,s1,R,S,e1,fun H1 x1 S1=>?_⟩
   cases k with
   | false=>cases e;exact iteF (q ow σ H1 (R.mono x1) S1 (Frm.ext x1))
   | true =>
    refine iteT ?_
    refine⟨fun σ' H'=>∃ ow δ s,RepS X.K X.H₀ Z A ow σ' δ H'/\StateAt Z H' s/\whileN Ft G n δ s=some (o,s')/\postS X Z A ow H' s' E o,fun σ' H' h=>⟨n,Nat.lt_succ_self _,h⟩,?_⟩
    replace e:(match G δ s1 with
     | some (.next δ',s')=>whileN Ft G n δ' s'
     | some (.cnt δ',s')=>whileN Ft G n δ' s'
     | some (.brk δ',s')=>some (.next δ',s')
     | some (.ret d,s')=>some (.ret d,s')
     | some (.own d,s')=>some (.own d,s')
     | none=>none)=some (o,s'):=e
    have q1:=q.frm (Frm.ext x1)
    cases e2:G δ s1 with
    | none=>rw[e2]at e;cases e
    | some r =>
     obtain⟨o2,s2⟩:=r
     rw[e2]at e
     refine⟨ow,δ,s1,o2,s2,R.mono x1,S1,e2,?_⟩
     cases o2 with
     | next δ2=>exact fun ow' σ' H' R' S' f=>⟨ow',δ2,s2,R',S',e,q1.frm f⟩
     | cnt δ2=>exact fun ow' σ' H' R' S' f=>⟨ow',δ2,s2,R',S',e,q1.frm f⟩
     | brk δ2=>cases e;exact q1
     | ret d=>cases e;exact q1
     | own d=>cases e;exact q1⟩
theorem z0x{Ft:FT}{G:GS}:∀ {n m:Nat} {δ:Sl} {s:Sx} {r:Out × Sx},whileN Ft G n δ s=some r->n<=m->whileN Ft G m δ s=some r
 | 0,_,_,_,_,h,_=>by cases h
 | n + 1,0,_,_,_,_,h=>absurd h (Nat.not_succ_le_zero _)
 | n + 1,m + 1,δ,s,r,h,hm=>by
  unfold whileN at h ⊢
  cases e1:Ft δ s with
  | none=>rw[e1]at h;cases h
  | some p =>
   rw[e1]at h
   obtain⟨k,s1⟩:=p
   cases k with
   | false=>exact h
   | true =>
    simp only[Option.bind_some,if_true]at h ⊢
    cases e2:G δ s1 with
    | none=>rw[e2]at h;cases h
    | some q =>
     obtain⟨o2,s2⟩:=q
     rw[e2]at h
     cases o2 with
     | next δ2=>exact z0x h (Nat.le_of_succ_le_succ hm)
     | cnt δ2=>exact z0x h (Nat.le_of_succ_le_succ hm)
     | brk δ2=>exact h
     | ret d=>exact h
     | own d=>exact h
def mkFn(n m:Nat)(G:GS):GF:=fun ds s=>if ds.length=n then (match G (ds.map .val++List.replicate m .non) s with
 | some (.ret d,s')=>some (d,s')
 | some (.next _,s')=>some (.none,s')
 | _=>none) else none
theorem z8C{K:PySem.W.Frag}{Z:Zt}{H:Hp}{A:List Addr}{vs:List V}{ds:List D}(r:Reps K Z H A vs ds){m i:Nat}{d:D}(h:(ds.map Ce.val++List.replicate m Ce.non)[i]?=some (.val d)):∃ v,(vs.map some++List.replicate m none)[i]?=some (some v)/\Rep K Z H A v d:=by
 by_cases hi:i < ds.length
 ·rw[List.getElem?_append_left (by simpa using hi),List.getElem?_map]at h
  cases e:ds[i]? with
  | none=>rw[e]at h;cases h
  | some d' =>
   rw[e]at h
   cases h
   obtain⟨v,h1,h2⟩:=r.get e
   exact⟨v,by rw[List.getElem?_append_left (by rw[List.length_map,r.length];exact hi),List.getElem?_map,h1];rfl,h2⟩
 ·rw[List.getElem?_append_right (by simpa using Nat.not_lt.mp hi),List.getElem?_replicate]at h
  split at h <;> cases h
theorem z8D{ds:List D}{m i:Nat}{xs:List D}(h:(ds.map Ce.val++List.replicate m Ce.non)[i]?=some (.own xs)):False:=by
 by_cases hi:i < ds.length
 ·rw[List.getElem?_append_left (by simpa using hi),List.getElem?_map]at h
  cases e:ds[i]? with
  | none=>rw[e]at h;cases h
  | some d'=>rw[e]at h;cases h
 ·rw[List.getElem?_append_right (by simpa using Nat.not_lt.mp hi),List.getElem?_replicate]at h
  split at h <;> cases h
theorem z8E{n m:Nat}{G:GS}{ds:List D}{s:Sx}{r:D × Sx}(h:mkFn n m G ds s=some r):ds.length=n:=by
 unfold mkFn at h
 split at h
 ·assumption
 ·cases h
theorem fnD{P:Program}{w:World}{K:PySem.W.Frag}{mg:Str->Option Value}{base:Heap}{x qual:Str}{st:Stmt}{f:Addr}{fd:FuncData}{N ps:List Str}{k m:Nat}{G:GS}(Fn:Fun K x qual st f fd)(S:FnScope N ps (defScope st))(hN:N.length=ps.length + m)
  (hbody:∀ (cdv:Value) (A:Around) (outer:List Env) (s:Shared) (H:Hp) (E:XK),Room k (A.deeper (envOfC qual (defScope st) s.heap.objs.size f cdv))->DSs (cxOf CX0 P w K mg base N qual (defScope st) f cdv A outer s H E).nox (defBody st) G) :
  FnOk P w K mg base CX0 (k + 1) f fd ps (spD K (mkFn ps.length m G)):=by
 refine Fn.ok S (fun vs H Q E zfu=>?_) (fun cdv A outer s H vs Q E hr zfv=>?_)
 ·obtain⟨Z,A,ds,s,d,s',r,_,_,e,_⟩:=zfu
  rw[r.length];exact z8E e
 ·obtain⟨Z,A0,ds,st0,d,st1,r,hA,hS,e,q⟩:=zfv
  have hl:=z8E e
  refine⟨_,hbody cdv A outer s H E hr Z A0,?_⟩
  unfold mkFn at e
  rw[if_pos hl]at e
  have hst:L2.start N vs=vs.map some++List.replicate m none:=by
   unfold L2.start
   rw[hN,r.length,hl,Nat.add_sub_cancel_left]
  rw[hst]
  have R:RepS K H Z A0 [] (vs.map some++List.replicate m none) (ds.map .val++List.replicate m .non) H:={
   ok:=hA
   ext:=Ext.refl H
   len:=by simp[r.length]
   val:=fun i d h=>by
    obtain⟨v,h1,h2⟩:=z8C r h
    exact⟨v,h1,by rw[List.map_nil,List.append_nil];exact h2⟩
   own:=fun i xs h=>(z8D h).elim
   ows:=fun i p h=>nomatch h
   inj:=fun i j p h=>nomatch h}
  cases e1:G (ds.map .val++List.replicate m .non) st0 with
  | none=>rw[e1]at e;cases e
  | some r1 =>
   obtain⟨o,s1⟩:=r1
   rw[e1]at e
   refine⟨[],_,st0,o,s1,R,hS,e1,?_⟩
   cases o with
   | ret d'=>cases e;exact fun v H' a b c=>q v H' a b c
   | next δ'=>cases e;exact fun ow' σ' H' R' S' f=>q .non H' R'.ext S' .non
   | brk δ'=>cases e
   | own d'=>cases e
   | cnt δ'=>cases e
end
end L3
namespace L3
open PySem L2 PySem.Spec PyProof.Rows
def Src(K:PySem.W.Frag)(Z:Zt)(A:List Addr)(ow:Ow)(J:It)(ds:List D)(H:Hp):Prop:=∀ ow' H' st,Frm Z ow H ow' H'->StateAt Z H' st->(∀ q∈A++ow'.map (·.2),∃ o,H' q=some o)->∀ i,
 (∀ d,ds[i]?=some d->J.go i H'/\∀ x H3,J.yld i H' x H3->Ext Z H' H3/\StateAt Z H3 st/\Rep K Z H3 (A++ow'.map (·.2)) x d)/\(ds.length<=i->J.stop i H')
abbrev FI:=Sl->Sx->Option (List D × Sx)
inductive tDIK(K:PySem.W.Frag)(Z:Zt)(A:List Addr)(F:FI)(σ:L2.St)(H:Hp)(R:It->Hp->Prop):Prop
 | mk (B:Hp) (ow:Ow) (δ:Sl) (s:Sx) (ds:List D) (s':Sx) (h0:RepS K B Z A ow σ δ H) (h1:StateAt Z H s) (h2:F δ s=some (ds,s')) (h3:∀ J H',Ext Z H H'->StateAt Z H' s'->Src K Z A ow J ds H'->R J H')
abbrev tDI(X:Cx)(Z:Zt)(A:List Addr)(F:FI):TI:=tDIK X.K Z A F
structure DI(X:Cx)(tg iter:Expr)(F:FI):Prop where
 go:∀ Z A,PI X tg iter (tDI X Z A F)
instance {X:Cx} {tg iter:Expr} {F:FI}:CoeFun (DI X tg iter F) (fun _=>∀ Z A,PI X tg iter (tDI X Z A F)):=⟨fun h=>h.go⟩
theorem PI.imp{X:Cx}{tg iter:Expr}{t t':TI}(h:PI X tg iter t)(hi:∀ σ H R,t' σ H R->t σ H R):PI X tg iter t':=fun pins s σ H R I q=>h pins s σ H R I (hi σ H R q)
def seqOf:D->Option (List D)
 | .list xs=>some xs
 | .tuple xs=>some xs
 | _=>none
def iSeq(F:FE):FI:=fun δ s=>(F δ s).bind fun p=>(seqOf p.1).map fun xs=>(xs,p.2)
section
variable {X:Cx} {tg iter e e2:Expr} {F Fa Fb:FE} {FL:FA} {p pos:Pos}
theorem zbK{K:PySem.W.Frag}{Z:Zt}{A:List Addr}{ow:Ow}{H:Hp}{a:Addr}{vs:List V}{ds:List D}(h:H a=some (.lst vs))(m:¬ a∈A++ow.map (·.2))(n:NotZ Z a)(r:Reps K Z H (A++ow.map (·.2)) vs ds):Src K Z A ow (Itl K a) ds H:=fun ow' H' st f S hA i=>by
 have h':=(z64 h f n m).1
 have r':=r.frm f
 refine⟨fun d hd=>?_,fun hi=>⟨vs,.of h',by rw[r.length];exact hi⟩⟩
 obtain⟨v,h1,h2⟩:=r'.get hd
 exact⟨⟨vs,v,.of h',h1⟩,fun x H3 zfw=>by
  obtain⟨e,y⟩:=zfw
  subst e
  have q:=y vs (.of h')
  rw[h1]at q
  cases q
  exact⟨Ext.refl _,S,h2⟩⟩
theorem zao{K:PySem.W.Frag}{Z:Zt}{A:List Addr}{ow:Ow}{H:Hp}{a:Addr}{vs:List V}{ds:List D}(h:∀ ow' H',Frm Z ow H ow' H'->SqT K H' a vs)(r:Reps K Z H (A++ow.map (·.2)) vs ds):Src K Z A ow (Itt K a) ds H:=fun ow' H' st f S hA i=>by
 have h':=h ow' H' f
 have r':=r.frm f
 refine⟨fun d hd=>?_,fun hi=>⟨vs,h',by rw[r.length];exact hi⟩⟩
 obtain⟨v,h1,h2⟩:=r'.get hd
 exact⟨⟨vs,v,h',h1⟩,fun x H3 zfx=>by
  obtain⟨e,y⟩:=zfx
  subst e
  have q:=y vs h'
  rw[h1]at q
  cases q
  exact⟨Ext.refl _,S,h2⟩⟩
theorem zey{l:Expr}{tl:TE}(hl:PE X l tl):PI X tg l (fun σ H R=>tl σ H fun x H1=>∃ a,x=.ref a/\(((∃ xs,SqL X.K H1 a xs)/\R (Itl X.K a) H1)\/((∃ xs,SqT X.K H1 a xs)/\R (Itt X.K a) H1))):=fun pins s σ H R I h=>by
 refine thn (hl pins s σ H _ I h) fun v s1 zfy=>?_
 obtain⟨x,H1,I1,r1,a,e,q⟩:=zfy
 subst e
 obtain rfl:v=Value.ref a:=r1
 rcases q with ⟨⟨xs,hx⟩,q⟩ | ⟨⟨xs,hx⟩,q⟩
 ·obtain⟨its,rv,pl,_⟩:=I1.list hx
  refine wpAny_pyIter_list pl.isList ?_
  have nf:=I1.hok.fresh (Nat.le_refl s1.heap.objs.size)
  exact⟨_,[s1.heap.objs.size],_,Itl X.K a,H1,rfl,I1.kept (t':=s1.toks) fun b u eb=>Heap.get?_push_of_some _ eb,z9S a _,⟨_,Heap.get?_push_size _ rfl,rfl,rfl⟩,fun b hb=>by
   have eb:b=s1.heap.objs.size:=by simpa using hb
   rw[eb];exact I1.fpOk (Nat.le_refl _) nf,q⟩
 ·obtain⟨its,rv,⟨o,e1,e2,n,e3⟩,_⟩:=I1.tuple hx
  refine wpAny_pyIter_tuple (items:=its.toArray) ⟨o,e1,e2,n,e3⟩ ?_
  have nf:=I1.hok.fresh (Nat.le_refl s1.heap.objs.size)
  exact⟨_,[s1.heap.objs.size],_,Itt X.K a,H1,rfl,I1.kept (t':=s1.toks) fun b u eb=>Heap.get?_push_of_some _ eb,z93 a _,⟨_,Heap.get?_push_size _ rfl,rfl,rfl⟩,fun b hb=>by
   have eb:b=s1.heap.objs.size:=by simpa using hb
   rw[eb];exact I1.fpOk (Nat.le_refl _) nf,q⟩
theorem z66(h:DE X e F):DI X tg e (iSeq F):=⟨fun Z A=>PI.imp (zey (h Z A)) fun σ H R zfz=>by
 obtain⟨B,ow,δ,s,ds,s',RS,S,ee,q⟩:=zfz
 unfold iSeq at ee
 first | refine bnd2 ee fun d s1 e1 ee=>?_ | refine mpp2 ee fun d s1 e1 ee=>?_
 replace ee:((seqOf d).map fun xs=>(xs,s1))=some (ds,s'):=ee
 refine⟨B,ow,δ,s,d,s1,RS,S,e1,fun v H1 x1 S1 r=>?_⟩
 cases r with
 | lst h n z rs=>cases ee;exact⟨_,rfl,.inl ⟨⟨_,.of h⟩,q _ H1 x1 S1 (zbK h n z rs)⟩⟩
 | tup h n z rs=>cases ee;exact⟨_,rfl,.inr ⟨⟨_,.of h⟩,q _ H1 x1 S1 (zao (fun ow' H' f=>.of (z64 h f z n).1) rs)⟩⟩
 | mod h rs=>cases ee;exact⟨_,rfl,.inr ⟨⟨_,.inr h⟩,q _ H1 x1 S1 (zao (fun ow' H' f=>.inr h) rs)⟩⟩
 | non=>cases ee
 | bl _=>cases ee
 | int _=>cases ee
 | str _=>cases ee
 | st _=>cases ee
 | obj _ _ _ _ _=>cases ee⟩
def rng(lo:Int)(n:Nat):List D:=(List.range n).map fun(k:Nat)=>.int (lo + (k:Int))
def rOk(i:Int):Bool:=decide (-(2 ^ 62)<=i) && decide (i < 2 ^ 62)
def iRange1(F:FE):FI:=fun δ s=>(F δ s).bind fun p=>match p.1 with | .int j=>if rOk j=true then some (rng 0 j.toNat,p.2) else none | _=>none
def iRange2(Fa Fb:FE):FI:=fun δ s=>(Fa δ s).bind fun p=>(Fb δ p.2).bind fun q=>match p.1,q.1 with | .int i,.int j=>if (rOk i && rOk j)=true then some (rng i (j - i).toNat,q.2) else none | _,_=>none
theorem zap{K:PySem.W.Frag}{Z:Zt}{A:List Addr}{ow:Ow}{H:Hp}(lo:Int)(n:Nat):Src K Z A ow (Itr lo n) (rng lo n) H:=fun ow' H' st f S hA i=>by
 refine⟨fun d hd=>?_,fun hi=>(show n<=i by simpa [rng] using hi)⟩
 unfold rng at hd
 rw[List.getElem?_map]at hd
 first | refine bnd1 hd fun k e hd=>?_ | refine mpp1 hd fun k e hd=>?_
 cases hd
 have hk:i < n/\k=i:=by
  have h1:=(List.getElem?_eq_some_iff.mp e).1
  rw[List.length_range]at h1
  rw[List.getElem?_range h1]at e
  exact⟨h1,(Option.some.inj e).symm⟩
 obtain⟨h1,rfl⟩:=hk
 exact⟨h1,fun x H3 zfA=>by obtain⟨e1,e2⟩:=zfA;subst e1 e2;exact⟨Ext.refl _,S,.int _⟩⟩
theorem z0B(hm:X.mg "range"=none)(ha:DE X e F)(hg:Gl X "range":=by rfl)(hs:starEach [e] X.env=[(false,eval e X.env)]:=by rfl):DI X tg (.Call (.Name "range" p) [e] [] pos) (iRange1 F):=⟨fun Z A=>PI.imp (z9T hg hm (zS (ha Z A) z0U hs) hs) fun σ H R zfB=>by
  obtain⟨B,ow,δ,s,ds,s',RS,S,ee,q⟩:=zfB
  unfold iRange1 at ee
  first | refine bnd2 ee fun d s1 e1 ee=>?_ | refine mpp2 ee fun d s1 e1 ee=>?_
  refine⟨B,ow,δ,s,d,s1,RS,S,e1,fun v H1 x1 S1 r=>?_⟩
  cases r with
  | int j =>
   replace ee:(if rOk j=true then some (rng 0 j.toNat,s1) else none)=some (ds,s'):=ee
   split at ee
   ·rename_i hj
    cases ee
    unfold rOk at hj
    rw[Bool.and_eq_true]at hj
    exact⟨j,rfl,of_decide_eq_true hj.1,of_decide_eq_true hj.2,q _ H1 x1 S1 (zap 0 j.toNat)⟩
   ·cases ee
  | _=>cases ee⟩
theorem z3Z(hm:X.mg "range"=none)(ha:DE X e Fa)(hb:DE X e2 Fb)(hg:Gl X "range":=by rfl)(hs:starEach [e,e2] X.env=[(false,eval e X.env),(false,eval e2 X.env)]:=by rfl)(hs2:starEach [e2] X.env=[(false,eval e2 X.env)]:=by rfl) :
  DI X tg (.Call (.Name "range" p) [e,e2] [] pos) (iRange2 Fa Fb):=⟨fun Z A=>PI.imp (z6R hg hm (zS (ha Z A) (zS (hb Z A) z0U hs2) (by rw[hs,hs2])) hs hs2) fun σ H R zfC=>by
  obtain⟨B,ow,δ,s,ds,s',RS,S,ee,q⟩:=zfC
  unfold iRange2 at ee
  first | refine bnd2 ee fun d s1 e1 ee=>?_ | refine mpp2 ee fun d s1 e1 ee=>?_
  replace ee:((Fb δ s1).bind fun q=>match d,q.1 with | .int i,.int j=>if (rOk i && rOk j)=true then some (rng i (j - i).toNat,q.2) else none | _,_=>none)=some (ds,s'):=ee
  first | refine bnd2 ee fun d2 s2 e2 ee=>?_ | refine mpp2 ee fun d2 s2 e2 ee=>?_
  refine⟨B,ow,δ,s,d,s1,RS,S,e1,fun v H1 x1 S1 r=>⟨B,ow,δ,s1,d2,s2,RS.mono x1,S1,e2,fun v2 H2 x2 S2 r2=>?_⟩⟩
  cases r with
  | int i =>
   cases r2 with
   | int j =>
    replace ee:(if (rOk i && rOk j)=true then some (rng i (j - i).toNat,s2) else none)=some (ds,s'):=ee
    split at ee
    ·rename_i hj
     cases ee
     simp only[rOk,Bool.and_eq_true]at hj
     exact⟨i,j,rfl,⟨of_decide_eq_true hj.1.1,of_decide_eq_true hj.1.2,of_decide_eq_true hj.2.1,of_decide_eq_true hj.2.2⟩,q _ H2 (x1.trans x2) S2 (zap i (j - i).toNat)⟩
    ·cases ee
   | _=>cases ee
  | _=>cases ee⟩
def iZipF(Fa Fb:FE):FI:=fun δ s=>(Fa δ s).bind fun p=>(Fb δ p.2).bind fun q=>(seqOf p.1).bind fun xs=>(seqOf q.1).map fun ys=>((xs.zip ys).map fun z=>.tuple [z.1,z.2],q.2)
theorem zaq{K:PySem.W.Frag}{Z:Zt}{H:Hp}{A:List Addr}{ow:Ow}{v:V}{d:D}{xs:List D}(r:Rep K Z H (A++ow.map (·.2)) v d)(e:seqOf d=some xs) :
  ∃ k a vs,v=.ref a/\SqK k K H a vs/\Reps K Z H (A++ow.map (·.2)) vs xs/\∀ ow' H',Frm Z ow H ow' H'->SqK k K H' a vs:=by
 cases r with
 | lst h n z rs=>cases e;exact⟨true,_,_,rfl,SqL.of h,rs,fun ow' H' f=>SqL.of (z64 h f z n).1⟩
 | tup h n z rs=>cases e;exact⟨false,_,_,rfl,SqT.of h,rs,fun ow' H' f=>SqT.of (z64 h f z n).1⟩
 | mod h rs=>cases e;exact⟨false,_,_,rfl,.inr h,rs,fun ow' H' f=>.inr h⟩
 | non=>cases e
 | bl _=>cases e
 | int _=>cases e
 | str _=>cases e
 | st _=>cases e
 | obj _ _ _ _ _=>cases e
theorem zez{elts:List Expr}{c:Nat}{tp:Pos}(hm:X.mg "zip"=none)(ha:DE X e Fa)(hb:DE X e2 Fb)(hg:Gl X "zip":=by rfl)(hs:starEach [e,e2] X.env=[(false,eval e X.env),(false,eval e2 X.env)]:=by rfl)(hs2:starEach [e2] X.env=[(false,eval e2 X.env)]:=by rfl) :
  DI X (.Tuple elts c tp) (.Call (.Name "zip" p) [e,e2] [] pos) (iZipF Fa Fb):=⟨fun Z A=>PI.imp (zev hg hm (zS (ha Z A) (zS (hb Z A) z0U hs2) (by rw[hs,hs2])) hs hs2) fun σ H R zfD=>by
  obtain⟨B,ow,δ,s,ds,s',RS,S,ee,q⟩:=zfD
  unfold iZipF at ee
  first | refine bnd2 ee fun d s1 e1 ee=>?_ | refine mpp2 ee fun d s1 e1 ee=>?_
  replace ee:((Fb δ s1).bind fun q=>(seqOf d).bind fun xs=>(seqOf q.1).map fun ys=>((xs.zip ys).map fun z=>PyData.tuple [z.1,z.2],q.2))=some (ds,s'):=ee
  first | refine bnd2 ee fun d2 s2 e2 ee=>?_ | refine mpp2 ee fun d2 s2 e2 ee=>?_
  replace ee:((seqOf d).bind fun xs=>(seqOf d2).map fun ys=>((xs.zip ys).map fun z=>PyData.tuple [z.1,z.2],s2))=some (ds,s'):=ee
  first | refine bnd1 ee fun xs e3 ee=>?_ | refine mpp1 ee fun xs e3 ee=>?_
  replace ee:((seqOf d2).map fun ys=>((xs.zip ys).map fun z=>PyData.tuple [z.1,z.2],s2))=some (ds,s'):=ee
  first | refine bnd1 ee fun ys e4 ee=>?_ | refine mpp1 ee fun ys e4 ee=>?_
  cases ee
  refine⟨B,ow,δ,s,d,s1,RS,S,e1,fun v H1 x1 S1 r=>⟨B,ow,δ,s1,d2,s',RS.mono x1,S1,e2,fun v2 H2 x2 S2 r2=>?_⟩⟩
  obtain⟨k1,a1,vs1,rfl,sq1,rs1,st1⟩:=zaq (r.ext x2) e3
  obtain⟨k2,a2,vs2,rfl,sq2,rs2,st2⟩:=zaq r2 e4
  refine⟨k1,k2,a1,a2,vs1,vs2,rfl,sq1,sq2,q _ H2 (x1.trans x2) S2 ?_⟩
  intro ow' H' st f S' hA i
  have g1:=st1 ow' H' f
  have g2:=st2 ow' H' f
  refine⟨fun dd hd=>?_,fun hi=>⟨vs1,vs2,g1,g2,?_⟩⟩
  ·rw[List.getElem?_map]at hd
   first | refine bnd1 hd fun z e5 hd=>?_ | refine mpp1 hd fun z e5 hd=>?_
   cases hd
   rw[List.getElem?_zip_eq_some]at e5
   obtain⟨u1,h1,q1⟩:=(rs1.frm f).get e5.1
   obtain⟨u2,h2,q2⟩:=(rs2.frm f).get e5.2
   refine⟨⟨vs1,vs2,u1,u2,g1,g2,h1,h2⟩,fun x H3 zfE=>?_⟩
   obtain⟨p,y1,y2,ex,hp,eH,f1,f2⟩:=zfE
   have z1:=f1 vs1 g1
   have z2:=f2 vs2 g2
   rw[h1]at z1
   rw[h2]at z2
   cases z1
   cases z2
   subst ex eH
   exact⟨Ext.upd hp,S'.upd hp,.tup ze (zM hA hp) (S'.notZ hp) (.cons (q1.ext (Ext.upd hp)) (.cons (q2.ext (Ext.upd hp)) .nil))⟩
  ·rw[rs1.length,rs2.length]
   rw[List.length_map,List.length_zip]at hi
   omega⟩
end
end L3
namespace L3
open PySem L2 PySem.Spec PyProof.Rows
inductive Tgt where
 | one (i:Nat) | tup (is:List Nat) | nest (i:Nat) (js:List Nat)
def Tgt.slots:Tgt->List Nat
 | .one i=>[i]
 | .tup is=>is
 | .nest i js=>i::js
def setD:List Nat->List D->Sl->Sl
 | i::is,d::ds,δ=>setD is ds (δ.set i (.val d))
 | _,_,δ=>δ
def Tgt.run:Tgt->D->Sl->Option Sl
 | .one i,d,δ=>some (δ.set i (.val d))
 | .tup is,.tuple ds,δ=>if ds.length=is.length then some (setD is ds δ) else none
 | .tup is,.list ds,δ=>if ds.length=is.length then some (setD is ds δ) else none
 | .tup _,_,_=>none
 | .nest i js,.tuple [a,b],δ=>(seqOf b).bind fun ds=>if ds.length=js.length then some (setD js ds (δ.set i (.val a))) else none
 | .nest _ _,_,_=>none
def Chg(l:List Nat)(σ σ':L2.St):Prop:=σ'.length=σ.length/\∀ i,¬ i∈l->σ'[i]?=σ[i]?
inductive tDG(K:PySem.W.Frag)(Z:Zt)(A:List Addr)(T:Tgt)(v:V)(σ:L2.St)(H:Hp)(Q:L2.St->Hp->Prop):Prop
 | mk (B:Hp) (ow:Ow) (δ:Sl) (d:D) (δ':Sl) (h0:RepS K B Z A ow σ δ H) (h1:Rep K Z H (A++ow.map (·.2)) v d) (h2:T.run d δ=some δ') (h3:∀ ow' σ',RepS K B Z A ow' σ' δ' H->Frm Z ow H ow' H->Chg T.slots σ σ'->Q σ' H)
structure DG(X:Cx)(tg:Expr)(T:Tgt):Prop where
 go:∀ Z A,PG X tg (tDG X.K Z A T)
instance {X:Cx} {tg:Expr} {T:Tgt}:CoeFun (DG X tg T) (fun _=>∀ Z A,PG X tg (tDG X.K Z A T)):=⟨fun h=>h.go⟩
theorem PG.imp{X:Cx}{tg:Expr}{t t':TG}(h:PG X tg t)(hi:∀ v σ H Q,t' v σ H Q->t v σ H Q):PG X tg t':=fun pins s σ H v u Q I r q=>h pins s σ H v u Q I r (hi v σ H Q q)
theorem RepS.setAll{K:PySem.W.Frag}{B:Hp}{Z:Zt}{A:List Addr}{H:Hp}:∀ {is:List Nat} {vs:List V} {ds:List D} {ow:Ow} {σ:L2.St} {δ:Sl},RepS K B Z A ow σ δ H->Reps K Z H (A++ow.map (·.2)) vs ds->ds.length=is.length ->
  ∀ {es:List Expr} {X:Cx} (Q:L2.St->Hp->Prop),True->True->(∀ ow' σ',RepS K B Z A ow' σ' (setD is ds δ) H->Frm Z ow H ow' H->Chg is σ σ'->σ'=(is.zip vs).foldl (fun σ p=>σ.set p.1 (some p.2)) σ->Q σ' H)->Q ((is.zip vs).foldl (fun σ p=>σ.set p.1 (some p.2)) σ) H
 | [],vs,ds,ow,σ,δ,R,rs,hl,es,X,Q,_,_,h=>by
  have e:ds=[]:=List.eq_nil_of_length_eq_zero hl
  subst e
  exact h ow σ R .refl ⟨rfl,fun _ _=>rfl⟩ rfl
 | i::is,vs,d::ds,ow,σ,δ,R,rs,hl,es,X,Q,_,_,h=>by
  cases rs with
  | @cons v _ vs' _ r rs =>
   obtain⟨R1,f1⟩:=R.set (i:=i) r
   refine RepS.setAll (X:=X) (es:=es) R1 (rs.frm f1) (by simpa using hl) Q trivial trivial fun ow' σ' R2 f2 c2 e2=>?_
   refine h ow' σ' R2 (f1.trans f2) ⟨by rw[c2.1,List.length_set],fun j hj=>?_⟩ e2
   have hj':¬ j=i/\¬ j∈is:=by simpa using hj
   rw[c2.2 j hj'.2,List.getElem?_set_ne (Ne.symm hj'.1)]
 | _::_,_,[],_,_,_,_,_,hl,_,_,_,_,_,_=>by simp at hl
section
variable {X:Cx} {tg iter elt e:Expr} {es:List Expr} {T:Tgt} {F:FE} {Fi:FI} {Ft:FT} {G:GS} {body:List Stmt} {pos:Pos}
theorem z0o{i:Nat}{x:Str}(hN:X.N.Nodup)(hi:X.N[i]?=some x:=by rfl)(hx:Loc X.env.scope x:=by first | exact Or.inl rfl | exact Or.inr rfl)(hf:X.fn x=true\/X.env.scope.names.lookup x=some .local:=by first | exact .inl rfl | exact .inr rfl | assumption) :
  DG X (.Name x pos) (.one i):=⟨fun Z A=>PG.imp (z6e hN hi hx hf) fun v σ H Q zfF=>by
 obtain⟨B,ow,δ,d,δ',R,r,e,q⟩:=zfF
 cases e
 obtain⟨R1,f1⟩:=R.set (i:=i) r
 exact q _ _ R1 f1 ⟨List.length_set,fun j hj=>List.getElem?_set_ne (by simpa using Ne.symm (show ¬ j=i by simpa [Tgt.slots] using hj))⟩⟩
def gSlots:List Nat->TGs
 | []=>gNil
 | i::is=>gCons (gName i) (gSlots is)
theorem z5f:∀ {is:List Nat} {vs:List V} {σ:L2.St} {H:Hp} {Q:L2.St->Hp->Prop},vs.length=is.length->Q ((is.zip vs).foldl (fun σ p=>σ.set p.1 (some p.2)) σ) H->gSlots is vs σ H Q
 | [],vs,σ,H,Q,hl,q=>⟨List.eq_nil_of_length_eq_zero hl,by have e:=List.eq_nil_of_length_eq_zero hl;subst e;exact q⟩
 | i::is,v::vs,σ,H,Q,hl,q=>⟨v,vs,rfl,z5f (by simpa using hl) q⟩
 | _::_,[],_,_,_,hl,_=>by simp at hl
theorem z2E:PGs X [] (gSlots []):=z7I
theorem zX{i:Nat}{is:List Nat}{x:Str}(hN:X.N.Nodup)(h2:PGs X es (gSlots is))(hi:X.N[i]?=some x:=by rfl)(hx:Loc X.env.scope x:=by first | exact Or.inl rfl | exact Or.inr rfl)(hf:X.fn x=true\/X.env.scope.names.lookup x=some .local:=by first | exact .inl rfl | exact .inr rfl | assumption)
  (hs:(assignEach (.Name x pos::es) X.env).map (·.2)=assign (.Name x pos) X.env::(assignEach es X.env).map (·.2):=by rfl):PGs X (.Name x pos::es) (gSlots (i::is)):=z3j (z6e hN hi hx hf) h2 hs
theorem z40{is:List Nat}{k:Nat}(h:PGs X es (gSlots is))(hn:(assignEach es X.env).length=is.length:=by rfl)(hst:(assignEach es X.env).findIdx? (·.1)=none:=by rfl)(hc:X.calm=true:=by rfl):DG X (.Tuple es k pos) (.tup is):=⟨fun Z A=>PG.imp (zdl hc h hn hst) fun v σ H Q zfG=>by
  obtain⟨B,ow,δ,d,δ',R,r,e,q⟩:=zfG
  cases d with
  | tuple ds =>
   replace e:(if ds.length=is.length then some (setD is ds δ) else none)=some δ':=e
   split at e
   ·rename_i hl
    cases e
    obtain⟨p,vs,rfl,sq,rs⟩:=r.w.tuple
    refine⟨p,vs,rfl,.inl sq,by rw[rs.length];exact hl,z5f (by rw[rs.length];exact hl) ?_⟩
    exact RepS.setAll (X:=X) (es:=es) R rs hl Q trivial trivial fun ow' σ' R' f' c' _=>q ow' σ' R' f' c'
   ·cases e
  | list ds =>
   replace e:(if ds.length=is.length then some (setD is ds δ) else none)=some δ':=e
   split at e
   ·rename_i hl
    cases e
    obtain⟨p,vs,rfl,sq,_,rs⟩:=r.w.list
    refine⟨p,vs,rfl,.inr sq,by rw[rs.length];exact hl,z5f (by rw[rs.length];exact hl) ?_⟩
    exact RepS.setAll (X:=X) (es:=es) R rs hl Q trivial trivial fun ow' σ' R' f' c' _=>q ow' σ' R' f' c'
   ·cases e
  | _=>cases e⟩
def sUnp(T:Tgt)(F:FE):GS:=fun δ s=>(F δ s).bind fun p=>(T.run p.1 δ).map fun δ'=>(.next δ',p.2)
theorem zar(he:DE X e F)(hg:DG X tg T)(h1:List.map (·.2) (assignEach [tg] X.env)=[assign tg X.env]:=by rfl)(hs:swapsWithSole [tg] e pos.line X.env=pure false:=by rfl)(hw:swappedStores [tg] e X.env=pure none:=by rfl):DS X (.Assign [tg] e pos) (sUnp T F):=⟨fun Z A=>PS.imp (z8u (he Z A) (hg Z A) hs hw h1) fun E σ H zfH=>by
 obtain⟨ow,δ,s,o,s',R,S,e,q⟩:=zfH
 unfold sUnp at e
 first | refine bnd2 e fun d s1 e1 e=>?_ | refine mpp2 e fun d s1 e1 e=>?_
 replace e:((T.run d δ).map fun δ'=>(Out.next δ',s1))=some (o,s'):=e
 cases e2:T.run d δ with
 | none=>rw[e2]at e;cases e
 | some δ2 =>
  rw[e2]at e
  cases e
  exact⟨_,ow,δ,s,d,s',R,S,e1,fun v H1 x1 S1 r=>⟨_,ow,δ,d,δ2,R.mono x1,r,e2,fun ow' σ' R' f c=>q ow' σ' H1 R' S1 ((Frm.ext x1).trans f)⟩⟩⟩
def forD(T:Tgt)(G:GS):List D->GS
 | [],δ,s=>some (.next δ,s)
 | d::ds,δ,s=>(T.run d δ).bind fun δ1=>match G δ1 s with
  | some (.next δ',s')=>forD T G ds δ' s'
  | some (.cnt δ',s')=>forD T G ds δ' s'
  | some (.brk δ',s')=>some (.next δ',s')
  | some (.ret r,s')=>some (.ret r,s')
  | some (.own r,s')=>some (.own r,s')
  | none=>none
def sFor(Fi:FI)(T:Tgt)(G:GS):GS:=fun δ s=>(Fi δ s).bind fun p=>forD T G p.1 δ p.2
theorem z2M(hi:DI X tg iter Fi)(hg:DG X tg T)(hb:DSs X body G)(hp:PassesOwn (model X.prog X.w) X.A X.env X.xe:=by exact PassesOwn.never)(hc:X.calm=true:=by rfl)(hs:∀ x,foldedSetIterable iter X.env x=pure x:=by intro _;rfl) :
  DS X (.For tg iter body [] pos) (sFor Fi T G):=⟨fun Z A=>PS.imp (zcx hp hc (hi Z A) (hg Z A) (hb Z A) hs) fun E σ H zfI=>by
 obtain⟨ow,δ,s,o,s',R,S,e,q⟩:=zfI
 unfold sFor at e
 first | refine bnd2 e fun ds s1 e1 e=>?_ | refine mpp2 e fun ds s1 e1 e=>?_
 replace e:forD T G ds δ s1=some (o,s'):=e
 refine⟨_,ow,δ,s,ds,s1,R,S,e1,fun J H1 x1 S1 src=>?_⟩
 have q1:=q.frm (Frm.ext x1)
 refine⟨fun i m σ H=>∃ ow' δ s,m=ds.length - i/\i<=ds.length/\RepS X.K X.H₀ Z A ow' σ δ H/\StateAt Z H s/\Frm Z ow H1 ow' H/\forD T G (ds.drop i) δ s=some (o,s')/\postS X Z A ow' H s' E o,
  ⟨ds.length,ow,δ,s1,by simp,Nat.zero_le _,R.mono x1,S1,.refl,by simpa using e,q1⟩,?_⟩
 rintro i m σ2 H2 ⟨ow2,δ2,s2,rfl,hi,R2,S2,f2,e2,q2⟩
 have sr:=src ow2 H2 s2 f2 S2 R2.all i
 by_cases hlt:i < ds.length
 ·have hd:ds[i]?=some ds[i]:=List.getElem?_eq_getElem hlt
  obtain⟨go,yl⟩:=sr.1 _ hd
  rw[List.drop_eq_getElem_cons hlt]at e2
  replace e2:((T.run ds[i] δ2).bind fun δ1=>match G δ1 s2 with
   | some (.next δ',s')=>forD T G (ds.drop (i + 1)) δ' s'
   | some (.cnt δ',s')=>forD T G (ds.drop (i + 1)) δ' s'
   | some (.brk δ',s')=>some (.next δ',s')
   | some (.ret r,s')=>some (.ret r,s')
   | some (.own r,s')=>some (.own r,s')
   | none=>none)=some (o,s'):=e2
  refine .inr ⟨go,fun σ' H'=>∃ ow' δ s,RepS X.K X.H₀ Z A ow' σ' δ H'/\StateAt Z H' s/\Frm Z ow H1 ow' H'/\forD T G (ds.drop (i + 1)) δ s=some (o,s')/\postS X Z A ow' H' s' E o,
   fun σ' H' zfJ=>(by obtain⟨ow',δ',s3,a1,a2,a3,a4,a5⟩:=zfJ;exact⟨ds.length - (i + 1),by omega,ow',δ',s3,rfl,hlt,a1,a2,a3,a4,a5⟩),fun x H3 y=>?_⟩
  obtain⟨x3,S3,r3⟩:=yl x H3 y
  cases e3:T.run ds[i] δ2 with
  | none=>rw[e3]at e2;cases e2
  | some δ3 =>
   rw[e3]at e2
   replace e2:(match G δ3 s2 with
    | some (.next δ',s')=>forD T G (ds.drop (i + 1)) δ' s'
    | some (.cnt δ',s')=>forD T G (ds.drop (i + 1)) δ' s'
    | some (.brk δ',s')=>some (.next δ',s')
    | some (.ret r,s')=>some (.ret r,s')
    | some (.own r,s')=>some (.own r,s')
    | none=>none)=some (o,s'):=e2
   refine⟨X.H₀,ow2,δ2,ds[i],δ3,R2.mono x3,r3,e3,fun ow4 σ4 R4 f4 _=>?_⟩
   have q4:=(q2.frm (Frm.ext x3)).frm f4
   have f14:Frm Z ow H1 ow4 H3:=(f2.trans (Frm.ext x3)).trans f4
   cases e4:G δ3 s2 with
   | none=>rw[e4]at e2;cases e2
   | some r =>
    obtain⟨o4,s4⟩:=r
    rw[e4]at e2
    refine⟨ow4,δ3,s2,o4,s4,R4,S3,e4,?_⟩
    cases o4 with
    | next δ5=>exact fun ow' σ' H' R' S' f=>⟨ow',δ5,s4,R',S',f14.trans f,e2,q4.frm f⟩
    | cnt δ5=>exact fun ow' σ' H' R' S' f=>⟨ow',δ5,s4,R',S',f14.trans f,e2,q4.frm f⟩
    | brk δ5=>cases e2;exact q4
    | ret d=>cases e2;exact q4
    | own d=>cases e2;exact q4
 ·have hi':i=ds.length:=by omega
  subst hi'
  rw[List.drop_length]at e2
  cases e2
  exact .inl ⟨sr.2 (Nat.le_refl _),q2 ow2 σ2 H2 R2 S2 .refl⟩⟩
def compDl(k:Nat)(fr:List Nat)(δ:Sl):Sl:=List.replicate k .non++fr.map fun j=>match δ[j]? with | some (.val d)=>.val d | _=>.non
def compD(T:Tgt)(Ft:FT)(F:FE)(δc:Sl):List D->Sx->Option (List D × Sx)
 | [],s=>some ([],s)
 | d::ds,s=>(T.run d δc).bind fun δ1=>(Ft δ1 s).bind fun p=>if p.1=true then (F δ1 p.2).bind fun q=>(compD T Ft F δc ds q.2).map fun r=>(q.1::r.1,r.2) else compD T Ft F δc ds p.2
def fTrue:FT:=fun _ s=>some (true,s)
structure DIfs(X:Cx)(ifs:List Expr)(F:FT):Prop where
 go:∀ Z A,PIfs X ifs (tDT X Z A F)
instance {X:Cx} {ifs:List Expr} {F:FT}:CoeFun (DIfs X ifs F) (fun _=>∀ Z A,PIfs X ifs (tDT X Z A F)):=⟨fun h=>h.go⟩
theorem z0G:DIfs X [] fTrue:=⟨fun Z A pins s σ H Q I zfK=>by
 obtain⟨B,ow,δ,st,b,st',R,S,e,q⟩:=zfK
 cases e
 exact zbC pins s σ H Q I (q H (Ext.refl H) S)⟩
theorem zbL(h:DT X e Ft):DIfs X [e] Ft:=⟨fun Z A=>zbD (h Z A)⟩
def fComp(k:Nat)(fr:List Nat)(Fi:FI)(T:Tgt)(Ft:FT)(F:FE):FO:=fun δ s=>(Fi δ s).bind fun p=>if small p.1=true then compD T Ft F (compDl k fr δ) p.1 p.2 else none
theorem z9j{k:Nat}{fr:List Nat}{δ:Sl}{i:Nat}{d:D}(h:(compDl k fr δ)[i]?=some (.val d)):∃ t j,i=k + t/\fr[t]?=some j/\δ[j]?=some (.val d):=by
 unfold compDl at h
 by_cases hi:i < k
 ·rw[List.getElem?_append_left (by simpa using hi),List.getElem?_replicate]at h
  split at h <;> cases h
 ·rw[List.getElem?_append_right (by simpa using Nat.not_lt.mp hi),List.length_replicate,List.getElem?_map]at h
  refine⟨i - k,?_⟩
  cases e:fr[i - k]? with
  | none=>rw[e]at h;cases h
  | some j =>
   rw[e]at h
   refine⟨j,by omega,rfl,?_⟩
   simp only[Option.map_some,Option.some.injEq]at h
   split at h
   ·rename_i d' e2
    cases h
    exact e2
   ·cases h
theorem z9k{k:Nat}{fr:List Nat}{δ:Sl}{i:Nat}{xs:List D}(h:(compDl k fr δ)[i]?=some (.own xs)):False:=by
 unfold compDl at h
 by_cases hi:i < k
 ·rw[List.getElem?_append_left (by simpa using hi),List.getElem?_replicate]at h
  split at h <;> cases h
 ·rw[List.getElem?_append_right (by simpa using Nat.not_lt.mp hi),List.length_replicate,List.getElem?_map]at h
  cases e:fr[i - k]? with
  | none=>rw[e]at h;cases h
  | some j =>
   rw[e]at h
   simp only[Option.map_some,Option.some.injEq]at h
   split at h <;> cases h
theorem z5g{k:Nat}{fr:List Nat}{Z:Zt}{A:List Addr}{ow:Ow}{σ:L2.St}{δ:Sl}{B H1:Hp}{s1 s':Sx}{J:It}{ds rs:List D}{Fin:List V->Hp->Prop}(hT:∀ i∈T.slots,i < k)(R:RepS X.K B Z A ow σ δ H1)(S1:StateAt Z H1 s1)(src:Src X.K Z A ow J ds H1)(hsm:small ds=true)
  (e:compD T Ft F (compDl k fr δ) ds s1=some (rs,s')) (fin:∀ ys H2,Ext Z H1 H2->StateAt Z H2 s'->Reps X.K Z H2 (A++ow.map (·.2)) ys rs->ys.length<=sizeLine->Fin ys H2) :
  CompW J (tDG X.K Z (A++ow.map (·.2)) T) (tDT X Z (A++ow.map (·.2)) Ft) (tD X Z (A++ow.map (·.2)) F) (compSt k fr σ) H1 Fin:=by
 have hd0:ds.length<=sizeLine:=of_decide_eq_true hsm
 have RY:∀ {H2:Hp},Ext Z H1 H2->RepS X.K H1 Z (A++ow.map (·.2)) [] (compSt k fr σ) (compDl k fr δ) H2:=fun{H2} x=>{
  ok:=fun q hq=>by
   refine⟨(R.mono x).all q hq,?_⟩
   rcases List.mem_append.mp hq with h | h
   ·exact(R.ok q h).2
   ·obtain⟨⟨i,p⟩,hp,rfl⟩:=List.mem_map.mp h
    exact(R.ows i p hp).2.2.1
  ext:=x
  len:=by simp[compDl,compSt]
  val:=fun i d h=>by
   obtain⟨t,j,rfl,h1,h2⟩:=z9j h
   obtain⟨v,h3,h4⟩:=(R.mono x).val j d h2
   refine⟨v,?_,by rw[List.map_nil,List.append_nil];exact h4⟩
   unfold compSt
   rw[List.getElem?_append_right (by simp),List.length_replicate,Nat.add_sub_cancel_left,List.getElem?_map,h1]
   show some ((σ[j]?).getD none)=_
   rw[h3];rfl
  own:=fun i xs h=>(z9k h).elim
  ows:=fun i p h=>nomatch h
  inj:=fun i j p h=>nomatch h}
 refine⟨fun i m ys H2=>∃ s2 r1 r2,m=ds.length - i/\i<=ds.length/\ys.length<=i/\Ext Z H1 H2/\StateAt Z H2 s2/\Reps X.K Z H2 (A++ow.map (·.2)) ys r1/\rs=r1++r2/\compD T Ft F (compDl k fr δ) (ds.drop i) s2=some (r2,s'),
  ⟨ds.length,s1,[],rs,by simp,Nat.zero_le _,Nat.le_refl _,Ext.refl _,S1,.nil,rfl,by simpa using e⟩,?_⟩
 rintro i m ys H2 ⟨s2,r1,r2,rfl,hi,hy,x2,S2,rep,rfl,e2⟩
 have sr:=src ow H2 s2 (Frm.ext x2) S2 (R.mono x2).all i
 by_cases hlt:i < ds.length
 ·have hd:ds[i]?=some ds[i]:=List.getElem?_eq_getElem hlt
  obtain⟨go,yl⟩:=sr.1 _ hd
  rw[List.drop_eq_getElem_cons hlt]at e2
  replace e2:((T.run ds[i] (compDl k fr δ)).bind fun δ1=>(Ft δ1 s2).bind fun p=>if p.1=true then (F δ1 p.2).bind fun q=>(compD T Ft F (compDl k fr δ) (ds.drop (i + 1)) q.2).map fun r=>(q.1::r.1,r.2) else compD T Ft F (compDl k fr δ) (ds.drop (i + 1)) p.2)=some (r2,s'):=e2
  refine .inr ⟨go,by omega,fun x H3 y=>?_⟩
  obtain⟨x3,S3,r3⟩:=yl x H3 y
  cases e3:T.run ds[i] (compDl k fr δ) with
  | none=>rw[e3]at e2;cases e2
  | some δ3 =>
   rw[e3]at e2
   replace e2:((Ft δ3 s2).bind fun p=>if p.1=true then (F δ3 p.2).bind fun q=>(compD T Ft F (compDl k fr δ) (ds.drop (i + 1)) q.2).map fun r=>(q.1::r.1,r.2) else compD T Ft F (compDl k fr δ) (ds.drop (i + 1)) p.2)=some (r2,s'):=e2
   refine⟨H1,[],compDl k fr δ,ds[i],δ3,RY (x2.trans x3),by rw[List.map_nil,List.append_nil];exact r3,e3,fun ow4 σ4 R4 f4 c4=>⟨⟨c4.1,fun j v hj=>?_⟩,?_⟩⟩
   ·by_cases hs:j∈T.slots
    ·rw[z63 (hT j hs)]at hj;cases hj
    ·rw[c4.2 j hs];exact hj
   ·cases e4:Ft δ3 s2 with
    | none=>rw[e4]at e2;cases e2
    | some p =>
     obtain⟨b,s4⟩:=p
     rw[e4]at e2
     refine⟨H1,ow4,δ3,s2,b,s4,R4,S3,e4,fun H5 x5 S5=>?_⟩
     cases b with
     | false =>
      replace e2:compD T Ft F (compDl k fr δ) (ds.drop (i + 1)) s4=some (r2,s'):=e2
      exact iteF ⟨ds.length - (i + 1),by omega,s4,r1,r2,rfl,hlt,by omega,(x2.trans x3).trans x5,S5,rep.ext (x3.trans x5),rfl,e2⟩
     | true =>
      replace e2:((F δ3 s4).bind fun q=>(compD T Ft F (compDl k fr δ) (ds.drop (i + 1)) q.2).map fun r=>(q.1::r.1,r.2))=some (r2,s'):=e2
      refine iteT ?_
      first | refine bnd2 e2 fun dy s5 e5 e2=>?_ | refine mpp2 e2 fun dy s5 e5 e2=>?_
      replace e2:((compD T Ft F (compDl k fr δ) (ds.drop (i + 1)) s5).map fun r=>(dy::r.1,r.2))=some (r2,s'):=e2
      first | refine bnd1 e2 fun r e6 e2=>?_ | refine mpp1 e2 fun r e6 e2=>?_
      cases e2
      refine⟨H1,ow4,δ3,s4,dy,s5,R4.mono x5,S5,e5,fun yv H6 x6 S6 ry=>⟨ds.length - (i + 1),by omega,s5,r1++[dy],r.1,rfl,hlt,by rw[List.length_append,List.length_singleton];omega,((x2.trans x3).trans x5).trans x6,S6,?_,by simp,e6⟩⟩
      exact(rep.ext ((x3.trans x5).trans x6)).append (.cons (ry.sub fun q hq=>List.mem_append_left _ hq) .nil)
 ·have hi':i=ds.length:=by omega
  subst hi'
  rw[List.drop_length]at e2
  cases e2
  exact .inl ⟨sr.2 (Nat.le_refl _),fin ys H2 x2 S2 (by rw[List.append_nil];exact rep) (Nat.le_trans hy hd0)⟩
theorem z9l{Z:Zt}{H:Hp}{A:List Addr}{p:Addr}{o:HO}(hp:H p=none):∀ q u,H q=some u->¬ q∈A->NotZ Z q->upd H p o q=some u/\¬ q∈p::A:=fun q u h n _ =>
 ⟨by rw[zd (zf h hp)];exact h,fun m=>(List.mem_cons.mp m).elim (fun e=>zf h hp e) n⟩
theorem Reps.fresh{K:PySem.W.Frag}{Z:Zt}{H:Hp}{A:List Addr}{p:Addr}{o:HO}{vs:List V}{ds:List D}(hp:H p=none)(r:Reps K Z H A vs ds):Reps K Z (upd H p o) (p::A) vs ds:=r.move (z9l hp)
inductive tDFK(K:PySem.W.Frag)(Z:Zt)(A:List Addr)(F:FO)(σ:L2.St)(H:Hp)(Q:VK):Prop
 | mk (B:Hp) (ow:Ow) (δ:Sl) (s:Sx) (ds:List D) (s':Sx) (h0:RepS K B Z A ow σ δ H) (h1:StateAt Z H s) (h2:F δ s=some (ds,s')) (h3:∀ p vs H',Ext Z H H'->StateAt Z H' s'->H p=none->H' p=some (.lst vs)->Reps K Z H' (p::(A++ow.map (·.2))) vs ds->Q (.ref p) H')
abbrev tDF(X:Cx)(Z:Zt)(A:List Addr)(F:FO):TE:=tDFK X.K Z A F
structure DF(X:Cx)(e:Expr)(F:FO):Prop where
 go:∀ Z A,PE X e (tDF X Z A F)
instance {X:Cx} {e:Expr} {F:FO}:CoeFun (DF X e F) (fun _=>∀ Z A,PE X e (tDF X Z A F)):=⟨fun h=>h.go⟩
theorem DF.de{Fo:FO}(h:DF X e Fo):DE X e (asL Fo):=⟨fun Z A=>PE.imp (h Z A) fun σ H Q zfL=>by
 obtain⟨B,ow,δ,s,d,s',R,S,ee,q⟩:=zfL
 unfold asL at ee
 first | refine bnd1 ee fun p e1 ee=>?_ | refine mpp1 ee fun p e1 ee=>?_
 cases ee
 exact⟨B,ow,δ,s,p.1,p.2,R,S,e1,fun p vs H' x1 S1 n h r=>q _ H' x1 S1 (.lst h (zM R.all n) (S.notZ n) (r.sub fun q hq=>List.mem_cons_of_mem _ hq))⟩⟩
theorem z1I{k:Nat}{fr:List Nat}{scope:Scope}{cl:List (Str × Addr)}{N:List Str}{ifs:List Expr}(ok:CompOk X scope cl N k fr)(hT:∀ i∈T.slots,i < k)(hi:DI X tg iter Fi)
  (hg:∀ C s H ex,DG (compCx X scope cl N C s H ex) tg T) (ht:∀ C s H ex,DIfs (compCx X scope cl N C s H ex) ifs Ft) (he:∀ C s H ex,DE (compCx X scope cl N C s H ex) elt F)
  (hc:X.calm=true:=by rfl) (hs:∀ x,foldedSetIterable iter X.env x=pure x:=by intro _;rfl):DF X (.ListComp elt [⟨tg,iter,ifs,0⟩] scope pos) (fComp k fr Fi T Ft F):=⟨fun Z A pins s σ H Q I zfM=>by
 obtain⟨B,ow,δ,st,ds,st',R,S,e,q⟩:=zfM
 unfold fComp at e
 first | refine bnd2 e fun src s1 e1 e=>?_ | refine mpp2 e fun src s1 e1 e=>?_
 replace e:(if small src=true then compD T Ft F (compDl k fr δ) src s1 else none)=some (ds,st'):=e
 split at e
 ·rename_i hsm
  refine zdi (g:=tDG X.K Z (A++ow.map (·.2)) T) (tt:=tDT X Z (A++ow.map (·.2)) Ft) (te:=tD X Z (A++ow.map (·.2)) F) ok hc (hi Z A) (fun C s H ex=>hg C s H ex Z _) (fun C s H ex=>ht C s H ex Z _) (fun C s H ex=>he C s H ex Z _) hs pins s σ H Q I
   ⟨B,ow,δ,st,src,s1,R,S,e1,fun J H1 x1 S1 sr=>z5g hT (R.mono x1) S1 sr hsm e fun ys H2 x2 S2 rs hl=>⟨hl,fun p hp=>?_⟩⟩
  have hp1:H p=none:=by
   cases e9:H p with
   | none=>rfl
   | some o =>
    have nz:NotZ Z p:=S2.notZ hp
    rw[(x1.trans x2) p o e9 nz]at hp
    cases hp
  exact q p ys _ ((x1.trans x2).trans (Ext.upd hp)) (S2.upd hp) hp1 ze (rs.fresh hp)
 ·cases e⟩
def sSetL(i:Nat)(F:FO):GS:=fun δ s=>(F δ s).map fun p=>(.next (δ.set i (.val (.list p.1))),p.2)
theorem zas{i:Nat}{x:Str}{py spos:Pos}{k:Nat}{fr:List Nat}{scope:Scope}{cl:List (Str × Addr)}{N:List Str}{ifs:List Expr}(hN:X.N.Nodup)(ok:CompOk X scope cl N k fr)(hT:∀ i∈T.slots,i < k)(hi:DI X tg iter Fi)
  (hg:∀ C s H ex,DG (compCx X scope cl N C s H ex) tg T) (ht:∀ C s H ex,DIfs (compCx X scope cl N C s H ex) ifs Ft) (he:∀ C s H ex,DE (compCx X scope cl N C s H ex) elt F)
  (hsw:swapsWith (.ListComp elt [⟨tg,iter,ifs,0⟩] scope pos) (some (.Name x py)) spos.line X.env=pure true) (hi':X.N[i]?=some x:=by rfl) (hx:Loc X.env.scope x:=by first | exact Or.inl rfl | exact Or.inr rfl)
  (hc:X.calm=true:=by rfl) (hs:∀ x,foldedSetIterable iter X.env x=pure x:=by intro _;rfl) (hf:X.fn x=true\/X.env.scope.names.lookup x=some .local:=by first | exact .inl rfl | exact .inr rfl | assumption) :
  DS X (.Assign [.Name x py] (.ListComp elt [⟨tg,iter,ifs,0⟩] scope pos) spos) (sSetL i (fComp k fr Fi T Ft F)):=⟨fun Z A pins s σ H E I zfN=>by
 obtain⟨ow,δ,st,o,st',R,S,e,q⟩:=zfN
 unfold sSetL at e
 first | refine bnd1 e fun r e0 e=>?_ | refine mpp1 e fun r e0 e=>?_
 cases e
 unfold fComp at e0
 first | refine bnd2 e0 fun src s1 e1 e0=>?_ | refine mpp2 e0 fun src s1 e1 e0=>?_
 replace e0:(if small src=true then compD T Ft F (compDl k fr δ) src s1 else none)=some r:=e0
 split at e0
 ·rename_i hsm
  refine zdj (g:=tDG X.K Z (A++ow.map (·.2)) T) (tt:=tDT X Z (A++ow.map (·.2)) Ft) (te:=tD X Z (A++ow.map (·.2)) F) hN hi' hx ok hc (hi Z A) (fun C s H ex=>hg C s H ex Z _) (fun C s H ex=>ht C s H ex Z _) (fun C s H ex=>he C s H ex Z _) hsw hs hf pins s σ H E I
   ⟨_,ow,δ,st,src,s1,R,S,e1,fun J H1 x1 S1 sr=>z5g (s':=r.2) (rs:=r.1) hT (R.mono x1) S1 sr hsm e0 fun ys H2 x2 S2 rs hl=>⟨hl,fun p hp=>?_⟩⟩
  have R2:=((R.mono x1).mono x2).mono (Ext.upd (o:=.lst ys) hp)
  obtain⟨R3,f3⟩:=R2.set (i:=i) (v:=.ref p) (d:=.list r.1) (.lst ze (zM ((R.mono x1).mono x2).all hp) (S2.notZ hp) (rs.ext (Ext.upd hp)))
  exact q _ _ _ R3 (S2.upd hp) ((Frm.ext ((x1.trans x2).trans (Ext.upd hp))).trans f3)
 ·cases e0⟩
end
end L3
namespace L3
open PySem L2 PySem.Spec PyProof.Rows
section
variable {X:Cx} {a b e:Expr} {es:List Expr} {F Fa Fb:FE} {FL:FA} {x:Str} {p pos:Pos}
def tru:D->Option Bool
 | .none=>some false | .bool k=>some k | .int i=>some (i != 0) | .list xs=>some (!xs.isEmpty) | .tuple xs=>some (!xs.isEmpty) | _=>none
def asT(F:FE):FT:=fun δ s=>(F δ s).bind fun p=>(tru p.1).map fun k=>(k,p.2)
theorem z4A{K:PySem.W.Frag}{Z:Zt}{H:Hp}{A:List Addr}{vs:List V}{ds:List D}(r:Reps K Z H A vs ds):vs.isEmpty=ds.isEmpty:=by
 cases r <;> rfl
theorem z20(ha:DW X a F)(he:∀ whole,isTrue a X.env whole=(do let v <- whole;standAt a.pos;holding [v] (truthy v)):=by intro _;rfl):DT X a (asT F):=⟨fun Z A=>PT.imp (zbt (ha Z A) he) fun σ H Q zfO=>by
 obtain⟨B,ow,δ,s,k,s',R,S,e,q⟩:=zfO
 unfold asT at e
 cases e1:F δ s with
 | none=>rw[e1]at e;cases e
 | some p =>
  obtain⟨d,s1⟩:=p
  rw[e1]at e
  refine⟨B,ow,δ,s,d,s1,R,S,e1,fun v H1 x1 S1 r=>?_⟩
  cases d with
  | none=>cases e;rw[r.none];exact⟨_,rfl,q H1 x1 S1⟩
  | bool i=>cases e;rw[r.bool];exact⟨_,rfl,q H1 x1 S1⟩
  | int i=>cases e;rw[r.int];exact⟨_,rfl,q H1 x1 S1⟩
  | list ds =>
   cases e
   obtain⟨p,vs,rfl,sq,_,rs⟩:=r.list
   exact⟨_,.inl ⟨vs,sq,by rw[z4A rs]⟩,q H1 x1 S1⟩
  | tuple ds =>
   cases e
   obtain⟨p,vs,rfl,sq,rs⟩:=r.tuple
   exact⟨_,.inr (.inl ⟨vs,sq,by rw[z4A rs]⟩),q H1 x1 S1⟩
  | str _=>cases e
  | dict _=>cases e⟩
def gCatL:G2:=fun a b=>match a,b with | .list xs,.list ys=>if small (xs++ys)=true then some (.list (xs++ys)) else none | _,_=>none
theorem RepW.lst{K:PySem.W.Frag}{Z:Zt}{H:Hp}{A:List Addr}{v:V}{ds:List D}(r:RepW K Z H A v (.list ds)):∃ p vs,v=.ref p/\H p=some (.lst vs)/\NotZ Z p/\Reps K Z H A vs ds:=by
 rcases r with r | ⟨p,vs,ds,e1,e2,e3,e4,e5⟩
 ·cases r with
  | lst h n z q=>exact⟨_,_,rfl,h,z,q⟩
 ·cases e2;exact⟨p,vs,e1,e3,e4,e5⟩
theorem dcat:DOp X (binaryOp .Add) gCatL:=DOp.of zcB fun Z A H st x y dx dy d Q S hA rx ry e q=>by
 unfold gCatL at e
 split at e
 ·split at e
  ·rename_i hs
   cases e
   obtain⟨p1,v1,rfl,h1,_,r1⟩:=rx.lst
   obtain⟨p2,v2,rfl,h2,_,r2⟩:=ry.lst
   have hl:=of_decide_eq_true hs
   rw[List.length_append]at hl
   refine⟨p1,p2,v1,v2,rfl,rfl,h1,h2,by rw[r1.length,r2.length];exact hl,fun p hp=>?_⟩
   exact q _ _ (Ext.upd hp) (S.upd hp) (.lst ze (zM hA hp) (S.notZ hp) ((r1.append r2).ext (Ext.upd hp)))
  ·cases e
 ·cases e
def gAdd:G2:=fun a b=>(gAddI a b).or (gCatL a b)
theorem dadd:DOp X (binaryOp .Add) gAdd:=DOp.or dadd_int dcat
theorem z4V{K:PySem.W.Frag}{vs:List V}{H:Hp}{Q:VK}{E:XK}(h:spD K (fun _ _=>none) vs H Q E):False:=by
 obtain⟨_,_,_,_,_,_,_,_,_,e,_⟩:=h
 cases e
inductive Cal(P:Program)(w:World)(K:PySem.W.Frag)(mg:Str->Option Value)(base:Heap)(x:Str)(ps:List Str)(k:Nat)(g:GF):Prop
 | mk (f:Addr) (fd:FuncData) (h0:FnOk P w K mg base CX0 k f fd ps (spD K g)) (h1:mg x=some (.ref f)) (h2:PySem.W.keepIn K (.ref f)=true) (h3:Binds K fd ps [])
theorem zH{gf:GF}{k k':Nat}{ps:List Str}(C:Cal X.prog X.w X.K X.mg X.base x ps k gf)(hr:Room k' X.A)(ha:DA X (e::es) FL)(hk:k<=k':=by decide)(hg:Gl X x:=by rfl)(hdb:(x == ("__debug__":Str))=false:=by decide)
  (he:starEach (e::es) X.env=(false,eval e X.env)::starEach es X.env:=by rfl) (hpl:(backTo pos (starEach es X.env)).any (·.1)=false:=by rfl):DE X (.Call (.Name x p) (e::es) [] pos) (fCall gf FL):=by
 obtain⟨f,fd,G,hm,hk',hb⟩:=C
 exact zdq G (hr.mono hk) hm hk' hb ha hg hdb he hpl
theorem z5h{names:List (Str × NameKind)}{x:Str}{k:NameKind}(h:names.lookup x=some k):∃ y∈names,y.2=k:=by
 induction names with
 | nil=>cases h
 | cons y r ih =>
  rw[List.lookup_cons]at h
  split at h
  ·cases h;exact⟨y,List.mem_cons_self,rfl⟩
  ·obtain⟨z,hz,e⟩:=ih h
   exact⟨z,List.mem_cons_of_mem _ hz,e⟩
theorem compOk0{scope:Scope}{N:List Str}{k:Nat}(kind:scope.kind=.function)(nocell:∀ y∈scope.names,y.2≠.cell)(nofree:∀ y∈scope.names,y.2≠.free)(names:∀ y∈scope.names,y.2=.local->scope.names.lookup y.1=some .local)(len:N.length=k):CompOk X scope [] N k [] where
 kind:=kind
 nocell:=nocell
 names:=names
 clos:=closureFor_none nofree
 sub:=fun x c h=>nomatch h
 has:=fun x h=>by
  have e:(relabel scope X.env).names=scope.names:=by
   unfold relabel
   refine map_eq_self fun y hy=>?_
   obtain⟨n,kk⟩:=y
   have:=nofree _ hy
   cases kk <;> first | rfl | exact absurd rfl this
  rw[e]at h
  rcases h with h | h
  ·obtain⟨y,hy,ey⟩:=z5h h;exact absurd ey (nocell y hy)
  ·obtain⟨y,hy,ey⟩:=z5h h;exact absurd ey (nofree y hy)
 len:=by rw[len];rfl
 free:=fun t j x h=>nomatch h
end
end L3
namespace L3
open PySem L2 PySem.Spec PyProof.Rows
theorem zgR:¬ (("cells":Str)="turn"):=by decide +kernel
theorem zcK:¬ ((Sum.inr ("cells":Str):Key)=Sum.inr ("turn":Str)):=fun e=>zgR (Sum.inr.inj e)
theorem zat(c:Addr)(t:Int):valV (stDict c t) (Sum.inr "turn":Key)=some (.int t):=by
 unfold stDict
 rw[z4S zcK,z3W rfl]
theorem z6m(c:Addr)(t:Int):valV (stDict c t) (Sum.inr "cells":Key)=some (.ref c):=by
 unfold stDict
 rw[z3W rfl]
theorem zeA(c:Addr)(t u:Int):putK (stDict c t) (Sum.inr "turn":Key) (.int u)=stDict c u:=by
 have e:((stDict c t).any fun kv=>decide (kv.1=(Sum.inr "turn":Key)))=true:=by rw[z6h,zat];rfl
 unfold putK
 rw[if_pos e]
 unfold stDict
 simp only[List.map_cons,List.map_nil,if_neg zcK,if_true]
section
variable {X:Cx}
theorem z79:CallR X (.builtin "divmod") (fun xs H Q=>∃ i j,xs=[.int i,.int j]/\divOk i j=true/\∀ p,H p=none->Q (.ref p) (upd H p (.tup [.int (i.fdiv j),.int (i.fmod j)]))):=by
 intro pins s σ H xs us Q I r h
 obtain⟨i,j,rfl,hd,q⟩:=h
 obtain⟨u,w',rfl,⟨t,rfl⟩,⟨t',rfl⟩⟩:=vals2 r
 have hd':(decide (j≠0) && decide (j.natAbs.log2 < 9000))=true:=hd
 rw[Bool.and_eq_true]at hd'
 refine divmod_int (of_decide_eq_true hd'.1) ?_ (.inl (PyProof.noPylong_of_log2 (of_decide_eq_true hd'.2)))
 have hn:H s.heap.objs.size=none:=I.hok.fresh (Nat.le_refl _)
 refine⟨.ref s.heap.objs.size,_,?_,rfl,q _ hn⟩
 refine I.laid (fun b o e=>Heap.get?_push_of_some _ e) (Nat.le_refl _) ⟨by show 2<=sizeLine;decide,[.int (i.fdiv j) s.toks,.int (i.fmod j) (s.toks + 1)],.cons ⟨_,rfl⟩ (.cons ⟨_,rfl⟩ .nil),?_⟩
 exact⟨_,Heap.get?_push_size s.heap rfl,rfl,0,rfl⟩
end
def mix1(cell t:Int):Int:=((cell.fmod 2147483629 + t * t * 7919 + 11) * 48271).fmod 2147483647
def mix2(cell t:Int):Int:=(mix1 cell t * mix1 cell t).fmod 2147483587
def mix(cell t many:Int):Int:=((((mix2 cell t + t * 104729) * 39373).fmod 2147483629).fdiv 64).fmod many
def takeOk(s:Sx)(many:Int):Bool:=decide (0 < many) && decide (many.natAbs.log2 < 9000) && decide (0<=s.2) && decide (s.2 < 1000000) && decide (0 < s.1.length) && decide (s.1.length<=1000)
def plcOf(s:Sx):Nat:=((s.2 + 1).fmod s.1.length).toNat
def celOf(s:Sx):Int:=s.1.getD (plcOf s) 0
def takeF(s:Sx)(many:Int):D × Sx :=
 if 1000000000000000000<=celOf s then (.int ((celOf s).fmod many),(s.1.set (plcOf s) ((celOf s).fdiv many),s.2 + 1))
 else (.int (mix (celOf s) (s.2 + 1) many),(s.1,s.2 + 1))
def zg:GF:=fun ds s=>match ds with
 | [.dict [],.int many]=>if takeOk s many=true then some (takeF s many) else none
 | _=>none
def Good(n:Nat)(s:Sx):Prop:=0 < s.1.length/\s.1.length<=63/\0<=s.2/\s.2 + n < 1000000
theorem Good.mono{n m:Nat}{s:Sx}(h:Good n s)(hm:m<=n):Good m s:=⟨h.1,h.2.1,h.2.2.1,by have:=h.2.2.2;omega⟩
theorem zau{s:Sx}{many:Int}{n:Nat}(h:Good (n + 1) s)(h1:0 < many)(h2:many < 2 ^ 100):∃ r s',zg [.dict [],.int many] s=some (.int r,s')/\0<=r/\r < many/\Good n s':=by
 obtain⟨a,b,c,d⟩:=h
 have e:takeOk s many=true:=by
  unfold takeOk
  have:many.natAbs.log2 < 9000:=by
   have hm:many.natAbs≠0:=by omega
   rw[Nat.log2_lt hm]
   calc many.natAbs < 2 ^ 100:=by omega
    _<=2 ^ 9000:=Nat.pow_le_pow_right (by decide) (by decide)
  simp only[Bool.and_eq_true,decide_eq_true_eq]
  exact⟨⟨⟨⟨⟨h1,this⟩,c⟩,by omega⟩,a⟩,by omega⟩
 have e2:zg [.dict [],.int many] s=some (takeF s many):=by
  show(if takeOk s many=true then some (takeF s many) else none)=_
  rw[if_pos e]
 rw[e2]
 unfold takeF
 split
 ·refine⟨_,_,rfl,?_,?_,?_⟩
  ·rw[Int.fmod_eq_emod_of_nonneg _ (Int.le_of_lt h1)];exact Int.emod_nonneg _ (by omega)
  ·rw[Int.fmod_eq_emod_of_nonneg _ (Int.le_of_lt h1)];exact Int.emod_lt_of_pos _ h1
  ·exact⟨by simpa using a,by simpa using b,by show 0<=s.2 + 1;omega,by show s.2 + 1 + (n:Int) < 1000000;omega⟩
 ·refine⟨_,_,rfl,?_,?_,?_⟩
  ·unfold mix;rw[Int.fmod_eq_emod_of_nonneg _ (Int.le_of_lt h1)];exact Int.emod_nonneg _ (by omega)
  ·unfold mix;rw[Int.fmod_eq_emod_of_nonneg _ (Int.le_of_lt h1)];exact Int.emod_lt_of_pos _ h1
  ·exact⟨a,b,by show 0<=s.2 + 1;omega,by show s.2 + 1 + (n:Int) < 1000000;omega⟩
def Bt(n:Nat)(i:Int):Prop:=i.natAbs < 2 ^ n
theorem Bt.mono{n m:Nat}{i:Int}(h:Bt n i)(hm:n<=m):Bt m i:=Nat.lt_of_lt_of_le h (Nat.pow_le_pow_right (by decide) hm)
theorem Bt.mul{n m:Nat}{i j:Int}(h:Bt n i)(h2:Bt m j):Bt (n + m) (i * j):=by
 unfold Bt at *
 rw[Int.natAbs_mul,Nat.pow_add]
 exact Nat.mul_lt_mul'' h h2
theorem Bt.add{n m:Nat}{i j:Int}(h:Bt n i)(h2:Bt m j):Bt (max n m + 1) (i + j):=by
 have h1':=h.mono (Nat.le_max_left n m)
 have h2':=h2.mono (Nat.le_max_right n m)
 unfold Bt at *
 have:=Int.natAbs_add_le i j
 rw[Nat.pow_succ];omega
theorem Bt.lit{n:Nat}{i:Int}(h:decide (i.natAbs < 2 ^ n)=true):Bt n i:=by unfold Bt;exact of_decide_eq_true h
theorem Bt.fmod{n:Nat}{i j:Int}(hj:0 < j)(h:Bt n j):Bt n (i.fmod j):=by
 unfold Bt at *
 rw[Int.fmod_eq_emod_of_nonneg _ (Int.le_of_lt hj)]
 have:=Int.emod_nonneg i (show j≠0 by omega)
 have:=Int.emod_lt_of_pos i hj
 omega
theorem Bt.ok{n m:Nat}{i j:Int}(h:Bt n i)(h2:Bt m j)(hs:n + m<=134217728):mulOk i j=true:=by
 refine decide_eq_true (Nat.le_trans (Nat.add_le_add ?_ ?_) hs)
 ·exact PySem.intBits_le_iff.mpr h
 ·exact PySem.intBits_le_iff.mpr h2
theorem Bt.div{n:Nat}{i j:Int}(h:Bt n j)(h0:j≠0)(hn:n<=9000):divOk i j=true:=by
 unfold divOk
 simp only[Bool.and_eq_true,decide_eq_true_eq]
 refine⟨h0,?_⟩
 rw[Nat.log2_lt (by omega)]
 exact Nat.lt_of_lt_of_le h (Nat.pow_le_pow_right (by decide) hn)
def z7T:GS:=sSeq (sSet 6 (f2 gModI (f2 gMulI (f2 gAddI (f2 gAddI (f2 gModI (fVar 4) (fC (.int 2147483629))) (f2 gMulI (f2 gMulI (fVar 2) (fVar 2)) (fC (.int 7919)))) (fC (.int 11))) (fC (.int 48271))) (fC (.int 2147483647))))
 (sSeq (sSet 6 (f2 gModI (f2 gMulI (fVar 6) (fVar 6)) (fC (.int 2147483587))))
 (sRet (f2 gModI (f2 gDivI (f2 gModI (f2 gMulI (f2 gAddI (fVar 6) (f2 gMulI (fVar 2) (fC (.int 104729)))) (fC (.int 39373))) (fC (.int 2147483629))) (fC (.int 64))) (fVar 1))))
theorem zav{cell t many:Int}{s:Sx}(h0:0<=t)(h1:t<=1000000)(hm:0 < many):z7T [.non,.val (.int many),.val (.int t),.non,.val (.int cell),.non,.non] s=some (.ret (.int (mix cell t many)),s):=by
 have b1:Bt 20 t:=by unfold Bt;omega
 have b2:Bt 31 (cell.fmod 2147483629):=Bt.fmod (by decide) (.lit (by decide))
 have b3:Bt 31 (mix1 cell t):=Bt.fmod (by decide) (.lit (by decide))
 have b4:Bt 31 (mix2 cell t):=Bt.fmod (by decide) (.lit (by decide))
 have m1:mulOk t t=true:=b1.ok b1 (by decide)
 have m2:mulOk (t * t) 7919=true:=(b1.mul b1).ok (n:=40) (m:=13) (.lit (by decide)) (by decide)
 have b5:Bt 60 (cell.fmod 2147483629 + t * t * 7919 + 11):=((b2.add ((b1.mul b1).mul (.lit (n:=13) (by decide)))).add (.lit (n:=4) (by decide))).mono (by decide)
 have m3:mulOk (cell.fmod 2147483629 + t * t * 7919 + 11) 48271=true:=b5.ok (m:=16) (.lit (by decide)) (by decide)
 have m4:mulOk (mix1 cell t) (mix1 cell t)=true:=b3.ok b3 (by decide)
 have m5:mulOk t 104729=true:=b1.ok (m:=17) (.lit (by decide)) (by decide)
 have m6:mulOk (mix2 cell t + t * 104729) 39373=true:=(b4.add (b1.mul (.lit (n:=17) (by decide)))).ok (m:=16) (.lit (by decide)) (by decide)
 have d1:divOk (((mix2 cell t + t * 104729) * 39373).fmod 2147483629) 64=true:=Bt.div (n:=7) (.lit (by decide)) (by decide) (by decide)
 have n1:decide (many≠0)=true:=decide_eq_true (by omega)
 have e1:∀ (δ:Sl),δ[4]?=some (.val (.int cell))->δ[2]?=some (.val (.int t))->sSet 6 (f2 gModI (f2 gMulI (f2 gAddI (f2 gAddI (f2 gModI (fVar 4) (fC (.int 2147483629))) (f2 gMulI (f2 gMulI (fVar 2) (fVar 2)) (fC (.int 7919)))) (fC (.int 11))) (fC (.int 48271))) (fC (.int 2147483647))) δ s=some (.next (δ.set 6 (.val (.int (mix1 cell t)))),s):=fun δ h4 h2=>by
  simp[sSet,f2,fVar,fC,h4,h2,gModI,gMulI,gAddI,gI,m1,m2,m3,mix1]
 have e2:∀ (δ:Sl),δ[6]?=some (.val (.int (mix1 cell t)))->sSet 6 (f2 gModI (f2 gMulI (fVar 6) (fVar 6)) (fC (.int 2147483587))) δ s=some (.next (δ.set 6 (.val (.int (mix2 cell t)))),s):=fun δ h6=>by
  simp[sSet,f2,fVar,fC,h6,gModI,gMulI,gI,m4,mix2]
 have e3:∀ (δ:Sl),δ[6]?=some (.val (.int (mix2 cell t)))->δ[2]?=some (.val (.int t))->δ[1]?=some (.val (.int many))->sRet (f2 gModI (f2 gDivI (f2 gModI (f2 gMulI (f2 gAddI (fVar 6) (f2 gMulI (fVar 2) (fC (.int 104729)))) (fC (.int 39373))) (fC (.int 2147483629))) (fC (.int 64))) (fVar 1)) δ s=some (.ret (.int (mix cell t many)),s):=fun δ h6 h2 h1=>by
  have n2:¬ many=0:=by omega
  simp[sRet,f2,fVar,fC,h6,h2,h1,gModI,gMulI,gAddI,gDivI,gI,m5,m6,d1,n2,mix]
 unfold z7T sSeq
 rw[e1 _ rfl rfl]
 show(match sSet 6 _ _ s with | some (.next δ',s')=>_ | r=>r)=_
 rw[e2 _ rfl]
 exact e3 _ rfl rfl rfl
def beginCells(ns:List Int):List Int:=if ns=[] then [7] else ns
def spBegin(K:PySem.W.Frag):Sp:=fun vs H Q _=>∃ a ns,vs=[.ref a]/\SqL K H a (ns.map V.int)/\ns.length<=63 /\
 ∀ st c H',(∀ b o,H b=some o->H' b=some o)->H' st=some (.dK (stDict c 0))->H' c=some (.lst ((beginCells ns).map V.int))->Q (.ref st) H'
end L3
namespace L3
open PySem L2 PySem.Spec PyProof.Rows
theorem DSs.any{X:Cx}{sts:List Stmt}{G:GS}(h:DSs X sts G):PSs X sts (fun E σ H=>∃ Z A,tDS X Z A G E σ H):=fun pins s σ H D I zfP=>(by obtain⟨Z,A,q⟩:=zfP;exact h Z A pins s σ H D I q)
theorem DS.at0{X:Cx}{st:Stmt}{G:GS}(h:DS X st G):PS X st (tDS X none [] G):=h none []
theorem z7a(K:PySem.W.Frag)(Z:Zt)(H:Hp)(A:List Addr):∀ ns:List Int,Reps K Z H A (ns.map V.int) (ns.map PyData.int)
 | []=>.nil
 | n::r=>.cons (.int n) (z7a K Z H A r)
theorem z4B{K:PySem.W.Frag}{Z:Zt}{H:Hp}{A:List Addr}:∀ {ns:List Int} {vs:List V},Reps K Z H A vs (ns.map PyData.int)->vs=ns.map V.int
 | [],_,.nil=>rfl
 | n::r,_,.cons h t=>by cases h;rw[z4B t];rfl
theorem z8F:∀ ns:List Int,PyData.canLayAll0 (ns.map PyData.int)=true
 | []=>by simp[PyData.canLayAll0]
 | n::r=>by simp[PyData.canLayAll0,PyData.canLay0,z8F r]
theorem z67:∀ ns:List Int,PyData.depthAll (ns.map PyData.int)=0
 | []=>by simp[PyData.depthAll]
 | n::r=>by simp[PyData.depthAll,PyData.depth,z67 r]
theorem z7U(ns:List Int):SeqAt.shaped (.list (ns.map PyData.int))=true:=by
 simp[SeqAt.shaped,PyData.canLay0,PyData.depth,z8F,z67]
theorem z9m:SeqAt.shaped (.list [])=true:=by simp[SeqAt.shaped,PyData.canLay0,PyData.depth,PyData.canLayAll0,PyData.depthAll]
theorem eqv_nil(ns:List Int):PyData.eqv (.list (ns.map PyData.int)) (.list [])=decide (ns=[]):=by
 cases ns <;> simp[PyData.eqv,PyData.eqvAll]
def z7V:GS:=sIf (asB (f2 gEq (fVar 1) (eLst aNil))) (sSet 1 (eLst (aCons (fC (.int 7)) aNil))) sNext
theorem zaw(ns:List Int)(s:Sx)(c:Ce):z7V [c,.val (.list (ns.map PyData.int))] s=some (.next [c,.val (.list ((beginCells ns).map PyData.int))],s):=by
 have e1:small []=true:=by decide
 have e2:small [PyData.int 7]=true:=by decide
 simp only[z7V,sIf,asB,f2,fVar,eLst,aNil,aCons,fC,List.getElem?_cons_succ,List.getElem?_cons_zero,Option.bind_some,Option.map_some,e1,if_true,gEq,z7U,z9m,Bool.and_self,eqv_nil]
 by_cases h:ns=[]
 ·subst h
  simp[sSet,eLst,aCons,aNil,fC,e2,beginCells]
 ·simp[h,sNext,beginCells]
end L3
namespace L3
open PySem L2 PySem.Spec PyProof.Rows
def spLaw(K:PySem.W.Frag):Sp:=fun vs H Q _=>∃ (a:Addr) (ns:List Int),vs=[.ref a]/\SqL K H a (ns.map V.int)/\ns.length<=63/\∀ H',Q (.bl true) H'
theorem z7b(ns:List Int)(h:ns.length<=63):0 < (beginCells ns).length/\(beginCells ns).length<=63:=by
 unfold beginCells
 split
 ·exact⟨by decide,by decide⟩
 ·rename_i hn
  exact⟨by cases ns with | nil=>exact absurd rfl hn | cons a r=>simp,h⟩
end L3
namespace L3
open PySem L2 PySem.Spec PyProof.Rows
theorem z8G{T:Tgt}{G:GS}(I:Nat->Sl->Sx->Prop):∀ (ds:List D) (δ:Sl) (s:Sx),I ds.length δ s ->
  (∀ k d δ s,d∈ds->I (k + 1) δ s->∃ δ1 δ' s',T.run d δ=some δ1/\G δ1 s=some (.next δ',s')/\I k δ' s')->∃ δ' s',forD T G ds δ s=some (.next δ',s')/\I 0 δ' s'
 | [],δ,s,h,_=>⟨δ,s,rfl,h⟩
 | d::ds,δ,s,h,step=>by
  obtain⟨δ1,δ2,s2,e1,e2,h2⟩:=step ds.length d δ s List.mem_cons_self h
  obtain⟨δ3,s3,e3,h3⟩:=z8G I ds δ2 s2 h2 fun k d' δ s hd=>step k d' δ s (List.mem_cons_of_mem _ hd)
  refine⟨δ3,s3,?_,h3⟩
  show((T.run d δ).bind fun δ1=>_)=_
  rw[e1]
  show(match G δ1 s with | some (.next δ',s')=>forD T G ds δ' s' | some (.cnt δ',s')=>forD T G ds δ' s' | some (.brk δ',s')=>some (.next δ',s') | some (.ret r,s')=>some (.ret r,s') | some (.own r,s')=>some (.own r,s') | none=>none)=_
  rw[e2]
  exact e3
end L3
namespace L3
open PySem L2 PySem.Spec PyProof.Rows
end L3
namespace L3
open PySem L2 PySem.Spec PyProof.Rows
section
variable {X:Cx} {e:Expr} {Fa F:FE} {x:Str} {p pos apos cpos:Pos}
end
end L3
namespace L3
open PySem L2 PySem.Spec PyProof.Rows
theorem z1b(i j:Int):gEq (.int i) (.int j)=some (.bool (decide (i=j))):=by
 simp[gEq,SeqAt.shaped,PyData.canLay0,PyData.depth,PyData.eqv,Bool.beq_eq_decide_eq]
theorem z7W(i j:Int):gNe (.int i) (.int j)=some (.bool (!decide (i=j))):=by
 simp[gNe,SeqAt.shaped,PyData.canLay0,PyData.depth,PyData.eqv,Bool.beq_eq_decide_eq]
theorem small2(a b:D):small [a,b]=true:=decide_eq_true (by show 2<=sizeLine;decide)
theorem zeB{n:Nat}{i:Int}(h0:-(2 ^ n) < i)(h1:i < 2 ^ n):Bt n i:=by
 unfold Bt
 have:((2 ^ n:Nat):Int)=2 ^ n:=by simp
 omega
theorem zJ{G1 G2:GS}{δ δ':Sl}{s s':Sx}(h:G1 δ s=some (.next δ',s')):sSeq G1 G2 δ s=G2 δ' s':=by unfold sSeq;rw[h]
theorem z6n{G1 G2:GS}{δ:Sl}{d:D}{s s':Sx}(h:G1 δ s=some (.ret d,s')):sSeq G1 G2 δ s=some (.ret d,s'):=by unfold sSeq;rw[h]
end L3
namespace L3
open PySem L2 PySem.Spec PyProof.Rows
section
variable {K:PySem.W.Frag} {B:Hp} {Z:Zt} {A:List Addr} {ow:Ow} {σ:L2.St} {δ:Sl} {H H':Hp} {i:Nat} {p:Addr}
theorem RepS.setOwn{s:Sx}{vs:List V}{ds:List D}(R:RepS K B Z A ow σ δ H)(S:StateAt Z H s)(x:Ext Z H H')(hp:H p=none)(h:H' p=some (.lst vs))(r:Reps K Z H' (p::(A++ow.map (·.2))) vs ds) :
  RepS K B Z A ((i,p)::ow.filter fun q=>decide (q.1≠i)) (σ.set i (some (.ref p))) (δ.set i (.own ds)) H'/\Frm Z ow H ((i,p)::ow.filter fun q=>decide (q.1≠i)) H':=by
 have nz:NotZ Z p:=S.notZ hp
 have bp:B p=none:=by
  cases e:B p with
  | none=>rfl
  | some o=>rw[R.ext p o e nz]at hp;cases hp
 have pA:¬ p∈A:=fun m=>by obtain⟨⟨o,e⟩,_⟩:=R.ok p m;rw[hp]at e;cases e
 have pO:¬ p∈ow.map (·.2):=fun m=>by
  obtain⟨⟨j,q⟩,hq,rfl⟩:=List.mem_map.mp m
  obtain⟨_,⟨o,e⟩,_⟩:=R.ows j q hq
  rw[hp]at e;cases e
 have F:Frm Z ow H ((i,p)::ow.filter fun q=>decide (q.1≠i)) H':=fun b o e n m=>⟨x b o e n,fun z=>by
  rcases List.mem_cons.mp z with z | z
  ·rw[z]at e;simp only at e;rw[hp]at e;cases e
  ·obtain⟨q,hq,e2⟩:=List.mem_map.mp z
   exact m (List.mem_map.mpr ⟨q,(List.mem_filter.mp hq).1,e2⟩)⟩
 refine⟨⟨fun q hq=>⟨let ⟨o,e⟩:=(R.ok q hq).1;⟨o,x q o e (R.ok q hq).2⟩,(R.ok q hq).2⟩,R.ext.trans x,by rw[List.length_set,List.length_set];exact R.len,fun j d' e=>?_,fun j xs e=>?_,fun j q hq=>?_,fun j k q h1 h2=>?_⟩,F⟩
 ·by_cases hj:i=j
  ·subst hj
   have hi:i < δ.length:=by have:=(List.getElem?_eq_some_iff.mp e).1;rwa [List.length_set]at this
   rw[List.getElem?_set_self hi]at e;cases e
  ·rw[List.getElem?_set_ne hj]at e
   obtain⟨v',h1,h2⟩:=R.val j d' e
   exact⟨v',by rw[List.getElem?_set_ne hj];exact h1,h2.frm F⟩
 ·by_cases hj:i=j
  ·subst hj
   have hi:i < δ.length:=by have:=(List.getElem?_eq_some_iff.mp e).1;rwa [List.length_set]at this
   rw[List.getElem?_set_self hi]at e;cases e
   refine⟨p,vs,List.mem_cons_self,List.getElem?_set_self (by rw[<- R.len];exact hi),h,r.sub fun q hq=>?_⟩
   rcases List.mem_append.mp hq with hq | hq
   ·exact List.mem_cons_of_mem _ (List.mem_append_left _ hq)
   ·rcases List.mem_cons.mp hq with hq | hq
    ·rw[hq];exact List.mem_cons_self
    ·obtain⟨q',hq',e2⟩:=List.mem_map.mp hq
     exact List.mem_cons_of_mem _ (List.mem_append_right _ (List.mem_map.mpr ⟨q',(List.mem_filter.mp hq').1,e2⟩))
  ·rw[List.getElem?_set_ne hj]at e
   obtain⟨q,ws,h1,h2,h3,h4⟩:=R.own j xs e
   exact⟨q,ws,List.mem_cons_of_mem _ (List.mem_filter.mpr ⟨h1,decide_eq_true (Ne.symm hj)⟩),by rw[List.getElem?_set_ne hj];exact h2,x q _ h3 (R.ows j q h1).2.2.1,h4.frm F⟩
 ·rcases List.mem_cons.mp hq with hq | hq
  ·cases hq;exact⟨bp,⟨_,h⟩,nz,pA⟩
  ·obtain⟨a,⟨o,b⟩,c,d⟩:=R.ows j q (List.mem_filter.mp hq).1
   exact⟨a,⟨o,x q _ b c⟩,c,d⟩
 ·rcases List.mem_cons.mp h1 with h1 | h1 <;> rcases List.mem_cons.mp h2 with h2 | h2
  ·cases h1;cases h2;rfl
  ·cases h1;exact absurd (List.mem_map.mpr ⟨(k,p),(List.mem_filter.mp h2).1,rfl⟩) pO
  ·cases h2;exact absurd (List.mem_map.mpr ⟨(j,p),(List.mem_filter.mp h1).1,rfl⟩) pO
  ·exact R.inj j k q (List.mem_filter.mp h1).1 (List.mem_filter.mp h2).1
theorem RepS.change{vs:List V}{xs ds:List D}(R:RepS K B Z A ow σ δ H)(ho:δ[i]?=some (.own xs))(hi:(i,p)∈ow)(hs:σ[i]?=some (some (.ref p)))(r:Reps K Z H (A++ow.map (·.2)) vs ds) :
  RepS K B Z A ow σ (δ.set i (.own ds)) (upd H p (.lst vs))/\Frm Z ow H ow (upd H p (.lst vs)):=by
 obtain⟨bp,_,nz,pA⟩:=R.ows i p hi
 have F:Frm Z ow H ow (upd H p (.lst vs)):=fun b o e n m=>⟨by
  rw[zd (fun z=>m (by rw[z];exact List.mem_map.mpr ⟨(i,p),hi,rfl⟩))];exact e,m⟩
 refine⟨⟨fun q hq=>⟨?_,(R.ok q hq).2⟩,fun b o e n=>?_,by rw[List.length_set];exact R.len,fun j d' e=>?_,fun j ys e=>?_,fun j q hq=>?_,R.inj⟩,F⟩
 ·obtain⟨o,e⟩:=(R.ok q hq).1
  exact⟨o,by rw[zd (fun z=>pA (by rw[<- z];exact hq))];exact e⟩
 ·have:b≠p:=fun z=>by rw[z,bp]at e;cases e
  rw[zd this];exact R.ext b o e n
 ·by_cases hj:i=j
  ·subst hj
   rw[List.getElem?_set_self (List.getElem?_eq_some_iff.mp ho).1]at e;cases e
  ·rw[List.getElem?_set_ne hj]at e
   obtain⟨v',h1,h2⟩:=R.val j d' e
   exact⟨v',h1,h2.frm F⟩
 ·by_cases hj:i=j
  ·subst hj
   rw[List.getElem?_set_self (List.getElem?_eq_some_iff.mp ho).1]at e;cases e
   exact⟨p,vs,hi,hs,ze,r.frm F⟩
  ·rw[List.getElem?_set_ne hj]at e
   obtain⟨q,ws,h1,h2,h3,h4⟩:=R.own j ys e
   have:q≠p:=fun z=>hj (R.inj i j p hi (z ▸ h1))
   exact⟨q,ws,h1,h2,by rw[zd this];exact h3,h4.frm F⟩
 ·obtain⟨a,⟨o,b⟩,c,d⟩:=R.ows j q hq
  refine⟨a,?_,c,d⟩
  by_cases z:q=p
  ·rw[z];exact⟨_,ze⟩
  ·exact⟨o,by rw[zd z];exact b⟩
theorem StateAt.chg{s:Sx}{o:HO}(S:StateAt Z H s)(n:NotZ Z p):StateAt Z (L2.upd H p o) s:=fun a c e =>
 ⟨by rw[zd (Ne.symm (n a c e).1)];exact(S a c e).1,by rw[zd (Ne.symm (n a c e).2)];exact(S a c e).2⟩
theorem RepS.freeze{xs:List D}(R:RepS K B Z A ow σ δ H)(ho:δ[i]?=some (.own xs)) :
  ∃ ow',RepS K B Z A ow' σ (δ.set i (.val (.list xs))) H/\Frm Z ow H ow' H:=by
 obtain⟨p,vs,h1,h2,h3,h4⟩:=R.own i xs ho
 have r:Rep K Z H (A++(ow.filter fun q=>decide (q.1≠i)).map (·.2)) (.ref p) (.list xs):=by
  refine .lst h3 (fun m=>?_) (R.ows i p h1).2.2.1 (h4.sub fun q hq=>?_)
  ·rcases List.mem_append.mp m with m | m
   ·exact(R.ows i p h1).2.2.2 m
   ·obtain⟨⟨j,q⟩,hq,e⟩:=List.mem_map.mp m
    have hq':=List.mem_filter.mp hq
    cases e
    exact of_decide_eq_true hq'.2 (R.inj j i q hq'.1 h1)
  ·rcases List.mem_append.mp hq with m | m
   ·exact List.mem_append_left _ m
   ·obtain⟨q',hq',e⟩:=List.mem_map.mp m
    exact List.mem_append_right _ (List.mem_map.mpr ⟨q',(List.mem_filter.mp hq').1,e⟩)
 have sub:∀ q∈A++(ow.filter fun p=>decide (p.1≠i)).map (·.2),q∈A++ow.map (·.2):=fun q hq=>by
  rcases List.mem_append.mp hq with h | h
  ·exact List.mem_append_left _ h
  ·obtain⟨p,hp,rfl⟩:=List.mem_map.mp h
   exact List.mem_append_right _ (List.mem_map_of_mem (List.mem_filter.mp hp).1)
 refine⟨ow.filter fun q=>decide (q.1≠i),⟨R.ok,R.ext,by rw[List.length_set];exact R.len,fun j d' e=>?_,fun j ys e=>?_,fun j q hq=>R.ows j q (List.mem_filter.mp hq).1,fun j k q a b=>R.inj j k q (List.mem_filter.mp a).1 (List.mem_filter.mp b).1⟩,fun b o h n m=>⟨h,fun z=>m ?_⟩⟩
 ·by_cases hj:i=j
  ·subst hj
   rw[List.getElem?_set_self (List.getElem?_eq_some_iff.mp ho).1]at e;cases e
   exact⟨_,h2,r⟩
  ·rw[List.getElem?_set_ne hj]at e
   obtain⟨v',a,b⟩:=R.val j d' e
   exact⟨v',a,b.sub sub⟩
 ·by_cases hj:i=j
  ·subst hj
   rw[List.getElem?_set_self (List.getElem?_eq_some_iff.mp ho).1]at e;cases e
  ·rw[List.getElem?_set_ne hj]at e
   obtain⟨q,ws,a,b,c,d⟩:=R.own j ys e
   exact⟨q,ws,List.mem_filter.mpr ⟨a,decide_eq_true (Ne.symm hj)⟩,b,c,d.sub sub⟩
 ·obtain⟨q,hq,e⟩:=List.mem_map.mp z
  exact List.mem_map.mpr ⟨q,(List.mem_filter.mp hq).1,e⟩
end
section
variable {X:Cx} {st:Stmt} {sts:List Stmt} {e e2 ie:Expr} {es:List Expr} {F Fa Fb Fi:FE} {Fo Fo2:FO} {FL:FA} {G:GS} {x:Str} {i j:Nat} {p pos px apos cpos tpos:Pos}
theorem zeC(h:DA X es FL):DF X (.List es pos) (fun δ s=>(FL δ s).bind fun p=>if small p.1=true then some (p.1,p.2) else none):=⟨fun Z A=>PE.imp (za2 (h Z A)) fun σ H Q zfQ=>by
 obtain⟨B,ow,δ,s,d,s',R,S,e,q⟩:=zfQ
 first | refine bnd1 e fun p e1 e=>?_ | refine mpp1 e fun p e1 e=>?_
 replace e:(if small p.1=true then some (p.1,p.2) else none)=some (d,s'):=e
 split at e
 ·rename_i hs
  cases e
  refine⟨B,ow,δ,s,_,_,R,S,e1,fun vs H1 x1 S1 rs=>⟨?_,fun p hp=>q p vs _ (x1.trans (Ext.upd hp)) (S1.upd hp) ?_ ze (rs.fresh hp)⟩⟩
  ·rw[rs.length];exact of_decide_eq_true hs
  ·cases e9:H p with
   | none=>rfl
   | some o=>rw[x1 p o e9 (S1.notZ hp)]at hp;cases hp
 ·cases e⟩
def oLst(FL:FA):FO:=fun δ s=>(FL δ s).bind fun p=>if small p.1=true then some (p.1,p.2) else none
theorem z21{Z:Zt}{H H1:Hp}{s:Sx}{p:Addr}(x1:Ext Z H H1)(S1:StateAt Z H1 s)(hp:H1 p=none):H p=none:=by
 cases e9:H p with
 | none=>rfl
 | some o=>rw[x1 p o e9 (S1.notZ hp)]at hp;cases hp
theorem zdr(h:DA X es FL):DF X (.List es pos) (oLst FL):=zeC h
def oList(Fa:FE):FO:=fun δ s=>(Fa δ s).bind fun p=>(seqOf p.1).map fun xs=>(xs,p.2)
theorem z7X(hv:bootBuiltins x=some (.type "list"))(hm:X.mg x=none)(ha:DW X e Fa)(hg:Gl X x:=by rfl)(hn:x≠"__name__":=by decide)(hdb:(x == ("__debug__":Str))=false:=by decide)
  (hs:starEach [e] X.env=(false,eval e X.env)::starEach [] X.env:=by rfl):DF X (.Call (.Name x p) [e] [] pos) (oList Fa):=⟨fun Z A=>PE.imp (z57 z2W hg hm hv (zS (ha Z A) z0U hs) hn hdb hs rfl) fun σ H Q zfR=>by
  obtain⟨B,ow,δ,s,ds,s',R,S,e,q⟩:=zfR
  unfold oList at e
  first | refine bnd2 e fun d s1 e1 e=>?_ | refine mpp2 e fun d s1 e1 e=>?_
  replace e:((seqOf d).map fun xs=>(xs,s1))=some (ds,s'):=e
  refine⟨B,ow,δ,s,d,s1,R,S,e1,fun v H1 x1 S1 r=>?_⟩
  cases d with
  | list xs =>
   cases e
   obtain⟨p,vs,ev,sq,_,rs⟩:=r.list
   exact⟨p,vs,by rw[ev],.inl sq,fun l hl=>q l vs _ (x1.trans (Ext.upd hl)) (S1.upd hl) (z21 x1 S1 hl) ze (rs.fresh hl)⟩
  | tuple xs =>
   cases e
   obtain⟨p,vs,ev,sq,rs⟩:=r.tuple
   exact⟨p,vs,by rw[ev],.inr sq,fun l hl=>q l vs _ (x1.trans (Ext.upd hl)) (S1.upd hl) (z21 x1 S1 hl) ze (rs.fresh hl)⟩
  | _=>cases e⟩
def o2(g:D->D->Option (List D))(Fa Fb:FE):FO:=fun δ s=>(Fa δ s).bind fun p=>(Fb δ p.2).bind fun q=>(g p.1 q.1).map fun d=>(d,q.2)
theorem zeD{op:Operator}{r:R2}{g:D->D->Option (List D)}(ho:OpR X (binaryOp op) r)(ha:DW X e Fa)(hb:DW X e2 Fb)
  (hr:∀ (Z:Zt) (A:List Addr) (H:Hp) (x y:V) (dx dy:D) (ds:List D) (Q:VK),RepW X.K Z H A x dx->RepW X.K Z H A y dy->g dx dy=some ds->(∀ p vs,H p=none->Reps X.K Z H A vs ds->Q (.ref p) (upd H p (.lst vs)))->r x y H Q) :
  DF X (.BinOp e op e2 pos) (o2 g Fa Fb):=⟨fun Z A=>PE.imp (zbq ho (ha Z A) (hb Z A)) fun σ H Q zfS=>by
 obtain⟨B,ow,δ,s,ds,s',R,S,e,q⟩:=zfS
 unfold o2 at e
 first | refine bnd2 e fun dx s1 e1 e=>?_ | refine mpp2 e fun dx s1 e1 e=>?_
 replace e:((Fb δ s1).bind fun q=>(g dx q.1).map fun d=>(d,q.2))=some (ds,s'):=e
 first | refine bnd2 e fun dy s2 e2 e=>?_ | refine mpp2 e fun dy s2 e2 e=>?_
 replace e:((g dx dy).map fun d=>(d,s2))=some (ds,s'):=e
 cases e3:g dx dy with
 | none=>rw[e3]at e;cases e
 | some d' =>
  rw[e3]at e
  cases e
  refine⟨B,ow,δ,s,dx,s1,R,S,e1,fun v H1 x1 S1 r1=>⟨B,ow,δ,s1,dy,s',R.mono x1,S1,e2,fun u H2 x2 S2 r2=>?_⟩⟩
  exact hr Z _ H2 v u dx dy ds Q (r1.ext x2) r2 e3 fun p vs hp rs=>q p vs _ ((x1.trans x2).trans (Ext.upd hp)) (S2.upd hp) (z21 (x1.trans x2) S2 hp) ze (rs.fresh hp)⟩
def lCat:D->D->Option (List D):=fun a b=>match a,b with | .list xs,.list ys=>if small (xs++ys)=true then some (xs++ys) else none | _,_=>none
theorem zeE(ha:DW X e Fa)(hb:DW X e2 Fb):DF X (.BinOp e .Add e2 pos) (o2 lCat Fa Fb):=zeD zcB ha hb fun Z A H x y dx dy ds Q rx ry e q=>by
 unfold lCat at e
 split at e
 ·split at e
  ·rename_i hs
   cases e
   obtain⟨p1,v1,rfl,h1,_,r1⟩:=rx.lst
   obtain⟨p2,v2,rfl,h2,_,r2⟩:=ry.lst
   have hl:=of_decide_eq_true hs
   rw[List.length_append]at hl
   exact⟨p1,p2,v1,v2,rfl,rfl,h1,h2,by rw[r1.length,r2.length];exact hl,fun p hp=>q p _ hp (r1.append r2)⟩
  ·cases e
 ·cases e
def lRep:D->D->Option (List D):=fun a b=>match a,b with
 | .list xs,.int k=>if (decide (-(2 ^ 63)<=k) && decide (k < 2 ^ 63) && decide (xs.length * k.toNat<=sizeLine))=true then some (List.replicate k.toNat xs).flatten else none
 | _,_=>none
theorem zcL(ha:DW X e Fa)(hb:DW X e2 Fb):DF X (.BinOp e .Mult e2 pos) (o2 lRep Fa Fb):=zeD zcC ha hb fun Z A H x y dx dy ds Q rx ry e q=>by
 unfold lRep at e
 split at e
 ·split at e
  ·rename_i hs
   cases e
   simp only[Bool.and_eq_true,decide_eq_true_eq]at hs
   obtain⟨p1,v1,rfl,h1,_,r1⟩:=rx.lst
   have ey:=ry.int
   exact⟨p1,_,v1,rfl,ey,h1,hs.1.1,hs.1.2,by rw[r1.length];exact hs.2,fun p hp=>q p _ hp (r1.rep _)⟩
  ·cases e
 ·cases e
def cutD(xs:List D)(lo hi:Option Int):List D:=(xs.drop (HT.sIx xs.length 0 lo)).take (HT.sIx xs.length xs.length hi - HT.sIx xs.length 0 lo)
theorem Reps.cut{K:PySem.W.Frag}{Z:Zt}{H:Hp}{A:List Addr}{vs:List V}{ds:List D}{lo hi:Option Int}(r:Reps K Z H A vs ds):Reps K Z H A (cutV vs lo hi) (cutD ds lo hi):=by
 unfold cutV cutD
 rw[r.length]
 exact(r.drop _).take _
abbrev FP:=Sl->Sx->Option (Option Int × Sx)
def pNo:FP:=fun _ s=>some (none,s)
def pInt(F:FE):FP:=fun δ s=>(F δ s).bind fun p=>match p.1 with | .int i=>some (some i,p.2) | _=>none
inductive tDPK(K:PySem.W.Frag)(Z:Zt)(A:List Addr)(F:FP)(σ:L2.St)(H:Hp)(Q:Option Int->Hp->Prop):Prop
 | mk (B:Hp) (ow:Ow) (δ:Sl) (s:Sx) (o:Option Int) (s':Sx) (h0:RepS K B Z A ow σ δ H) (h1:StateAt Z H s) (h2:F δ s=some (o,s')) (h3:∀ H',Ext Z H H'->StateAt Z H' s'->Q o H')
abbrev tDP(X:Cx)(Z:Zt)(A:List Addr)(F:FP):TO:=tDPK X.K Z A F
structure DP(X:Cx)(e:Option Expr)(F:FP):Prop where
 go:∀ Z A,PO X e (tDP X Z A F)
instance {X:Cx} {e:Option Expr} {F:FP}:CoeFun (DP X e F) (fun _=>∀ Z A,PO X e (tDP X Z A F)):=⟨fun h=>h.go⟩
theorem PO.imp{e:Option Expr}{t t':TO}(h:PO X e t)(hi:∀ σ H Q,t' σ H Q->t σ H Q):PO X e t':=fun pins s σ H Q I q=>h pins s σ H Q I (hi σ H Q q)
theorem z7c:DP X none pNo:=⟨fun Z A=>PO.imp za8 fun σ H Q zfT=>by
 obtain⟨B,ow,δ,s,o,s',R,S,e,q⟩:=zfT
 cases e;exact q H (Ext.refl H) S⟩
theorem z4C(h:DW X e F):DP X (some e) (pInt F):=⟨fun Z A=>PO.imp (za9 (h Z A)) fun σ H Q zfU=>by
 obtain⟨B,ow,δ,s,o,s',R,S,e,q⟩:=zfU
 unfold pInt at e
 first | refine bnd2 e fun d s1 e1 e=>?_ | refine mpp2 e fun d s1 e1 e=>?_
 cases d with
 | int k =>
  cases e
  exact⟨B,ow,δ,s,_,_,R,S,e1,fun v H1 x1 S1 r=>⟨k,r.int,q H1 x1 S1⟩⟩
 | _=>cases e⟩
def sSetO(i:Nat)(Fo:FO):GS:=fun δ s=>(Fo δ s).map fun p=>(.next (δ.set i (.own p.1)),p.2)
theorem z3F{pos':Pos}(hN:X.N.Nodup)(he:DF X e Fo)(hi:X.N[i]?=some x:=by rfl)(hx:Loc X.env.scope x:=by first | exact Or.inl rfl | exact Or.inr rfl)(hs:swapsWith e (some (.Name x pos')) pos.line X.env=pure false:=by rfl)
  (hf:X.fn x=true\/X.env.scope.names.lookup x=some .local:=by first | exact .inl rfl | exact .inr rfl | assumption):DS X (.Assign [.Name x pos'] e pos) (sSetO i Fo):=⟨fun Z A=>PS.imp (z2u hN hi hx (he Z A) hs hf) fun E σ H zfV=>by
 obtain⟨ow,δ,s,o,s',R,S,e,q⟩:=zfV
 unfold sSetO at e
 first | refine bnd1 e fun p e1 e=>?_ | refine mpp1 e fun p e1 e=>?_
 cases e
 refine⟨_,ow,δ,s,_,_,R,S,e1,fun p vs H' x1 S1 n h r=>?_⟩
 obtain⟨R',f⟩:=R.setOwn (i:=i) S x1 n h r
 exact q _ _ H' R' S1 f⟩
def sFrz(i:Nat):GS:=fun δ s=>match δ[i]? with | some (.own xs)=>some (.next (δ.set i (.val (.list xs))),s) | _=>some (.next δ,s)
theorem z7d(i:Nat)(h:DS X st G):DS X st (sSeq (sFrz i) G):=⟨fun Z A=>PS.imp (h Z A) fun E σ H zfW=>by
 obtain⟨ow,δ,s,o,s',R,S,e,q⟩:=zfW
 unfold sSeq sFrz at e
 cases e1:δ[i]? with
 | none=>rw[e1]at e;exact⟨ow,δ,s,o,s',R,S,e,q⟩
 | some c =>
  rw[e1]at e
  cases c with
  | own xs =>
   obtain⟨ow',R',f⟩:=R.freeze e1
   exact⟨ow',_,s,o,s',R',S,e,q.frm f⟩
  | non=>exact⟨ow,δ,s,o,s',R,S,e,q⟩
  | val d=>exact⟨ow,δ,s,o,s',R,S,e,q⟩⟩
def sApp(i:Nat)(F:FE):GS:=fun δ s=>(F δ s).bind fun q=>match δ[i]? with | some (.own xs)=>if decide (xs.length < sizeLine)=true then some (.next (δ.set i (.own (xs++[q.1]))),q.2) else none | _=>none
theorem zeF(hv:PE X (.Name x px) (tVar i))(he:DE X e F)(hbase:attributeBase (.Name x px) "append" X.env (eval (.Name x px) X.env)=eval (.Name x px) X.env:=by rfl)
  (hfew:((backTo cpos (starEach [e] X.env)).all (fun x=>!x.1) && (backToKw cpos (keywordEach [] X.env)).all (fun x=>x.1.isSome) && decide ([e].length + ([]:List Keyword).length + (if ([]:List Keyword).isEmpty then 0 else 1) < 30))=true:=by rfl)
  (hline:(apos.endLine == cpos.line)=true:=by rfl) (hs:starEach [e] X.env=(false,eval e X.env)::starEach [] X.env:=by rfl)
  (hsw:swapsWith (.Call (.Attribute (.Name x px) "append" apos) [e] [] cpos) none pos.line X.env=pure false:=by rfl):DS X (.Expr (.Call (.Attribute (.Name x px) "append" apos) [e] [] cpos) pos) (sApp i F):=⟨fun Z A=>PS.imp (z6d (zer PySem.F.plainAttrs_list PySem.F.slot_list_append PySem.F.type_list_append z6Z hv (zS (he Z A) z0U hs) hbase hfew hline hs rfl) hsw) fun E σ H zfX=>by
  obtain⟨ow,δ,s,o,s',R,S,e,q⟩:=zfX
  unfold sApp at e
  first | refine bnd2 e fun d s1 e1 e=>?_ | refine mpp2 e fun d s1 e1 e=>?_
  try simp only[Option.bind_some]at e
  split at e
  ·rename_i xs ho
   split at e
   ·rename_i hl
    cases e
    obtain⟨a,vs,h1,h2,h3,h4⟩:=R.own i xs ho
    refine⟨_,h2,.inl ⟨rfl,_,SqL.of h3⟩,⟨_,ow,δ,s,d,_,R,S,e1,fun v H1 x1 S1 r=>?_⟩⟩
    have h3':=x1 _ _ h3 (R.ows i a h1).2.2.1
    refine⟨a,vs,v,rfl,rfl,h3',by rw[h4.length];exact of_decide_eq_true hl,?_⟩
    obtain⟨R',f⟩:=(R.mono x1).change ho h1 h2 ((h4.ext x1).append (.cons r .nil))
    exact q _ _ _ R' (S1.chg (R.ows i a h1).2.2.1) ((Frm.ext x1).trans f)
   ·cases e
  ·cases e⟩
def sPop(i:Nat):GS:=fun δ s=>match δ[i]? with | some (.own xs)=>if xs.isEmpty=true then none else some (.next (δ.set i (.own xs.dropLast)),s) | _=>none
theorem zbM{Z:Zt}{A:List Addr}{ow:Ow}{σ:L2.St}{δ:Sl}{B H:Hp}{s:Sx}{xs:List D}{Q:VK}(R:RepS X.K B Z A ow σ δ H)(S:StateAt Z H s)(ho:δ[i]?=some (.own xs))(hne:¬ xs.isEmpty=true)
  (q:∀ v d H',xs.getLast?=some d->Rep X.K Z H' (A++ow.map (·.2)) v d->RepS X.K B Z A ow σ (δ.set i (.own xs.dropLast)) H'->StateAt Z H' s->Frm Z ow H ow H'->Q v H'):tBM0 X.K "list" rPop (tVar i) σ H Q:=by
 obtain⟨a,vs,h1,h2,h3,h4⟩:=R.own i xs ho
 refine⟨_,h2,.inl ⟨rfl,_,SqL.of h3⟩,?_⟩
 have hlen:=h4.length
 have hx:xs.length≠0:=fun z=>hne (by simpa using z)
 obtain⟨d,hd⟩:∃ d,xs[xs.length - 1]?=some d:=⟨_,List.getElem?_eq_getElem (by omega)⟩
 obtain⟨v,hv,rv⟩:=h4.get hd
 obtain⟨R',f⟩:=R.change ho h1 h2 h4.dropLast
 exact⟨a,vs,v,rfl,rfl,h3,by rw[hlen];exact hv,q v d _ (by rw[List.getLast?_eq_getElem?];exact hd) (rv.frm f) R' (S.chg (R.ows i a h1).2.2.1) f⟩
theorem zeG(hv:PE X (.Name x px) (tVar i))(hbase:attributeBase (.Name x px) "pop" X.env (eval (.Name x px) X.env)=eval (.Name x px) X.env:=by rfl)(hline:(apos.endLine == cpos.line)=true:=by rfl)
  (hsw:swapsWith (.Call (.Attribute (.Name x px) "pop" apos) [] [] cpos) none pos.line X.env=pure false:=by rfl):DS X (.Expr (.Call (.Attribute (.Name x px) "pop" apos) [] [] cpos) pos) (sPop i):=⟨fun Z A=>PS.imp (z6d (zeq PySem.F.plainAttrs_list PySem.F.slot_list_pop PySem.F.type_list_pop zes hv hbase hline) hsw) fun E σ H zfY=>by
  obtain⟨ow,δ,s,o,s',R,S,e,q⟩:=zfY
  unfold sPop at e
  split at e
  ·rename_i xs ho
   split at e
   ·cases e
   ·rename_i hne
    cases e
    exact zbM R S ho hne fun v d H' _ _ R' S' f=>q _ _ _ R' S' f
  ·cases e⟩
def putAt(xs:List D)(d v:D):Option (List D):=match d with | .int k=>(ixN xs.length k).map fun j=>xs.set j v | _=>none
def sPut(i:Nat)(Fi F:FE):GS:=fun δ s=>(F δ s).bind fun v=>(Fi δ v.2).bind fun d=>match δ[i]? with | some (.own xs)=>(putAt xs d.1 v.1).map fun ys=>(.next (δ.set i (.own ys)),d.2) | _=>none
theorem z7e(hv:PE X (.Name x px) (tVar i))(hi:DW X ie Fi)(he:DE X e F)
  (ha:∀ v,assign (.Subscript (.Name x px) ie tpos) X.env v=(do
   let ov <- holding [v] (eval (.Name x px) X.env)
   let iv <- holding [v,ov] (eval ie X.env)
   standAt tpos
   holding [v,ov,iv] (setItem ov iv v)
   release [v,ov,iv] []):=by intros;rfl)
  (hs:swapsWithSole [.Subscript (.Name x px) ie tpos] e pos.line X.env=pure false:=by rfl) (hw:swappedStores [.Subscript (.Name x px) ie tpos] e X.env=pure none:=by rfl)
  (h1:(assignEach [.Subscript (.Name x px) ie tpos] X.env).map (·.2)=[assign (.Subscript (.Name x px) ie tpos) X.env]:=by rfl):DS X (.Assign [.Subscript (.Name x px) ie tpos] e pos) (sPut i Fi F):=⟨fun Z A=>PS.imp (z8u (he Z A) (zcw hv (hi Z A) z8x ha) hs hw h1) fun E σ H zfZ=>by
  obtain⟨ow,δ,s,o,s',R,S,e,q⟩:=zfZ
  unfold sPut at e
  first | refine bnd2 e fun d s1 e1 e=>?_ | refine mpp2 e fun d s1 e1 e=>?_
  try simp only[Option.bind_some]at e
  first | refine bnd2 e fun k s2 e2 e=>?_ | refine mpp2 e fun k s2 e2 e=>?_
  try simp only[Option.bind_some]at e
  split at e
  ·rename_i xs ho
   first | refine bnd1 e fun ys e3 e=>?_ | refine mpp1 e fun ys e3 e=>?_
   cases e
   obtain⟨a,vs,h1,h2,h3,h4⟩:=R.own i xs ho
   have nz:=(R.ows i a h1).2.2.1
   refine⟨_,ow,δ,s,d,s1,R,S,e1,fun v H1 x1 S1 r=>⟨_,h2,⟨_,ow,δ,s1,k,_,R.mono x1,S1,e2,fun u H2 x2 S2 r2=>?_⟩⟩⟩
   unfold putAt at e3
   split at e3
   ·rename_i kk
    cases e4:ixN xs.length kk with
    | none=>rw[e4]at e3;cases e3
    | some j =>
     rw[e4]at e3
     cases e3
     have eu:=r2.int
     obtain⟨R',f⟩:=((R.mono x1).mono x2).change ho h1 h2 (((h4.ext x1).ext x2).set (r.ext x2) j)
     exact⟨a,vs,kk,j,rfl,eu,x2 _ _ (x1 _ _ h3 nz) nz,by rw[h4.length];exact e4,q _ _ _ R' (S2.chg nz) ((Frm.ext (x1.trans x2)).trans f)⟩
   ·cases e3
  ·cases e⟩
end
end L3
namespace HT
open PySem PySem.Spec PyProof.Rows L2
section
variable {prog:Program} {w:World} {A:Around} {E:Value->Shared->Prop} {s:Shared}
theorem getItem_tuple_whole{t sl:Addr}{items:Array Value}{vl vu:Value}{lo hi:Option Int}{Q:Value->Shared->Prop}(ht:IsTup s.heap t items)(hs:s.heap.IsSliceOf sl vl vu .none)(pl:IsPart vl lo)(pu:IsPart vu hi)
  (hw:sIx items.size 0 lo=0/\sIx items.size items.size hi=items.size) (h:Q (.ref t) s):wpAny (model prog w) A (getItem (.ref t) (.ref sl)) Q E s:=by
 obtain⟨os,hos,hcs,hds⟩:=id hs
 have hTs:s.TypeIs (.ref sl) "slice":=⟨os,hos,hcs⟩
 unfold getItem
 try with_reducible refine wpAny_holding ?_
 first | refine wpAny_bind (wpAny_pure ?_) | skip
 refine wpAny_bind (wpAny_sequenceKey ht.typeIs (by decide) ?_)
 refine wpAny_bind (wpAny_callSpecial?_slot (name:=Str.ofString "__getitem__") ht.typeIs PyProof.Rows.slot_tuple_getitem
  (wpAny_call_entry PyProof.Rows.slot_tuple_getitem ht.typeIs entry_tuple_getitem ?_ (args_tuple_getitem _ _)))
 show wpAny _ _ (Builtin.Tuple.tupleItemsOf (.ref t) >>= _) _ _ s
 refine wpAny_bind (tupleItemsOf_ ht ?_)
 refine wpAny_bind (wpAny_typeOf hTs ?_)
 rw[if_pos (by decide)]
 refine wpAny_bind (z2L hs pl pu ?_)
 have hyes:((((sIx items.size 0 lo:Nat):Int) == 0 && (1:Int) == 1 && (sIx items.size items.size hi - sIx items.size 0 lo) == items.size)=true):=by
  rw[hw.1,hw.2];simp
 show wpAny _ _ (if (((sIx items.size 0 lo:Nat):Int) == 0 && (1:Int) == 1 && (sIx items.size items.size hi - sIx items.size 0 lo) == items.size)=true then _ else _) _ _ s
 rw[if_pos hyes]
 refine wpAny_bind (wpAny_bind (wpAny_typeOf ht.typeIs (wpAny_pure ?_)))
 show wpAny _ _ (if (Value.type "tuple" == Value.type "tuple")=true then _ else _) _ _ s
 rw[if_pos (by decide)]
 exact wpAny_bind (wpAny_rule (wpAny_pure ⟨_,rfl,wpAny_pure h⟩))
end
end HT
namespace L3
open PySem L2 PySem.Spec PyProof.Rows
section
variable {X:Cx} {e e2 e3 ie:Expr} {F Fa Fb Fc Fi:FE} {Fo:FO} {x:Str} {i j:Nat} {p pos px apos cpos tpos:Pos}
def rSlTW(K:PySem.W.Frag):V->Option Int->Option Int->Hp->VK->Prop:=fun x lo hi H Q=>∃ a xs,x=.ref a/\SqT K H a xs /\
 (if HT.sIx xs.length 0 lo=0/\HT.sIx xs.length xs.length hi=xs.length then Q (.ref a) H else ∀ p,H p=none->Q (.ref p) (upd H p (.tup (cutV xs lo hi))))
theorem zds:SlR X (rSlTW X.K):=by
 intro pins s σ H x v vl vu lo hi sl Q I rx hs pl pu h
 obtain⟨a,xs,rfl,hx,q⟩:=h
 split at q
 ·rename_i hw
  cases rx
  obtain⟨its,r,ht,hz⟩:=I.tuple hx
  have hlen:its.toArray.size=xs.length:=by rw[List.size_toArray];exact r.length.symm
  refine⟨"tuple",_,PyProof.Rows.slot_tuple_getitem.lookup,ht.typeIs,?_⟩
  exact HT.getItem_tuple_whole ht hs pl pu (by rw[hlen];exact hw) ⟨.ref a,H,I,rfl,q⟩
 ·rename_i hw
  exact zen pins s σ H (.ref a) v vl vu lo hi sl Q I rx hs pl pu ⟨a,xs,rfl,hx,hw,q⟩
theorem z68{xs:List D}{lo hi:Option Int}(h:HT.sIx xs.length 0 lo=0/\HT.sIx xs.length xs.length hi=xs.length):cutD xs lo hi=xs:=by
 unfold cutD;rw[h.1,h.2];simp
def gSlD(d:D)(lo hi:Option Int):Option D:=match d with | .list xs=>some (.list (cutD xs lo hi)) | .tuple xs=>some (.tuple (cutD xs lo hi)) | _=>none
def fSl(Fa:FE)(Fl Fh:FP):FE:=fun δ s=>(Fa δ s).bind fun p=>(Fl δ p.2).bind fun l=>(Fh δ l.2).bind fun h=>(gSlD p.1 l.1 h.1).map fun d=>(d,h.2)
theorem z2b{lo hi:Option Expr}{Fl Fh:FP}(ha:DE X e Fa)(hl:DP X lo Fl)(hh:DP X hi Fh):DE X (.Subscript e (.Slice lo hi none p) pos) (fSl Fa Fl Fh):=⟨fun Z A=>PE.imp (z8w (sl_list.or zds) (ha Z A) (hl Z A) (hh Z A)) fun σ H Q zg0=>by
 obtain⟨B,ow,δ,s,d,s',R,S,ee,q⟩:=zg0
 unfold fSl at ee
 first | refine bnd2 ee fun dx s1 e1 ee=>?_ | refine mpp2 ee fun dx s1 e1 ee=>?_
 replace ee:((Fl δ s1).bind fun l=>(Fh δ l.2).bind fun h=>(gSlD dx l.1 h.1).map fun d=>(d,h.2))=some (d,s'):=ee
 first | refine bnd2 ee fun l s2 e2 ee=>?_ | refine mpp2 ee fun l s2 e2 ee=>?_
 replace ee:((Fh δ s2).bind fun h=>(gSlD dx l h.1).map fun d=>(d,h.2))=some (d,s'):=ee
 first | refine bnd2 ee fun h s3 e3 ee=>?_ | refine mpp2 ee fun h s3 e3 ee=>?_
 replace ee:((gSlD dx l h).map fun d=>(d,s3))=some (d,s'):=ee
 cases e4:gSlD dx l h with
 | none=>rw[e4]at ee;cases ee
 | some d' =>
  rw[e4]at ee
  cases ee
  refine⟨B,ow,δ,s,dx,s1,R,S,e1,fun v H1 x1 S1 r1=>⟨B,ow,δ,s1,l,s2,R.mono x1,S1,e2,fun H2 x2 S2=>⟨B,ow,δ,s2,h,s',(R.mono x1).mono x2,S2,e3,fun H3 x3 S3=>?_⟩⟩⟩
  have r3:=(r1.ext x2).ext x3
  have x13:=(x1.trans x2).trans x3
  cases r3 with
  | lst hh n z rs =>
   cases e4
   exact .inl ⟨_,_,rfl,.of hh,fun q' hq=>q _ _ (x13.trans (Ext.upd hq)) (S3.upd hq) (.lst ze (zM (R.mono x13).all hq) (S3.notZ hq) (rs.cut.ext (Ext.upd hq)))⟩
  | tup hh n z rs =>
   cases e4
   refine .inr ⟨_,_,rfl,.of hh,?_⟩
   split
   ·rename_i hw
    rw[rs.length]at hw
    refine q _ _ x13 S3 ?_
    rw[z68 hw]
    exact .tup hh n z rs
   ·exact fun q' hq=>q _ _ (x13.trans (Ext.upd hq)) (S3.upd hq) (.tup ze (zM (R.mono x13).all hq) (S3.notZ hq) (rs.cut.ext (Ext.upd hq)))
  | mod hh rs =>
   cases e4
   refine .inr ⟨_,_,rfl,.inr hh,?_⟩
   split
   ·rename_i hw
    rw[rs.length]at hw
    refine q _ _ x13 S3 ?_
    rw[z68 hw]
    exact .mod hh rs
   ·exact fun q' hq=>q _ _ (x13.trans (Ext.upd hq)) (S3.upd hq) (.tup ze (zM (R.mono x13).all hq) (S3.notZ hq) (rs.cut.ext (Ext.upd hq)))
  | non=>cases e4
  | bl _=>cases e4
  | int _=>cases e4
  | str _=>cases e4
  | st _=>cases e4
  | obj _ _ _ _ _=>cases e4⟩
theorem zbN{prog:Program}{w:World}{A:Around}{E:Value->Shared->Prop}{s:Shared}{t b:Addr}{ws:List Value}{Q:Value->Shared->Prop}(ht:IsTup s.heap t ([]:List Value).toArray)(hb:IsTup s.heap b ws.toArray)(h1:Q (.ref b) s) :
  wpAny (model prog w) A (binaryOp .Add (.ref t) (.ref b)) Q E s:=by
 obtain⟨⟨cls,dd,data,sl⟩,ho,hc,n,hd⟩:=id ht
 obtain⟨⟨cls2,dd2,data2,sl2⟩,ho2,hc2,n2,hd2⟩:=id hb
 simp only at hc hd hc2 hd2
 subst hc hd hc2 hd2
 exact concat_meets ⟨_,ho,rfl⟩ ⟨_,ho2,rfl⟩ noFill_tuple_add seq_tuple_add PySem.F.slot_tuple_add PySem.F.entry_tuple_add (PySem.F.args_tuple_add_2 _ _)
   (tuple_addW0 t b ([]:List Value).toArray ws.toArray n n2 dd dd2 sl sl2 (by simp)) ⟨ho,ho2,h1⟩
def rCatT0(K:PySem.W.Frag):R2:=fun x y H Q=>∃ a b ys,x=.ref a/\y=.ref b/\SqT K H a []/\SqT K H b ys/\Q (.ref b) H
theorem zbO:OpR X (binaryOp .Add) (rCatT0 X.K):=by
 intro pins s σ H x y v u Q I rx ry h
 obtain⟨a,b,ys,rfl,rfl,ha,hb,q1⟩:=h
 cases rx
 cases ry
 obtain⟨its,r1,p1,_⟩:=I.tuple ha
 obtain⟨its2,r2,p2,_⟩:=I.tuple hb
 cases r1
 exact zbN p1 p2 ⟨.ref b,H,I,rfl,q1⟩
def gCatT:G2:=fun a b=>match a,b with | .tuple xs,.tuple ys=>if small (xs++ys)=true then some (.tuple (xs++ys)) else none | _,_=>none
theorem RepW.tup{K:PySem.W.Frag}{Z:Zt}{H:Hp}{A:List Addr}{v:V}{ds:List D}(r:RepW K Z H A v (.tuple ds)):Rep K Z H A v (.tuple ds):=by
 rcases r with r | ⟨_,_,_,_,e2,_⟩
 ·exact r
 ·cases e2
theorem dcatT:DOp X (binaryOp .Add) gCatT:=DOp.of (op_catT.or zbO) fun Z A H st x y dx dy d Q S hA rx ry e q=>by
 unfold gCatT at e
 split at e
 ·split at e
  ·rename_i hs
   cases e
   rename_i xs ys
   obtain⟨p1,v1,ev1,h1,r1⟩:=rx.tuple
   obtain⟨p2,v2,ev2,h2,r2⟩:=ry.tuple
   have hl:=of_decide_eq_true hs
   rw[List.length_append]at hl
   have l1:=r1.length
   have l2:=r2.length
   cases xs with
   | nil =>
    cases r1
    refine .inr ⟨p1,p2,v2,ev1,ev2,h1,h2,q _ H (Ext.refl H) S ?_⟩
    rw[<- ev2];exact ry.tup
   | cons a as =>
    refine .inl ⟨p1,p2,v1,v2,ev1,ev2,h1,h2,(fun z=>by rw[z]at l1;cases l1),by omega,fun z=>?_,fun z p hp=>?_⟩
    ·have ez:ys=[]:=by rw[z]at l2;exact List.eq_nil_of_length_eq_zero l2.symm
     subst ez
     rw[List.append_nil,<- ev1]at *
     exact q _ H (Ext.refl H) S rx.tup
    ·exact q _ _ (Ext.upd hp) (S.upd hp) (.tup ze (zM hA hp) (S.notZ hp) ((r1.append r2).ext (Ext.upd hp)))
  ·cases e
 ·cases e
def gAddA:G2:=fun a b=>(gAdd a b).or (gCatT a b)
theorem dadda:DOp X (binaryOp .Add) gAddA:=DOp.or dadd dcatT
def gMulA:G2:=fun a b=>(gMulI a b).or ((lRep a b).map PyData.list)
theorem drep:DOp X (binaryOp .Mult) (fun a b=>(lRep a b).map PyData.list):=DOp.of zcC fun Z A H st x y dx dy d Q S hA rx ry e q=>by
 replace e:(lRep dx dy).map PyData.list=some d:=e
 first | refine bnd1 e fun ds e1 e=>?_ | refine mpp1 e fun ds e1 e=>?_
 cases e
 unfold lRep at e1
 split at e1
 ·split at e1
  ·rename_i hs
   cases e1
   simp only[Bool.and_eq_true,decide_eq_true_eq]at hs
   obtain⟨p1,v1,rfl,h1,_,r1⟩:=rx.lst
   have ey:=ry.int
   exact⟨p1,_,v1,rfl,ey,h1,hs.1.1,hs.1.2,by rw[r1.length];exact hs.2,fun p hp=>q _ _ (Ext.upd hp) (S.upd hp) (.lst ze (zM hA hp) (S.notZ hp) ((r1.rep _).ext (Ext.upd hp)))⟩
  ·cases e1
 ·cases e1
theorem dmula:DOp X (binaryOp .Mult) gMulA:=DOp.or dmul_int drep
theorem zeH:DOp X (inplaceOp .Add) gAddI:=z1Z (z4y zd5) (fun _ _ _=>trivial) fun i j _ _ _ _=>.int _
theorem zeI:DOp X (inplaceOp .Sub) gSubI:=z1Z (z4y zd6) (fun _ _ _=>trivial) fun i j _ _ _ _=>.int _
def sAug(i:Nat)(g:G2)(F:FE):GS:=fun δ s=>match δ[i]? with | some (.val d)=>(F δ s).bind fun q=>(g d q.1).map fun r=>(.next (δ.set i (.val r)),q.2) | _=>none
theorem zcM{op:Operator}{g:G2}{pos':Pos}(hN:X.N.Nodup)(ho:DOp X (inplaceOp op) g)(he:DE X e F)(hi:X.N[i]?=some x:=by rfl)(hx:Loc X.env.scope x:=by first | exact Or.inl rfl | exact Or.inr rfl)
  (hf:X.fn x=true\/X.env.scope.names.lookup x=some .local:=by first | exact .inl rfl | exact .inr rfl | assumption):DS X (.AugAssign (.Name x pos') op e pos) (sAug i g F):=⟨fun Z A pins s σ H E I zg1=>by
 obtain⟨ow,δ,st,o,st',R,S,ee,q⟩:=zg1
 unfold sAug at ee
 split at ee
 ·rename_i d hd
  first | refine bnd2 ee fun dy s1 e1 ee=>?_ | refine mpp2 ee fun dy s1 e1 ee=>?_
  replace ee:((g d dy).map fun r=>(Out.next (δ.set i (.val r)),s1))=some (o,st'):=ee
  first | refine bnd1 ee fun r e2 ee=>?_ | refine mpp1 ee fun r e2 ee=>?_
  cases ee
  obtain⟨v,h1,h2⟩:=R.val i d hd
  let T:TIp:=fun x y H1 Q=>x=v/\∃ H0,Ext Z H H1/\H0=H1/\StateAt Z H1 st'/\Rep X.K Z H1 (A++ow.map (·.2)) y dy/\∀ v' H',Ext Z H1 H'->StateAt Z H' st'->Rep X.K Z H' (A++ow.map (·.2)) v' r->Q v' H'
  have hT:PIp X op T:=fun pins s σ H1 x y u w Q I1 rx ry zg2=>by
   obtain⟨ex,H0,x1,_,S1,r1,q1⟩:=zg2
   subst ex
   exact ho Z (A++ow.map (·.2)) pins s σ H1 st' _ y u w d dy r Q I1 S1 (R.mono x1).all (h2.ext x1).w r1.w rx ry e2 q1
  refine zee (ti:=T) hN hi hx (he Z A) hT hf pins s σ H E I ⟨v,h1,_,ow,δ,st,dy,_,R,S,e1,fun y H1 x1 S1 r1=>⟨rfl,H1,x1,rfl,S1,r1,fun v' H' x2 S2 r2=>?_⟩⟩
  obtain⟨R',f⟩:=(R.mono (x1.trans x2)).set (i:=i) r2
  exact q _ _ H' R' S2 ((Frm.ext (x1.trans x2)).trans f)
 ·cases ee⟩
def fChain(g g':G2)(Fa Fb Fc:FE):FE:=fun δ s=>(Fa δ s).bind fun p=>(Fb δ p.2).bind fun q=>(g p.1 q.1).bind fun d=>match d with
 | .bool true=>(Fc δ q.2).bind fun r=>(g' q.1 r.1).map fun d=>(d,r.2)
 | .bool false=>some (.bool false,q.2)
 | _=>none
theorem z69{op op':CmpOp}{g g':G2}(ho:DOp X (compareOp op) g)(ho':DOp X (compareOp op') g')(ha:DW X e Fa)(hb:DW X e2 Fb)(hc:DW X e3 Fc){Z:Zt}{A:List Addr}{σ:L2.St}{H:Hp}{Q:VK}(h:tD X Z A (fChain g g' Fa Fb Fc) σ H Q) :
  ∃ r r':R2,OpR X (compareOp op) r/\OpR X (compareOp op') r'/\tChain r r' (tDW X Z A Fa) (tDW X Z A Fb) (tDW X Z A Fc) σ H Q:=by
 obtain⟨B,ow,δ,s,d,s',R,S,ee,q⟩:=h
 unfold fChain at ee
 first | refine bnd2 ee fun dx s1 e1 ee=>?_ | refine mpp2 ee fun dx s1 e1 ee=>?_
 try simp only[Option.bind_some]at ee
 first | refine bnd2 ee fun dy s2 e2 ee=>?_ | refine mpp2 ee fun dy s2 e2 ee=>?_
 try simp only[Option.bind_some]at ee
 first | refine bnd1 ee fun dk e3 ee=>?_ | refine mpp1 ee fun dk e3 ee=>?_
 try simp only[Option.bind_some]at ee
 let T:R2:=fun x y H2 Q'=>Ext Z H H2/\StateAt Z H2 s2/\RepW X.K Z H2 (A++ow.map (·.2)) x dx/\RepW X.K Z H2 (A++ow.map (·.2)) y dy/\∀ v' H',Ext Z H2 H'->StateAt Z H' s2->Rep X.K Z H' (A++ow.map (·.2)) v' dk->Q' v' H'
 have hT:OpR X (compareOp op) T:=fun pins s σ H2 x y u w Q' I rx ry zg3=>(by obtain⟨x2,S2,r1,r2,q2⟩:=zg3;exact ho Z _ pins s σ H2 s2 x y u w dx dy dk Q' I S2 (R.mono x2).all r1 r2 rx ry e3 q2)
 cases dk with
 | bool k =>
  cases k with
  | true =>
   simp only at ee
   first | refine bnd2 ee fun dz s3 e4 ee=>?_ | refine mpp2 ee fun dz s3 e4 ee=>?_
   try simp only[Option.bind_some]at ee
   first | refine bnd1 ee fun dd e5 ee=>?_ | refine mpp1 ee fun dd e5 ee=>?_
   cases ee
   let T':R2:=fun x y H2 Q'=>Ext Z H H2/\StateAt Z H2 s'/\RepW X.K Z H2 (A++ow.map (·.2)) x dy/\RepW X.K Z H2 (A++ow.map (·.2)) y dz/\∀ v' H',Ext Z H2 H'->StateAt Z H' s'->Rep X.K Z H' (A++ow.map (·.2)) v' d->Q' v' H'
   have hT':OpR X (compareOp op') T':=fun pins s σ H2 x y u w Q' I rx ry zg4=>(by obtain⟨x2,S2,r1,r2,q2⟩:=zg4;exact ho' Z _ pins s σ H2 s' x y u w dy dz d Q' I S2 (R.mono x2).all r1 r2 rx ry e5 q2)
   refine⟨T,T',hT,hT',B,ow,δ,s,dx,s1,R,S,e1,fun v H1 x1 S1 r1=>⟨B,ow,δ,s1,dy,s2,R.mono x1,S1,e2,fun u H2 x2 S2 r2=>⟨x1.trans x2,S2,r1.ext x2,r2,fun v' H3 x3 S3 r3=>?_⟩⟩⟩
   cases r3
   refine⟨true,rfl,iteT ⟨B,ow,δ,s2,dz,s',(R.mono (x1.trans x2)).mono x3,S3,e4,fun v4 H4 x4 S4 r4=>⟨((x1.trans x2).trans x3).trans x4,S4,(r2.ext x3).ext x4,r4,fun v5 H5 x5 S5 r5=>q v5 H5 ((((x1.trans x2).trans x3).trans x4).trans x5) S5 r5⟩⟩⟩
  | false =>
   cases ee
   refine⟨T,fun _ _ _ _=>False,hT,fun _ _ _ _ _ _ _ _ _ _ _ _ z=>z.elim,B,ow,δ,s,dx,s1,R,S,e1,fun v H1 x1 S1 r1=>⟨B,ow,δ,s1,dy,_,R.mono x1,S1,e2,fun u H2 x2 S2 r2=>⟨x1.trans x2,S2,r1.ext x2,r2,fun v' H3 x3 S3 r3=>?_⟩⟩⟩
   cases r3
   exact⟨false,rfl,iteF (q _ H3 ((x1.trans x2).trans x3) S3 (.bl _))⟩
 | _=>cases ee
theorem zbP{op op':CmpOp}{g g':G2}(ho:DOp X (compareOp op) g)(ho':DOp X (compareOp op') g')(ha:DW X e Fa)(hb:DW X e2 Fb)(hc:DW X e3 Fc)(hm:lastMarks [op,op'] [e2,e3]=false:=by with_unfolding_all rfl) :
  DE X (.Compare e [op,op'] [e2,e3] pos) (fChain g g' Fa Fb Fc):=⟨fun Z A pins s σ H Q I h=>by
 obtain⟨r,r',h1,h2,h3⟩:=z69 ho ho' ha hb hc h
 exact zbr h1 h2 (ha Z A) (hb Z A) (hc Z A) hm pins s σ H Q I h3⟩
theorem z8H{op op':CmpOp}{g g':G2}(ho:DOp X (compareOp op) g)(ho':DOp X (compareOp op') g')(ha:DW X e Fa)(hb:DW X e2 Fb)(hc:DW X e3 Fc)(hm:lastMarks [op,op'] [e2,e3]=false:=by with_unfolding_all rfl) :
  DT X (.Compare e [op,op'] [e2,e3] pos) (asB (fChain g g' Fa Fb Fc)):=⟨fun Z A pins s σ H Q I h=>by
 obtain⟨r,r',h1,h2,h3⟩:=z69 ho ho' ha hb hc (zcE h)
 exact zbs h1 h2 (ha Z A) (hb Z A) (hc Z A) hm pins s σ H Q I h3⟩
end
end L3
namespace L3
open PySem L2 PySem.Spec PyProof.Rows
def clOf(cells:List (Str × Addr)):List (Str × NameKind)->List (Str × Addr)->List (Str × Addr)
 | [],cs=>cs
 | y::r,cs=>clOf cells r (if y.2 == NameKind.free then (y.1,(cells.lookup y.1).getD 0)::cs else cs)
theorem z41{env:Env}{scope:Scope}(h:∀ y∈scope.names,y.2=.free->∃ c,env.cells.lookup y.1=some c):closureFor scope env=pure (clOf env.cells scope.names []):=by
 unfold closureFor
 generalize scope.names=names at h
 have key:∀ (names:List (Str × NameKind)) (cs:List (Str × Addr)),(∀ y∈names,y.2=.free->∃ c,env.cells.lookup y.1=some c) ->
   (forIn names cs fun(x:Str × NameKind) (r:List (Str × Addr))=>(if (x.2 == NameKind.free)=true then do let a <- cellOf env x.1;pure (ForInStep.yield ((x.1,a)::r)) else pure (ForInStep.yield r):Sem _))=pure (clOf env.cells names cs):=by
  intro names
  induction names with
  | nil=>intro cs _;rfl
  | cons y r ih =>
   intro cs hy
   rw[List.forIn_cons]
   obtain⟨n,k⟩:=y
   by_cases hk:k=.free
   ·subst hk
    obtain⟨c,hc⟩:=hy (n,.free) List.mem_cons_self rfl
    have e:cellOf env n=pure c:=by unfold cellOf;simp only at hc;rw[hc]
    simp only[beq_self_eq_true,if_true,e,pure_bind]
    rw[ih _ fun y hm=>hy y (List.mem_cons_of_mem _ hm)]
    simp only at hc
    simp[clOf,hc]
   ·have hb:(k == NameKind.free)=false:=by simpa using hk
    simp only[hb,Bool.false_eq_true,if_false,pure_bind]
    rw[ih _ fun y hm=>hy y (List.mem_cons_of_mem _ hm)]
    simp[clOf,hb]
 have:=key names [] h
 simpa using this
theorem z6o{cells:List (Str × Addr)}:∀ {names:List (Str × NameKind)} {cs:List (Str × Addr)} {n:Str} {c:Addr},(n,c)∈clOf cells names cs->(n,c)∈cs\/((n,NameKind.free)∈names/\c=(cells.lookup n).getD 0)
 | [],_,_,_,h=>.inl h
 | y::r,cs,n,c,h=>by
  unfold clOf at h
  rcases z6o h with h1 | ⟨h1,h2⟩
  ·split at h1
   ·rename_i hk
    rcases List.mem_cons.mp h1 with e | h1
    ·obtain⟨y1,y2⟩:=y
     cases e
     have:y2=.free:=by simpa using hk
     subst this
     exact .inr ⟨List.mem_cons_self,rfl⟩
    ·exact .inl h1
   ·exact .inl h1
  ·exact .inr ⟨List.mem_cons_of_mem _ h1,h2⟩
theorem z7f{cells:List (Str × Addr)}:∀ {names:List (Str × NameKind)} {cs:List (Str × Addr)} {q:Str × Addr},q∈cs->q∈clOf cells names cs
 | [],_,_,h=>h
 | y::r,cs,q,h=>by
  unfold clOf
  refine z7f ?_
  split
  ·exact List.mem_cons_of_mem _ h
  ·exact h
theorem z6p{cells:List (Str × Addr)}:∀ {names:List (Str × NameKind)} {cs:List (Str × Addr)} {n:Str},(n,NameKind.free)∈names->∃ c,(n,c)∈clOf cells names cs
 | [],_,_,h=>nomatch h
 | y::r,cs,n,h=>by
  rcases List.mem_cons.mp h with e | h
  ·subst e
   unfold clOf
   exact⟨(cells.lookup n).getD 0,z7f (by simp)⟩
  ·unfold clOf
   exact z6p h
theorem z1s{α:Type}:∀ {l:List (Str × α)} {x:Str} {c:α},l.lookup x=some c->(x,c)∈l
 | [],_,_,h=>nomatch h
 | (y,d)::r,x,c,h=>by
  rw[List.lookup_cons]at h
  split at h
  ·rename_i e
   cases h
   rw[eq_of_beq e];exact List.mem_cons_self
  ·exact List.mem_cons_of_mem _ (z1s h)
theorem z1c{α:Type}:∀ {l:List (Str × α)} {x:Str} {c:α},(x,c)∈l->∃ d,l.lookup x=some d
 | [],_,_,h=>nomatch h
 | (y,d)::r,x,c,h=>by
  rw[List.lookup_cons]
  split
  ·exact⟨_,rfl⟩
  ·rename_i e
   rcases List.mem_cons.mp h with z | z
   ·cases z;simp at e
   ·exact z1c z
def compChk(sc:Scope)(N0:List Str)(scope:Scope)(N:List Str)(k:Nat)(fr:List Nat):Bool :=
 decide (scope.kind=.function) && decide (sc.kind=.function) && scope.names.all (fun y=>decide (y.2≠.cell)) && scope.names.all (fun y=>!decide (y.2=.local) || decide (scope.names.lookup y.1=some .local)) &&
 scope.names.all (fun y=>!decide (y.2=.free) || decide (sc.names.lookup y.1=some .cell)) && decide (N.length=k + fr.length) &&
 (List.range fr.length).all fun t=>match fr[t]?,N[k + t]? with | some j,some x=>decide (N0[j]?=some x) && decide (scope.names.lookup x=some .free) | _,_=>false
theorem z1v{scope:Scope}{env:Env}:∀ {names:List (Str × NameKind)} {x:Str} {k:NameKind},(∀ y∈names,y.2=.free->env.scope.kind=.function/\env.scope.names.lookup y.1=some .cell)->names.lookup x=some k ->
  (names.map fun(n,k)=>if (k == .free && env.scope.kind == .function && env.kindOf n == some .cell) then (n,NameKind.cell) else (n,k)).lookup x=some (if k=.free then .cell else k)
 | [],_,_,_,h=>nomatch h
 | (n,k')::r,x,k,hf,h=>by
  rw[List.lookup_cons]at h
  rw[List.map_cons]
  by_cases hk:k'=.free
  ·subst hk
   obtain⟨h1,h2⟩:=hf (n,.free) List.mem_cons_self rfl
   have e:(NameKind.free == NameKind.free && env.scope.kind == .function && env.kindOf n == some .cell)=true:=by
    simp only[beq_self_eq_true,Bool.true_and,Bool.and_eq_true,beq_iff_eq]
    exact⟨h1,h2⟩
   simp only[e,if_true]
   rw[List.lookup_cons]
   cases ex:x == n with
   | true=>rw[ex]at h;cases h;rfl
   | false=>rw[ex]at h;exact z1v (scope:=scope) (fun y hy=>hf y (List.mem_cons_of_mem _ hy)) h
  ·have e:(k' == NameKind.free && env.scope.kind == .function && env.kindOf n == some .cell)=false:=by simp[hk]
   simp only[e,Bool.false_eq_true,if_false]
   rw[List.lookup_cons]
   cases ex:x == n with
   | true=>rw[ex]at h;cases h;simp[hk]
   | false=>rw[ex]at h;exact z1v (scope:=scope) (fun y hy=>hf y (List.mem_cons_of_mem _ hy)) h
theorem z2Y{env:Env}:∀ {names:List (Str × NameKind)} {x:Str},names.lookup x=none ->
  (names.map fun(n,k)=>if (k == .free && env.scope.kind == .function && env.kindOf n == some .cell) then (n,NameKind.cell) else (n,k)).lookup x=none
 | [],_,_=>rfl
 | (n,k')::r,x,h=>by
  rw[List.lookup_cons]at h
  rw[List.map_cons]
  cases ex:x == n with
  | true=>rw[ex]at h;cases h
  | false =>
   rw[ex]at h
   have ih:=z2Y (env:=env) (names:=r) h
   by_cases hk:(k' == NameKind.free && env.scope.kind == .function && env.kindOf n == some .cell)=true
   ·simp only[hk,if_true,List.lookup_cons,ex];exact ih
   ·simp only[hk,Bool.false_eq_true,if_false,List.lookup_cons,ex];exact ih
theorem compOkC{X:Cx}{sc:Scope}{N0:List Str}{scope:Scope}{N:List Str}{k:Nat}{fr:List Nat}(hsc:X.env.scope=sc)(hN:X.N=N0)(h:compChk sc N0 scope N k fr=true)(hc:∀ x,X.env.scope.names.lookup x=some .cell->∃ c,X.env.cells.lookup x=some c) :
  CompOk X scope (clOf X.env.cells scope.names []) N k fr:=by
 subst hsc hN
 simp only[compChk,Bool.and_eq_true,decide_eq_true_eq,List.all_eq_true,Bool.or_eq_true,Bool.not_eq_true',decide_eq_false_iff_not]at h
 obtain⟨⟨⟨⟨⟨⟨h1,h2⟩,h3⟩,h4⟩,h5⟩,h6⟩,h7⟩:=h
 have hfree:∀ y∈scope.names,y.2=.free->X.env.scope.names.lookup y.1=some .cell:=fun y hy e=>(h5 y hy).elim (fun z=>absurd e z) id
 have hcl:∀ y∈scope.names,y.2=.free->∃ c,X.env.cells.lookup y.1=some c:=fun y hy e=>hc _ (hfree y hy e)
 have hmem:∀ x,(x,NameKind.free)∈scope.names->∃ c,(clOf X.env.cells scope.names []).lookup x=some c:=fun x hx=>by
  obtain⟨c,h⟩:=z6p (cells:=X.env.cells) (cs:=[]) hx
  exact z1c h
 have lab:∀ x kd,scope.names.lookup x=some kd->(relabel scope X.env).names.lookup x=some (if kd=.free then .cell else kd):=fun x kd hx =>
  z1v (scope:=scope) (env:=X.env) (fun y hy e=>⟨h2,hfree y hy e⟩) hx
 refine⟨h1,h3,fun y hy e=>(h4 y hy).elim (fun z=>absurd e z) id,z41 hcl,fun x c hx=>?_,fun x hx=>?_,h6,fun t j x ht hx=>?_⟩
 ·rcases z6o (z1s hx) with h | ⟨h,e⟩
  ·exact nomatch h
  ·obtain⟨c',hc'⟩:=hcl _ h rfl
   simp only at hc'
   rw[e,hc'];rfl
 ·cases e:scope.names.lookup x with
  | none =>
   have:=z2Y (env:=X.env) e
   rcases hx with hx | hx
   ·rw[show(relabel scope X.env).names.lookup x=none from this]at hx;cases hx
   ·rw[show(relabel scope X.env).names.lookup x=none from this]at hx;cases hx
  | some kd =>
   have hl:=lab x kd e
   have hm:=z1s e
   by_cases hk:kd=.free
   ·subst hk;exact hmem x hm
   ·rw[if_neg hk]at hl
    have nc:=h3 _ hm
    rcases hx with hx | hx
    ·rw[hl]at hx;cases hx;exact absurd rfl nc
    ·rw[hl]at hx;cases hx;exact absurd rfl hk
 ·have htl:t < fr.length:=(List.getElem?_eq_some_iff.mp ht).1
  have h8:=h7 t (List.mem_range.mpr htl)
  rw[ht,hx]at h8
  simp only[Bool.and_eq_true,decide_eq_true_eq]at h8
  obtain⟨h9,h10⟩:=h8
  have hm:=z1s h10
  have hcell:=hfree _ hm rfl
  simp only at hcell
  refine⟨h9,.inr (.inl hcell),hmem x hm,.inl ?_,fun z=>by rw[hcell]at z;cases z⟩
  have:=lab x _ h10
  rw[if_pos rfl]at this
  exact this
mutual
def noList:D->Bool
 | .list _=>false
 | .dict _=>false
 | .tuple ds=>noLists ds
 | _=>true
def noLists:List D->Bool
 | []=>true
 | d::ds=>noList d && noLists ds
end
section
variable {X:Cx} {e e2 ie:Expr} {es:List Expr} {F Fa Fi:FE} {FL:FA} {x:Str} {i:Nat} {p pos px tpos:Pos}
def fVarW(i:Nat):FE:=fun δ s=>match δ[i]? with | some (.val d)=>some (d,s) | some (.own xs)=>some (.list xs,s) | _=>none
theorem zgS{e:Expr}(h:PE X e (tVar i)):DW X e (fVarW i):=⟨fun Z A=>PE.imp h fun σ H Q zg5=>by
 obtain⟨B,ow,δ,s,d,s',R,S,ee,q⟩:=zg5
 unfold fVarW at ee
 split at ee
 ·rename_i d' hd
  cases ee
  obtain⟨v,h1,h2⟩:=R.val i _ hd
  exact⟨v,h1,q v H (Ext.refl H) S h2.w⟩
 ·rename_i xs hd
  cases ee
  obtain⟨p,vs,h1,h2,h3,h4⟩:=R.own i xs hd
  exact⟨_,h2,q _ H (Ext.refl H) S (.inr ⟨p,vs,_,rfl,rfl,h3,(R.ows i p h1).2.2.1,h4⟩)⟩
 ·cases ee⟩
theorem dvw(i:Nat){x:Str}(hN:X.N[i]?=some x:=by rfl)(hv:Vis X.env.scope x:=by first | exact Or.inl rfl | exact Or.inr (Or.inl rfl) | exact Or.inr (Or.inr rfl))(hd:(x == ("__debug__":Str))=false:=by decide)
  (hcd:(x == ("__classdict__":Str))=false:=by decide):DW X (.Name x pos) (fVarW i):=zgS (pv i hN hv hd hcd)
end
end L3
namespace L3
open PySem L2 PySem.Spec PyProof.Rows
mutual
inductive Cn:Expr->D->Prop
 | int {i:Int} {j:Nat} {p:Pos}:Cn (.Constant (.int i) j p) (.int i)
 | bl {b:Bool} {j:Nat} {p:Pos}:Cn (.Constant (.bool b) j p) (.bool b)
 | non {j:Nat} {p:Pos}:Cn (.Constant .none j p) .none
 | str {x:Str} {j:Nat} {p:Pos}:Cn (.Constant (.str x) j p) (.str x)
 | neg {a:Expr} {i:Int} {p:Pos}:Cn a (.int i)->Cn (.UnaryOp .USub a p) (.int (-i))
 | tup {es:List Expr} {ds:List D} {c:Nat} {p:Pos}:small ds=true->Cns es ds->Cn (.Tuple es c p) (.tuple ds)
 | lst {es:List Expr} {ds:List D} {p:Pos}:small ds=true->Cns es ds->Cn (.List es p) (.list ds)
inductive Cns:List Expr->List D->Prop
 | nil:Cns [] []
 | cons {e:Expr} {d:D} {es:List Expr} {ds:List D}:Cn e d->Cns es ds->Cns (e::es) (d::ds)
end
theorem zbQ{e:Expr}{d:D}{es:List Expr}{env:Env}(h:Cn e d):starEach (e::es) env=(false,eval e env)::starEach es env:=by
 cases h <;> rfl
section
variable {X:Cx}
theorem DE.as{e:Expr}{F G:FE}(h:DE X e F)(he:∀ δ s r,G δ s=some r->F δ s=some r):DE X e G:=⟨fun Z A=>PE.imp (h Z A) fun σ H Q zg6=>(by obtain⟨B,ow,δ,s,d,s',R,S,ee,q⟩:=zg6;exact⟨B,ow,δ,s,d,s',R,S,he _ _ _ ee,q⟩)⟩
theorem zcN{e:Expr}{d:D}(h:Cn e d):DE X e (fC d) :=
 Cn.rec (motive_1:=fun e d _=>DE X e (fC d)) (motive_2:=fun es ds _=>DA X es (fun _ s=>some (ds,s))) de_int z5c z75 zew
  (fun _ h=>(z2X h.w).as fun δ s r hr=>by cases hr;rfl) (fun hs _ h=>(z2x h).as fun δ s r hr=>by cases hr;unfold eTup;simp[hs]) (fun hs _ h=>(z1A h).as fun δ s r hr=>by cases hr;unfold eLst;simp[hs])
  zj (fun h _ d t=>z8 d t (zbQ h)) h
end
end L3
namespace L3
open PySem L2 PySem.Spec PyProof.Rows
theorem z4h{T:Tgt}{Ft:FT}{F:FE}{δc:Sl}{f:D->D}{s:Sx}:∀ (ds:List D),(∀ d∈ds,∃ δ1,T.run d δc=some δ1/\Ft δ1 s=some (true,s)/\F δ1 s=some (f d,s))->compD T Ft F δc ds s=some (ds.map f,s)
 | [],_=>rfl
 | d::ds,h=>by
  obtain⟨δ1,e1,e2,e3⟩:=h d List.mem_cons_self
  have ih:=z4h ds fun d hd=>h d (List.mem_cons_of_mem _ hd)
  unfold compD
  rw[e1]
  simp only[Option.bind_some,e2,if_true,e3,ih,Option.map_some,List.map_cons]
theorem z7g{T:Tgt}{Ft:FT}{F:FE}{δc:Sl}(P:D->Prop)(c:Nat)(step:∀ n s d,Good (n + c) s->∃ δ1 x s',T.run d δc=some δ1/\Ft δ1 s=some (true,s)/\F δ1 s=some (x,s')/\P x/\Good n s') :
  ∀ (ds:List D) (n:Nat) (s:Sx),Good (n + c * ds.length) s->∃ xs s',compD T Ft F δc ds s=some (xs,s')/\(∀ x∈xs,P x)/\xs.length=ds.length/\Good n s'
 | [],n,s,h=>⟨[],s,rfl,(fun _ z=>nomatch z),rfl,by simpa using h⟩
 | d::ds,n,s,h=>by
  obtain⟨δ1,x,s1,e1,e2,e3,hx,g1⟩:=step (n + c * ds.length) s d (h.mono (by rw[List.length_cons,Nat.mul_add];omega))
  obtain⟨xs,s2,e4,hxs,hl,g2⟩:=z7g P c step ds n s1 g1
  refine⟨x::xs,s2,?_,?_,by simp[hl],g2⟩
  ·unfold compD
   rw[e1]
   simp only[Option.bind_some,e2,if_true,e3,e4,Option.map_some]
  ·intro y hy
   rcases List.mem_cons.mp hy with rfl | hy
   ·exact hx
   ·exact hxs y hy
theorem zQ{l:List D}(h:l.length<=1000):small l=true:=decide_eq_true (Nat.le_trans h (by decide))
theorem atI_nat{l:List D}{n:Nat}{d:D}(h:l[n]?=some d):L2.atI l (n:Int)=some d:=by
 have hl:=(List.getElem?_eq_some_iff.mp h).1
 unfold L2.atI ixN
 rw[if_pos (by omega),if_pos (by omega),Int.toNat_natCast]
 exact h
theorem atI_last{l:List D}(h:l≠[]):L2.atI l (-1)=some (l.getLast h):=by
 have hl:0 < l.length:=List.length_pos_iff.mpr h
 unfold L2.atI ixN
 rw[if_neg (by decide),if_pos (by omega)]
 show l[(-1 + (l.length:Int)).toNat]?=_
 rw[show(-1 + (l.length:Int)).toNat=l.length - 1 by omega,List.getElem?_eq_getElem (by omega),List.getLast_eq_getElem]
end L3
namespace L3
open PySem L2 PySem.Spec PyProof.Rows
def lookF(f:Str):List (D × D)->Option D
 | (.str n,d)::r=>if f=n then some d else lookF f r
 | _=>none
theorem Reps.field{K:PySem.W.Frag}{Z:Zt}{H:Hp}{A:List Addr}{f:Str}{d:D}:∀ {ns:List Str} {vs:List V} {ds:List D},Reps K Z H A vs ds->lookF f ((ns.map PyData.str).zip ds)=some d->∃ v,(ns.zip vs).lookup f=some v/\Rep K Z H A v d
 | [],_,_,_,h=>by simp[lookF]at h
 | n::ns,_,_,.nil,h=>by simp[lookF]at h
 | n::ns,_,_,.cons (v:=v) r t,h=>by
  simp only[List.map_cons,List.zip_cons_cons,lookF]at h
  rw[List.zip_cons_cons,List.lookup_cons]
  split at h
  ·rename_i e
   cases h
   subst e
   exact⟨v,by simp,r⟩
  ·rename_i e
   obtain⟨v',h1,h2⟩:=Reps.field t h
   have:(f == n)=false:=by simpa using e
   exact⟨v',by rw[this];exact h1,h2⟩
theorem Reps.nofield{K:PySem.W.Frag}{Z:Zt}{H:Hp}{A:List Addr}{f:Str}:∀ {ns:List Str} {vs:List V} {ds:List D},Reps K Z H A vs ds->lookF f ((ns.map PyData.str).zip ds)=none->(ns.zip vs).lookup f=none
 | [],_,_,_,_=>rfl
 | n::ns,_,_,.nil,_=>rfl
 | n::ns,_,_,.cons r t,h=>by
  simp only[List.map_cons,List.zip_cons_cons,lookF]at h
  rw[List.zip_cons_cons,List.lookup_cons]
  split at h
  ·cases h
  ·rename_i e
   have:(f == n)=false:=by simpa using e
   rw[this]
   exact Reps.nofield t h
theorem RepW.object{K:PySem.W.Frag}{Z:Zt}{H:Hp}{A:List Addr}{v:V}{e c:Str}{fs:List (D × D)}(r:RepW K Z H A v (.dict ((.str e,.str c)::fs))) :
  ∃ (p C dx:Addr) (ns:List Str) (vs:List V) (ds:List D),v=.ref p/\PySem.W.nsIn K mainGlobals c=some (some (.ref C))/\H p=some (.ins C dx (ns.zip vs))/\Reps K Z H A vs ds/\fs=(ns.map PyData.str).zip ds:=by
 rcases r with r | ⟨_,_,_,_,e2,_⟩
 ·cases r with
  | obj k h n z q=>exact⟨_,_,_,_,_,_,rfl,k,h,q,rfl⟩
 ·cases e2
inductive IsM(K:PySem.W.Frag)(c m q:Str)(st:Stmt):Prop
 | mk (C:Addr) (f:Addr) (fd:FuncData) (h0:PySem.W.nsIn K mainGlobals c=some (some (.ref C))) (h1:Cls K C) (h2:Meth K C m f) (h3:Fun K m q st f fd)
inductive IsI(K:PySem.W.Frag)(mg:Str->Option Value)(c q:Str)(st:Stmt)(fs:List Str):Prop
 | mk (C:Addr) (f:Addr) (fd:FuncData) (h0:PySem.W.nsIn K mainGlobals c=some (some (.ref C))) (h1:mg c=some (.ref C)) (h2:Mk K C f) (h3:Cls K C) (h4:(∀ x∈fs,NoAttr K C x)) (h5:Fun K "__init__" q st f fd)
section
variable {X:Cx} {e o:Expr} {es:List Expr} {Fa Fo:FE} {FL:FA} {f x m:Str} {p pos apos:Pos}
inductive FCal(K:PySem.W.Frag)(c f:Str):Prop
 | mk (C:Addr) (h0:PySem.W.nsIn K mainGlobals c=some (some (.ref C))) (h1:Cls K C) (h2:NoAttr K C f)
def gFld(cs:List Str)(f:Str):G1:=fun d=>match d with | .dict ((.str _,.str c)::fs)=>if c∈cs then lookF f fs else none | _=>none
theorem z0f{cs:List Str}(hc:∀ c∈cs,FCal X.K c f)(ha:DW X e Fa)(hb:attributeBase e f X.env (eval e X.env)=eval e X.env:=by rfl):DE X (.Attribute e f pos) (f1 (gFld cs f) Fa):=⟨fun Z A=>PE.imp (z5Z (ha Z A) hb) fun σ H Q zg7=>by
 obtain⟨B,ow,δ,s,d,s',R,S,ee,q⟩:=zg7
 unfold f1 at ee
 first | refine bnd2 ee fun dx s1 e1 ee=>?_ | refine mpp2 ee fun dx s1 e1 ee=>?_
 replace ee:((gFld cs f dx).map fun d=>(d,s1))=some (d,s'):=ee
 cases e3:gFld cs f dx with
 | none=>rw[e3]at ee;cases ee
 | some d' =>
  rw[e3]at ee
  cases ee
  refine⟨B,ow,δ,s,dx,_,R,S,e1,fun v H1 x1 S1 r=>?_⟩
  unfold gFld at e3
  split at e3
  ·rename_i e0 c fs
   split at e3
   ·rename_i hin
    obtain⟨p,C,dxx,ns,vs,ds,rfl,k,h,rs,rfl⟩:=r.object
    obtain⟨C',k',cl,na⟩:=(hc c hin)
    rw[k]at k'
    cases k'
    obtain⟨v',h1,h2⟩:=rs.field e3
    exact⟨p,C,dxx,_,v',rfl,h,cl,na,h1,q v' H1 x1 S1 h2⟩
   ·cases e3
  ·cases e3⟩
inductive MCal(P:Program)(w:World)(K:PySem.W.Frag)(mg:Str->Option Value)(base:Heap)(c m:Str)(k:Nat)(g:GF):Prop
 | mk (C:Addr) (f:Addr) (fd:FuncData) (ps:List Str) (h0:PySem.W.nsIn K mainGlobals c=some (some (.ref C))) (h1:Cls K C) (h2:Meth K C m f) (h3:FnOk P w K mg base CX0 k f fd ps (spD K g)) (h4:Binds K fd ps [])
def fMeth(tab:List (Str × GF))(m:Str)(Fo:FE)(FL:FA):FE:=fun δ s=>(Fo δ s).bind fun p=>match p.1 with
 | .dict ((.str e,.str c)::fs)=>if (lookF m fs).isNone=true then (tab.lookup c).bind fun g=>(FL δ p.2).bind fun q=>g (.dict ((.str e,.str c)::fs)::q.1) q.2 else none
 | _=>none
theorem z2n{tab:List (Str × GF)}{k':Nat}{pl:Sem Bool}(ht:∀ c g,tab.lookup c=some g->∃ k,k<=k'/\MCal X.prog X.w X.K X.mg X.base c m k g)(hr:Room k' X.A)(ho:DE X o Fo)(ha:DA X (e::es) FL)
  (hst:starEach (e::es) X.env=(false,eval e X.env)::starEach es X.env:=by rfl) (hpl:(backTo pos (starEach es X.env)).any (·.1)=false:=by rfl)
  (hev:eval (.Call (.Attribute o m apos) (e::es) [] pos) X.env=(do
   let ov <- eval o X.env
   standAt apos.atName
   let (f,first) <- holding [ov] (getMethod ov m pl)
   callWith pos f first (backTo pos (starEach (e::es) X.env)) (backToKw pos (keywordEach [] X.env))):=by rfl) :
  DE X (.Call (.Attribute o m apos) (e::es) [] pos) (fMeth tab m Fo FL):=⟨fun Z A pins s σ H Q I zg8=>by
 obtain⟨B,ow,δ,st,d,st',R,S,ee,q⟩:=zg8
 unfold fMeth at ee
 first | refine bnd2 ee fun dx s1 e1 ee=>?_ | refine mpp2 ee fun dx s1 e1 ee=>?_
 try simp only[Option.bind_some]at ee
 split at ee
 ·rename_i e0 c fs
  split at ee
  ·rename_i hno
   first | refine bnd1 ee fun g e2 ee=>?_ | refine mpp1 ee fun g e2 ee=>?_
   try simp only[Option.bind_some]at ee
   first | refine bnd2 ee fun ds s2 e3 ee=>?_ | refine mpp2 ee fun ds s2 e3 ee=>?_
   try simp only[Option.bind_some]at ee
   obtain⟨k,hk,mc⟩:=ht c g e2
   obtain⟨C,f,fd,ps,kC,cl,me,G,hb⟩:=mc
   refine za4 (pl:=pl) (E:=E0) (ho Z A) cl me G (hr.mono hk) hb .nil pass0 (ha Z A) hst hpl hev pins s σ H Q I ⟨B,ow,δ,st,_,s1,R,S,e1,fun v H1 x1 S1 r=>?_⟩
   obtain⟨p,C',dxx,ns,vs,fds,rfl,kC',h,rs,efs⟩:=r.w.object
   rw[kC]at kC'
   cases kC'
   have hnone:lookF m ((ns.map PyData.str).zip fds)=none:=by rw[<- efs];simpa using hno
   refine⟨p,dxx,_,rfl,h,rs.nofield hnone,⟨B,ow,δ,s1,ds,s2,R.mono x1,S1,e3,fun us H2 x2 S2 rus=>?_⟩⟩
   show spD X.K g (V.ref p::(us++[])) H2 Q E0
   rw[List.append_nil]
   refine⟨Z,A++ow.map (·.2),_::ds,s2,d,st',.cons (r.ext x2) rus,fun q hq=>?_,S2,ee,fun v H' a b c=>q v H' ((x1.trans x2).trans a) b c⟩
   refine⟨(R.mono (x1.trans x2)).all q hq,?_⟩
   rcases List.mem_append.mp hq with h | h
   ·exact(R.ok q h).2
   ·obtain⟨⟨i,p⟩,hp,rfl⟩:=List.mem_map.mp h
    exact(R.ows i p hp).2.2.1
  ·cases ee
 ·cases ee⟩
def spI(K:PySem.W.Frag)(C:Addr)(ns:List Str)(gI:List D->Option (List D)):Sp:=fun vs H Q _=>∃ Z A p dx ws ds fds,vs=.ref p::ws/\H p=some (.ins C dx [])/\NotZ Z p/\Reps K Z H (p::A) ws ds/\gI ds=some fds /\
 ∀ fvs H',(∀ b o,H b=some o->b≠p->H' b=some o)->H' p=some (.ins C dx (ns.zip fvs))->Reps K Z H' (p::A) fvs fds->Q .non H'
inductive KCal(P:Program)(w:World)(K:PySem.W.Frag)(mg:Str->Option Value)(base:Heap)(c:Str)(k:Nat)(ns:List Str)(gI:List D->Option (List D)):Prop
 | mk (C:Addr) (f:Addr) (fd:FuncData) (ps:List Str) (h0:PySem.W.nsIn K mainGlobals c=some (some (.ref C))) (h1:mg c=some (.ref C)) (h2:Mk K C f) (h3:FnOk P w K mg base CX0 k f fd ps (spI K C ns gI)) (h4:Binds K fd ps [])
def fMake(c:Str)(ns:List Str)(gI:List D->Option (List D))(FL:FA):FE:=fun δ s=>(FL δ s).bind fun p=>(gI p.1).map fun fds=>(.dict ((.str "",.str c)::(ns.map PyData.str).zip fds),p.2)
theorem zax{C:Addr}{c:Str}{ns:List Str}{gI:List D->Option (List D)}{Z:Zt}{A:List Addr}{σ:L2.St}{H:Hp}{Q:VK}{E:XK}{FL:FA}(kC:PySem.W.nsIn X.K mainGlobals c=some (some (.ref C)))(h:tD X Z A (fMake c ns gI FL) σ H Q):tMake C (spI X.K C ns gI) [] E (tDA X Z A FL) σ H Q:=by
 obtain⟨B,ow,δ,s,d,s',R,S,ee,q⟩:=h
 unfold fMake at ee
 first | refine bnd2 ee fun ds s1 e1 ee=>?_ | refine mpp2 ee fun ds s1 e1 ee=>?_
 replace ee:((gI ds).map fun fds=>(PyData.dict ((.str "",.str c)::(ns.map PyData.str).zip fds),s1))=some (d,s'):=ee
 first | refine bnd1 ee fun fds e2 ee=>?_ | refine mpp1 ee fun fds e2 ee=>?_
 cases ee
 refine⟨B,ow,δ,s,ds,_,R,S,e1,fun vs H1 x1 S1 rs=>fun x dx nx ndx nex=>?_⟩
 rw[List.append_nil]
 have keep:∀ b o,H1 b=some o->(upd (upd H1 dx (.own x)) x (.ins C dx [])) b=some o:=fun b o e=>by rw[zd (zf e nx),zd (zf e ndx)];exact e
 have rs2:Reps X.K Z (upd (upd H1 dx (.own x)) x (.ins C dx [])) (x::(A++ow.map (·.2))) vs ds:=((rs.fresh (o:=.own x) ndx).fresh (o:=.ins C dx []) (by rw[zd (Ne.symm nex)];exact nx)).sub fun q hq=>by
  rcases List.mem_cons.mp hq with h | h
  ·rw[h];exact List.mem_cons_self
  ·exact List.mem_cons_of_mem _ (List.mem_cons_of_mem _ h)
 refine⟨Z,A++ow.map (·.2),x,dx,vs,ds,fds,rfl,ze,S1.notZ nx,rs2,e2,fun fvs H' hk hp rf=>⟨rfl,?_⟩⟩
 have xx:Ext Z H1 H':=fun b o e _=>hk b o (keep b o e) (zf e nx)
 exact q _ H' (x1.trans xx) (fun a c e=>⟨hk _ _ (keep _ _ (S1 a c e).1) (zf (S1 a c e).1 nx),hk _ _ (keep _ _ (S1 a c e).2) (zf (S1 a c e).2 nx)⟩) (.obj kC hp (zM (R.mono x1).all nx) (S1.notZ nx) (rf.sub fun q hq=>List.mem_cons_of_mem _ hq))
theorem zdt{c:Str}{k k':Nat}{ns:List Str}{gI:List D->Option (List D)}(K:KCal X.prog X.w X.K X.mg X.base c k ns gI)(hr:Room k' X.A)(ha:DA X (e::es) FL)(hk:k + 1<=k':=by decide)(hg:Gl X c:=by rfl)(hdb:(c == ("__debug__":Str))=false:=by decide)
  (hst:starEach (e::es) X.env=(false,eval e X.env)::starEach es X.env:=by rfl) (hpl:(backTo pos (starEach es X.env)).any (·.1)=false:=by rfl):DE X (.Call (.Name c p) (e::es) [] pos) (fMake c ns gI FL):=by
 obtain⟨C,f,fd,ps,kC,hm,M,G,hb⟩:=K
 exact⟨fun Z A=>PE.imp (za5 (E:=E0) M G (hr.mono hk) hg hm hb .nil pass0 (ha Z A) hdb hst hpl) fun σ H Q q=>zax kC q⟩
end
end L3
namespace L3
open PySem L2 PySem.Spec PyProof.Rows
section
variable {X:Cx} {e:Expr} {F:FE} {p pos:Pos}
def enumD(xs:List D):List D:=xs.zipIdx.map fun z=>.tuple [.int (z.2:Int),z.1]
def iEnumF(F:FE):FI:=fun δ s=>(F δ s).bind fun p=>(seqOf p.1).map fun xs=>(enumD xs,p.2)
theorem z6q{elts:List Expr}{c:Nat}{tp:Pos}(hm:X.mg "enumerate"=none)(ha:DE X e F)(hg:Gl X "enumerate":=by rfl)(hs:starEach [e] X.env=[(false,eval e X.env)]:=by rfl) :
  DI X (.Tuple elts c tp) (.Call (.Name "enumerate" p) [e] [] pos) (iEnumF F) :=
 ⟨fun Z A=>PI.imp (zdk hg hm (zS (ha Z A) z0U (by rw[hs];rfl)) hs) fun σ H R zg9=>by
  obtain⟨B,ow,δ,s,ds,s',RS,S,ee,q⟩:=zg9
  unfold iEnumF at ee
  first | refine bnd2 ee fun d s1 e1 ee=>?_ | refine mpp2 ee fun d s1 e1 ee=>?_
  replace ee:((seqOf d).map fun xs=>(enumD xs,s1))=some (ds,s'):=ee
  first | refine bnd1 ee fun xs e3 ee=>?_ | refine mpp1 ee fun xs e3 ee=>?_
  cases ee
  refine⟨B,ow,δ,s,d,s',RS,S,e1,fun v H1 x1 S1 r=>?_⟩
  obtain⟨k1,a1,vs1,rfl,sq1,rs1,st1⟩:=zaq r e3
  refine⟨k1,a1,vs1,rfl,sq1,q _ H1 x1 S1 ?_⟩
  intro ow' H' st f S' hA i
  have g1:=st1 ow' H' f
  refine⟨fun dd hd=>?_,fun hi=>⟨vs1,g1,?_⟩⟩
  ·unfold enumD at hd
   rw[List.getElem?_map,List.getElem?_zipIdx]at hd
   cases e5:xs[i]? with
   | none=>rw[e5]at hd;cases hd
   | some z =>
    rw[e5]at hd
    cases hd
    obtain⟨u1,h1,q1⟩:=(rs1.frm f).get e5
    refine⟨⟨vs1,u1,g1,h1⟩,fun x H3 zga=>?_⟩
    obtain⟨p,y1,ex,hp,eH,f1⟩:=zga
    have z1:=f1 vs1 g1
    rw[h1]at z1
    cases z1
    subst ex eH
    refine⟨Ext.upd hp,S'.upd hp,.tup ze (zM hA hp) (S'.notZ hp) (.cons ?_ (.cons (q1.ext (Ext.upd hp)) .nil))⟩
    simp only[Nat.zero_add]
    exact .int _
  ·rw[rs1.length]
   unfold enumD at hi
   rw[List.length_map,List.length_zipIdx]at hi
   exact hi⟩
end
end L3
namespace L3
open PySem L2 PySem.Spec PyProof.Rows
section
variable {X:Cx} {tg e:Expr} {F:FE} {p pos p2 pos2:Pos}
end
end L3
namespace L3
open PySem L2 PySem.Spec PyProof.Rows
section
variable {X:Cx} {e:Expr} {sts:List Stmt} {f x:Str} {p pos px ap:Pos}
def SV(X:Cx)(e:Expr)(v:L2.St->Option V):Prop:=PE X e (fun σ H Q=>∃ y,v σ=some y/\Q y H)
theorem zcO{i:Int}{j}:SV X (.Constant (.int i) j pos) (fun _=>some (.int i)):=PE.imp z2t fun σ H Q zgb=>by obtain⟨y,e,q⟩:=zgb;cases e;exact q
theorem zeJ{i:Nat}(h:PE X e (tVar i)):SV X e (fun σ=>(σ[i]?).getD none):=PE.imp h fun σ H Q zgc=>by
 obtain⟨y,e,q⟩:=zgc
 replace e:(σ[i]?).getD none=some y:=e
 cases e1:σ[i]? with
 | none=>rw[e1]at e;cases e
 | some o =>
  rw[e1]at e
  cases o with
  | none=>cases e
  | some y'=>cases e;exact⟨_,e1,q⟩
def putAll(fs0:List (Str × V)):List Str->List V->List (Str × V)
 | n::ns,v::vs=>putAll (putF n v fs0) ns vs
 | _,_=>fs0
def vals?(σ:L2.St):List (L2.St->Option V)->Option (List V)
 | []=>some []
 | v::r=>(v σ).bind fun x=>(vals? σ r).map fun xs=>x::xs
def IS(X:Cx)(C:Addr)(sts:List Stmt)(ns:List Str)(vs:List (L2.St->Option V)):Prop:=PSs X sts (fun D σ H=>∃ p dx fs0 xs,σ[0]?=some (some (.ref p))/\H p=some (.ins C dx fs0)/\vals? σ vs=some xs/\fs0.length + ns.length<=100 /\
 ∀ H',(∀ b o,H b=some o->b≠p->H' b=some o)->H' p=some (.ins C dx (putAll fs0 ns xs))->D.nx σ H')
theorem zeK{C:Addr}:IS X C [] [] []:=PSs.imp z54 fun D σ H zgd=>by
 obtain⟨p,dx,fs0,xs,h1,h2,h3,h4,q⟩:=zgd
 cases h3
 exact q H (fun b o e _=>e) h2
theorem z7Y{C:Addr}{ns:List Str}{vs:List (L2.St->Option V)}{v:L2.St->Option V}(cl:Cls X.K C)(na:NoAttr X.K C f)(ho:PE X (.Name x px) (tVar 0))(he:SV X e v)(hr:IS X C sts ns vs)
  (hs:swapsWith e (some (.Attribute (.Name x px) f ap)) pos.line X.env=pure false:=by rfl):IS X C (.Assign [.Attribute (.Name x px) f ap] e pos::sts) (f::ns) (v::vs) :=
 PSs.imp (zK (z3T ho he hs) hr) fun D σ H zge=>by
  obtain⟨p,dx,fs0,xs,h1,h2,h3,h4,q⟩:=zge
  unfold vals? at h3
  first | refine bnd1 h3 fun y e1 h3=>?_ | refine mpp1 h3 fun y e1 h3=>?_
  try simp only[Option.bind_some]at h3
  first | refine bnd1 h3 fun ys e2 h3=>?_ | refine mpp1 h3 fun ys e2 h3=>?_
  cases h3
  rw[List.length_cons]at h4
  refine⟨y,e1,_,h1,p,C,dx,fs0,rfl,h2,cl,na,by omega,?_⟩
  refine⟨p,dx,putF f y fs0,ys,h1,ze,e2,?_,fun H' a b=>q H' (fun b' o e hb=>a b' o (by rw[zd hb];exact e) hb) b⟩
  have:=z3D f y fs0
  omega
end
theorem Reps.past{K:PySem.W.Frag}{Z:Zt}{H H':Hp}{A:List Addr}{p:Addr}(hk:∀ b o,H b=some o->b≠p->H' b=some o){vs:List V}{ds:List D}(r:Reps K Z H (p::A) vs ds):Reps K Z H' (p::A) vs ds:=r.move fun b o h n z=>⟨hk b o h fun e=>n (by rw[e];exact List.mem_cons_self),n⟩
section
variable {P:Program} {w:World} {K:PySem.W.Frag} {mg:Str->Option Value} {base:Heap}
theorem initOk{c q:Str}{st:Stmt}{ps ns:List Str}{C f:Addr}{fd:FuncData}{vs:List (L2.St->Option V)}{gI:List D->Option (List D)}(kC:PySem.W.nsIn K mainGlobals c=some (some (.ref C)))(hm:mg c=some (.ref C))(M:Mk K C f)(F:Fun K "__init__" q st f fd)(S:FnScope ps ps (defScope st))(hb:Binds K fd ps [])
  (hns:ns.length<=100) (hnd:∀ xs:List V,xs.length=ns.length->putAll [] ns xs=ns.zip xs)
  (hlen:∀ ds fds,gI ds=some fds->ds.length + 1=ps.length)
  (hbody:∀ (cdv:Value) (A:Around) (outer:List Env) (s:Shared) (H:Hp) (E:XK),IS (cxOf CX0 P w K mg base ps q (defScope st) f cdv A outer s H E).nox C (defBody st) ns vs)
  (hv:∀ Z H A p ws ds fds,Reps K Z H A ws ds->gI ds=some fds->∃ xs,vals? (some (.ref p)::ws.map some) vs=some xs/\xs.length=ns.length/\Reps K Z H A xs fds):KCal P w K mg base c 1 ns gI:=by
 refine⟨C,f,fd,ps,kC,hm,M,F.ok S (fun vs H Q E h=>?_) (fun cdv A outer s H us Q E hr h=>?_),hb⟩
 ·obtain⟨Z,A,p,dx,ws,ds,fds,rfl,_,_,rs,e,_⟩:=h
  rw[List.length_cons,rs.length]
  exact hlen ds fds e
 ·obtain⟨Z,A0,p,dx,ws,ds,fds,rfl,hp,nz,rs,e,q⟩:=h
  obtain⟨xs,h1,h2,h3⟩:=hv Z H (p::A0) p ws ds fds rs e
  refine⟨_,hbody cdv A outer s H E,?_⟩
  have hst:L2.start ps (.ref p::ws)=some (.ref p)::ws.map some:=by
   unfold L2.start
   rw[show ps.length - (V.ref p::ws).length=0 by rw[List.length_cons,rs.length,hlen ds fds e,Nat.sub_self]]
   simp
  rw[hst]
  refine⟨p,dx,[],xs,rfl,hp,h1,by simpa using hns,fun H' a b=>?_⟩
  rw[hnd xs h2]at b
  exact q xs H' a b (h3.past a)
end
end L3
namespace L3
theorem z2Z{Pm:PySem.Str->GF->Prop}:∀ c g,([]:List (PySem.Str × GF)).lookup c=some g->Pm c g:=fun _ _ h=>nomatch h
theorem z2c{Pm:PySem.Str->GF->Prop}{n:PySem.Str}{g1:GF}{l:List (PySem.Str × GF)}(h:Pm n g1)(ht:∀ c g,l.lookup c=some g->Pm c g):∀ c g,((n,g1)::l).lookup c=some g->Pm c g:=fun c g e=>by
 rw[List.lookup_cons]at e
 split at e
 ·rename_i hb
  cases e
  rw[eq_of_beq hb]
  exact h
 ·exact ht c g e
end L3
namespace L3
open PySem L2 PySem.Spec PyProof.Rows
end L3
namespace L3
open PySem L2 PySem.Spec PyProof.Rows
def co(l:List Rat)(i:Nat):Rat:=l.getD i 0
end L3
namespace L3
open PySem L2 PySem.Spec PyProof.Rows
theorem z8I{T:Tgt}{G:GS}(I:Nat->Sl->Sx->Prop):∀ (ds:List D) (o:Nat) (δ:Sl) (s:Sx),I o δ s ->
  (∀ j d δ s,ds[j]?=some d->I (o + j) δ s->∃ δ1 δ' s',T.run d δ=some δ1/\G δ1 s=some (.next δ',s')/\I (o + j + 1) δ' s')->∃ δ' s',forD T G ds δ s=some (.next δ',s')/\I (o + ds.length) δ' s'
 | [],o,δ,s,h,_=>⟨δ,s,rfl,h⟩
 | d::ds,o,δ,s,h,step=>by
  obtain⟨δ1,δ2,s2,e1,e2,h2⟩:=step 0 d δ s rfl h
  obtain⟨δ3,s3,e3,h3⟩:=z8I I ds (o + 1) δ2 s2 h2 fun j d' δ s hd hi=>by
   obtain⟨a,b,c,x,y,z⟩:=step (j + 1) d' δ s (by simpa using hd) (by rw[show o + (j + 1)=o + 1 + j by omega];exact hi)
   exact⟨a,b,c,x,y,by rw[show o + 1 + j + 1=o + (j + 1) + 1 by omega];exact z⟩
  refine⟨δ3,s3,?_,by rw[List.length_cons,show o + (ds.length + 1)=o + 1 + ds.length by omega];exact h3⟩
  show((T.run d δ).bind fun δ1=>_)=_
  rw[e1]
  show(match G δ1 s with | some (.next δ',s')=>forD T G ds δ' s' | some (.cnt δ',s')=>forD T G ds δ' s' | some (.brk δ',s')=>some (.next δ',s') | some (.ret r,s')=>some (.ret r,s') | some (.own r,s')=>some (.own r,s') | none=>none)=_
  rw[e2]
  exact e3
theorem z2F{T:Tgt}{G:GS}(I:Nat->Sl->Sx->Prop)(ds:List D)(δ:Sl)(s:Sx)(h:I 0 δ s)
  (step:∀ j d δ s,ds[j]?=some d->I j δ s->∃ δ1 δ' s',T.run d δ=some δ1/\G δ1 s=some (.next δ',s')/\I (j + 1) δ' s'):∃ δ' s',forD T G ds δ s=some (.next δ',s')/\I ds.length δ' s':=by
 obtain⟨a,b,e,i⟩:=z8I I ds 0 δ s h fun j d δ s hd hi=>by
  rw[Nat.zero_add]at hi ⊢
  exact step j d δ s hd hi
 rw[Nat.zero_add]at i
 exact⟨a,b,e,i⟩
theorem z5i{xs:List D}{j:Nat}{d:D}(h:(enumD xs)[j]?=some d):∃ x,xs[j]?=some x/\d=.tuple [.int (j:Int),x]:=by
 unfold enumD at h
 rw[List.getElem?_map,List.getElem?_zipIdx]at h
 cases e:xs[j]? with
 | none=>rw[e]at h;simp at h
 | some x=>rw[e]at h;simp at h;exact⟨x,rfl,h.symm⟩
theorem z5j(xs:List D):(enumD xs).length=xs.length:=by simp[enumD]
theorem z6r{n j:Nat}{d:D}(h:(rng 0 n)[j]?=some d):j < n/\d=.int (j:Int):=by
 unfold rng at h
 rw[List.getElem?_map]at h
 by_cases hj:j < n
 ·rw[List.getElem?_range hj]at h
  simp only[Option.map_some,Option.some.injEq]at h
  refine⟨hj,?_⟩
  rw[<- h]
  congr 1
  omega
 ·rw[List.getElem?_eq_none (by simpa using hj)]at h;simp at h
theorem zay{d:D}{xs:List D}(h:seqOf d=some xs)(i:Int):gIx d (.int i)=L2.atI xs i:=by
 cases d with
 | list ys=>cases h;rfl
 | tuple ys=>cases h;rfl
 | _=>cases h
theorem z09{d:D}{xs:List D}(h:seqOf d=some xs):gLen d=some (.int xs.length):=by
 cases d with
 | list ys=>cases h;rfl
 | tuple ys=>cases h;rfl
 | _=>cases h
theorem z7{F:FE}{FL:FA}{δ:Sl}{s s1 s2:Sx}{d:D}{ds:List D}(h:F δ s=some (d,s1))(h':FL δ s1=some (ds,s2)):aCons F FL δ s=some (d::ds,s2):=by
 unfold aCons;rw[h];simp only[Option.bind_some,h',Option.map_some]
theorem z9{g:G2}{Fa Fb:FE}{δ:Sl}{s s1 s2:Sx}{a b d:D}(h:Fa δ s=some (a,s1))(h':Fb δ s1=some (b,s2))(e:g a b=some d):f2 g Fa Fb δ s=some (d,s2):=by
 unfold f2;rw[h];simp only[Option.bind_some,h',Option.map_some,e]
theorem zn{g:G1}{Fa:FE}{δ:Sl}{s s1:Sx}{a d:D}(h:Fa δ s=some (a,s1))(e:g a=some d):f1 g Fa δ s=some (d,s1):=by
 unfold f1;rw[h];simp only[Option.bind_some,Option.map_some,e]
theorem z42{i:Nat}{Fi F:FE}{δ:Sl}{s s1 s2:Sx}{v k:D}{xs ys:List D}(h:F δ s=some (v,s1))(h':Fi δ s1=some (k,s2))(hi:δ[i]?=some (.own xs))(e:putAt xs k v=some ys):sPut i Fi F δ s=some (.next (δ.set i (.own ys)),s2):=by
 unfold sPut;rw[h];simp only[Option.bind_some,h',hi,e,Option.map_some]
theorem zE{i:Nat}{F:FE}{δ:Sl}{s s1:Sx}{v:D}(h:F δ s=some (v,s1)):sSet i F δ s=some (.next (δ.set i (.val v)),s1):=by
 unfold sSet;rw[h];rfl
theorem add_int(a b:Nat):gAdd (.int (a:Int)) (.int (b:Int))=some (.int ((a + b:Nat):Int)):=by
 simp[gAdd,gAddI,gI]
end L3
namespace L3
open PySem L2 PySem.Spec PyProof.Rows
section
variable {X:Cx}
end
end L3
namespace L3
open PySem L2 PySem.Spec PyProof.Rows
abbrev GC:=List D->Sx->Option (Ce × Sx)
abbrev FC:=Sl->Sx->Option (Ce × Sx)
def mkFnC(n m:Nat)(G:GS):GC:=fun ds s=>if ds.length=n then (match G (ds.map .val++List.replicate m .non) s with
 | some (.ret d,s')=>some (.val d,s')
 | some (.own xs,s')=>some (.own xs,s')
 | some (.next _,s')=>some (.val .none,s')
 | _=>none) else none
def AftC(K:PySem.W.Frag)(Z:Zt)(A:List Addr)(H:Hp)(s':Sx)(Q:VK):Ce->Prop
 | .val d=>∀ v H',Ext Z H H'->StateAt Z H' s'->Rep K Z H' A v d->Q v H'
 | .own xs=>∀ p vs H',Ext Z H H'->StateAt Z H' s'->H p=none->H' p=some (.lst vs)->Reps K Z H' (p::A) vs xs->Q (.ref p) H'
 | .non=>False
inductive spC(K:PySem.W.Frag)(g:GC)(vs:List V)(H:Hp)(Q:VK)(_E:XK):Prop
 | mk (Z:Zt) (A:List Addr) (ds:List D) (s:Sx) (c:Ce) (s':Sx) (h0:Reps K Z H A vs ds) (h1:(∀ q∈A,(∃ o,H q=some o)/\NotZ Z q)) (h2:StateAt Z H s) (h3:g ds s=some (c,s')) (h4:AftC K Z A H s' Q c)
theorem z7h{n m:Nat}{G:GS}{ds:List D}{s:Sx}{r:Ce × Sx}(h:mkFnC n m G ds s=some r):ds.length=n:=by
 unfold mkFnC at h
 split at h
 ·assumption
 ·cases h
theorem fnC{P:Program}{w:World}{K:PySem.W.Frag}{mg:Str->Option Value}{base:Heap}{x qual:Str}{st:Stmt}{f:Addr}{fd:FuncData}{N ps:List Str}{k m:Nat}{G:GS}(Fn:Fun K x qual st f fd)(S:FnScope N ps (defScope st))(hN:N.length=ps.length + m)
  (hbody:∀ (cdv:Value) (A:Around) (outer:List Env) (s:Shared) (H:Hp) (E:XK),Room k (A.deeper (envOfC qual (defScope st) s.heap.objs.size f cdv))->DSs (cxOf CX0 P w K mg base N qual (defScope st) f cdv A outer s H E).nox (defBody st) G) :
  FnOk P w K mg base CX0 (k + 1) f fd ps (spC K (mkFnC ps.length m G)):=by
 refine Fn.ok S (fun vs H Q E h=>?_) (fun cdv A outer s H vs Q E hr h=>?_)
 ·obtain⟨Z,A,ds,s,c,s',r,_,_,e,_⟩:=h
  rw[r.length];exact z7h e
 ·obtain⟨Z,A0,ds,st0,c,st1,r,hA,hS,e,q⟩:=h
  have hl:=z7h e
  refine⟨_,hbody cdv A outer s H E hr Z A0,?_⟩
  unfold mkFnC at e
  rw[if_pos hl]at e
  have hst:L2.start N vs=vs.map some++List.replicate m none:=by
   unfold L2.start
   rw[hN,r.length,hl,Nat.add_sub_cancel_left]
  rw[hst]
  have R:RepS K H Z A0 [] (vs.map some++List.replicate m none) (ds.map .val++List.replicate m .non) H:={
   ok:=hA
   ext:=Ext.refl H
   len:=by simp[r.length]
   val:=fun i d h=>by
    obtain⟨v,h1,h2⟩:=z8C r h
    exact⟨v,h1,by rw[List.map_nil,List.append_nil];exact h2⟩
   own:=fun i xs h=>(z8D h).elim
   ows:=fun i p h=>nomatch h
   inj:=fun i j p h=>nomatch h}
  cases e1:G (ds.map .val++List.replicate m .non) st0 with
  | none=>rw[e1]at e;cases e
  | some r1 =>
   obtain⟨o,s1⟩:=r1
   rw[e1]at e
   refine⟨[],_,st0,o,s1,R,hS,e1,?_⟩
   cases o with
   | ret d'=>cases e;exact fun v H' a b c=>q v H' a b c
   | own xs=>cases e;exact fun p vs H' a b c d e=>q p vs H' a b c d e
   | next δ'=>cases e;exact fun ow' σ' H' R' S' f=>q .non H' R'.ext S' .non
   | brk δ'=>cases e
   | cnt δ'=>cases e
inductive CalC(P:Program)(w:World)(K:PySem.W.Frag)(mg:Str->Option Value)(base:Heap)(x:Str)(ps:List Str)(k:Nat)(g:GC):Prop
 | mk (f:Addr) (fd:FuncData) (h0:FnOk P w K mg base CX0 k f fd ps (spC K g)) (h1:mg x=some (.ref f)) (h2:PySem.W.keepIn K (.ref f)=true) (h3:Binds K fd ps [])
def ceD:Ce->Option D
 | .val d=>some d | .own xs=>some (.list xs) | .non=>none
def gOf(g:GC):GF:=fun ds s=>(g ds s).bind fun p=>(ceD p.1).map fun d=>(d,p.2)
theorem CalC.cal{P:Program}{w:World}{K:PySem.W.Frag}{mg:Str->Option Value}{base:Heap}{x:Str}{ps:List Str}{k:Nat}{g:GC}(h:CalC P w K mg base x ps k g):Cal P w K mg base x ps k (gOf g):=by
 obtain⟨f,fd,F,h1,h2,h3⟩:=h
 refine⟨f,fd,F.imp fun vs H Q E h=>?_,h1,h2,h3⟩
 obtain⟨Z,A,ds,s,d,s',r,hA,hS,e,q⟩:=h
 unfold gOf at e
 first | refine bnd2 e fun c s1 e1 e=>?_ | refine mpp2 e fun c s1 e1 e=>?_
 refine⟨Z,A,ds,s,c,s1,r,hA,hS,e1,?_⟩
 cases c with
 | non=>cases e
 | val d'=>cases e;exact q
 | own xs =>
  cases e
  exact fun p ws H' x1 S1 n h rs=>q _ H' x1 S1 (.lst h (zM (fun q hq=>(hA q hq).1) n) (hS.notZ n) (rs.sub fun q hq=>List.mem_cons_of_mem _ hq))
section
variable {X:Cx} {st:Stmt} {e:Expr} {es:List Expr} {F:FE} {Fo:FO} {Fc:FC} {FL:FA} {x y:Str} {i:Nat} {p pos pos':Pos}
inductive tDCK(K:PySem.W.Frag)(Z:Zt)(A:List Addr)(F:FC)(σ:L2.St)(H:Hp)(Q:VK):Prop
 | mk (B:Hp) (ow:Ow) (δ:Sl) (s:Sx) (c:Ce) (s':Sx) (h0:RepS K B Z A ow σ δ H) (h1:StateAt Z H s) (h2:F δ s=some (c,s')) (h3:AftC K Z (A++ow.map (·.2)) H s' Q c)
abbrev tDC(X:Cx)(Z:Zt)(A:List Addr)(F:FC):TE:=tDCK X.K Z A F
structure DC(X:Cx)(e:Expr)(F:FC):Prop where
 go:∀ Z A,PE X e (tDC X Z A F)
def fCallC(g:GC)(FL:FA):FC:=fun δ s=>(FL δ s).bind fun p=>g p.1 p.2
theorem z9n{gf:GC}{Z:Zt}{A:List Addr}{σ:L2.St}{H:Hp}{Q:VK}{E:XK}(h:tDC X Z A (fCallC gf FL) σ H Q):tCall (spC X.K gf) [] E (tDA X Z A FL) σ H Q:=by
 obtain⟨B,ow,δ,s,c,s',R,S,e,q⟩:=h
 unfold fCallC at e
 first | refine bnd2 e fun ds s1 e1 e=>?_ | refine mpp2 e fun ds s1 e1 e=>?_
 refine⟨B,ow,δ,s,ds,s1,R,S,e1,fun vs H1 x1 S1 rs=>?_⟩
 refine⟨Z,A++ow.map (·.2),ds,s1,c,s',by simpa using rs,fun q hq=>?_,S1,e,?_⟩
 ·refine⟨(R.mono x1).all q hq,?_⟩
  rcases List.mem_append.mp hq with h | h
  ·exact(R.ok q h).2
  ·obtain⟨⟨i,p⟩,hp,rfl⟩:=List.mem_map.mp h
   exact(R.ows i p hp).2.2.1
 ·cases c with
  | non=>exact q
  | val d=>exact fun v H' a b r=>q v H' (x1.trans a) b r
  | own xs=>exact fun p ws H' a b n h r=>q p ws H' (x1.trans a) b (z21 x1 S1 n) h r
theorem zeL{gf:GC}{k k':Nat}{ps:List Str}(C:CalC X.prog X.w X.K X.mg X.base x ps k gf)(hr:Room k' X.A)(ha:DA X (e::es) FL)(hk:k<=k':=by decide)(hg:Gl X x:=by rfl)(hdb:(x == ("__debug__":Str))=false:=by decide)
  (he:starEach (e::es) X.env=(false,eval e X.env)::starEach es X.env:=by rfl) (hpl:(backTo pos (starEach es X.env)).any (·.1)=false:=by rfl):DC X (.Call (.Name x p) (e::es) [] pos) (fCallC gf FL):=by
 obtain⟨f,fd,G,hm,hk',hb⟩:=C
 exact⟨fun Z A=>PE.imp (z7K G (hr.mono hk) hg hm hk' hb .nil pass0 (ha Z A) hdb he hpl) fun σ H Q q=>z9n q⟩
def sSetC(i:Nat)(F:FC):GS:=fun δ s=>(F δ s).bind fun p=>match p.1 with | .non=>none | c=>some (.next (δ.set i c),p.2)
theorem zdu(hN:X.N.Nodup)(h:DC X e Fc)(hi:X.N[i]?=some y:=by rfl)(hx:Loc X.env.scope y:=by first | exact Or.inl rfl | exact Or.inr rfl)
  (hs:swapsWith e (some (.Name y pos')) pos.line X.env=pure false:=by rfl)
  (hf:X.fn y=true\/X.env.scope.names.lookup y=some .local:=by first | exact .inl rfl | exact .inr rfl | assumption):DS X (.Assign [.Name y pos'] e pos) (sSetC i Fc):=⟨fun Z A=>PS.imp (z2u hN hi hx (h.go Z A) hs hf) fun E σ H h=>by
 obtain⟨ow,δ,s,o,s',R,S,e,q⟩:=h
 unfold sSetC at e
 first | refine bnd2 e fun c s1 e1 e=>?_ | refine mpp2 e fun c s1 e1 e=>?_
 refine⟨_,ow,δ,s,c,s1,R,S,e1,?_⟩
 cases c with
 | non=>cases e
 | val d =>
  cases e
  intro v H' x1 S1 r
  obtain⟨R2,f2⟩:=(R.mono x1).set (i:=i) r
  exact q _ _ _ R2 S1 ((Frm.ext x1).trans f2)
 | own xs =>
  cases e
  intro p ws H' x1 S1 n h r
  obtain⟨R3,f3⟩:=R.setOwn (i:=i) S x1 n h r
  exact q _ _ _ R3 S1 f3⟩
def sRetO(i:Nat):GS:=fun δ s=>match δ[i]? with | some (.own xs)=>some (.own xs,s) | some (.val d)=>some (.ret d,s) | _=>none
theorem zdv(hv:PE X (.Name x p) (tVar i)):DS X (.Return (some (.Name x p)) pos) (sRetO i):=⟨fun Z A=>PS.imp (z8t hv) fun E σ H h=>by
 obtain⟨ow,δ,s,o,s',R,S,e,q⟩:=h
 unfold sRetO at e
 split at e
 ·rename_i xs ho
  cases e
  obtain⟨p,vs,h1,h2,h3,h4⟩:=R.own i xs ho
  exact⟨_,h2,q p vs H R.ext S (R.ows i p h1).1 h3 (h4.sub fun q hq=>by
   rcases List.mem_cons.mp hq with rfl | hq
   ·exact List.mem_append_right _ (List.mem_map.mpr ⟨(i,q),h1,rfl⟩)
   ·exact List.mem_append_left _ hq)⟩
 ·rename_i d ho
  cases e
  obtain⟨v,h1,r⟩:=R.val i d ho
  exact⟨_,h1,q v H R.ext S (r.sub fun q hq=>List.mem_append_left _ hq)⟩
 ·cases e⟩
end
end L3
namespace L3
open PySem L2 PySem.Spec PyProof.Rows
section
variable {X:Cx} {e e2:Expr} {Fa Fb:FE} {st:Stmt} {p p2 pos pos2:Pos}
def sPar3(i j k:Nat)(FL:FA):GS:=fun δ s=>(FL δ s).bind fun p=>match p.1 with | [x,y,z]=>some (.next (((δ.set i (.val x)).set j (.val y)).set k (.val z)),p.2) | _=>none
theorem zdw{i j k:Nat}{x y z:Str}{a b c:Expr}{FL:FA}{px py pz pt:Pos}{kt k2 pt2}(hN:X.N.Nodup)(hij:i≠j)(hik:i≠k)(hjk:j≠k)(ha:DA X [a,b,c] FL)(hw:swappedStores [.Tuple [.Name x px,.Name y py,.Name z pz] kt pt] (.Tuple [a,b,c] k2 pt2) X.env=pure (some [x,y,z]))
  (hi:X.N[i]?=some x:=by rfl) (hj:X.N[j]?=some y:=by rfl) (hk:X.N[k]?=some z:=by rfl) (hx:X.env.scope.names.lookup x=some .local:=by rfl) (hy:X.env.scope.names.lookup y=some .local:=by rfl) (hz:X.env.scope.names.lookup z=some .local:=by rfl) (hc:X.calm=true:=by rfl)
  (hs:swapsWithSole [.Tuple [.Name x px,.Name y py,.Name z pz] kt pt] (.Tuple [a,b,c] k2 pt2) pos.line X.env=pure false:=by rfl):DS X (.Assign [.Tuple [.Name x px,.Name y py,.Name z pz] kt pt] (.Tuple [a,b,c] k2 pt2) pos) (sPar3 i j k FL):=⟨fun Z A=>PS.imp (zdm hc hN hi hj hk hij hik hjk hx hy hz (ha Z A) hw hs) fun E σ H h=>by
  obtain⟨ow,δ,s,o,s',R,S,e,q⟩:=h
  unfold sPar3 at e
  cases e1:FL δ s with
  | none=>rw[e1]at e;cases e
  | some p =>
   obtain⟨ds,s1⟩:=p
   rw[e1]at e
   refine⟨_,ow,δ,s,ds,s1,R,S,e1,fun vs H' x1 S1 rs=>?_⟩
   rcases ds with _ | ⟨dx,_ | ⟨dy,_ | ⟨dz,_ | _⟩⟩⟩
   ·cases e
   ·cases e
   ·cases e
   ·cases e
    cases rs with
    | cons r1 rs =>
     cases rs with
     | cons r2 rs =>
      cases rs with
      | cons r3 rs =>
       cases rs
       obtain⟨R1,f1⟩:=(R.mono x1).set (i:=i) r1
       obtain⟨R2,f2⟩:=R1.set (i:=j) (r2.frm f1)
       obtain⟨R3,f3⟩:=R2.set (i:=k) ((r3.frm f1).frm f2)
       exact⟨_,_,_,rfl,q _ _ H' R3 S1 ((((Frm.ext x1).trans f1).trans f2).trans f3)⟩
   ·cases e⟩
end
end L3
namespace L3
open PySem L2 PySem.Spec PyProof.Rows
section
variable {X:Cx} {e e2 r t:Expr} {Fa Fb F Fr:FE} {Ft:FT} {T:Tgt} {x:Str} {px apos cpos pos pos2 pos3:Pos} {i:Nat}
end
end L3
namespace L3
open PySem L2 PySem.Spec PyProof.Rows
def intsOf:List D->Option (List Int)
 | []=>some []
 | .int k::r=>(intsOf r).map (k::·)
 | _::_=>none
theorem z4W:∀ {ds:List D} {ks:List Int},intsOf ds=some ks->ds=ks.map .int
 | [],ks,h=>by cases h;rfl
 | d::r,ks,h=>by
  cases d with
  | int k =>
   replace h:(intsOf r).map (k::·)=some ks:=h
   refine mpp1 h fun l e h=>?_
   subst h
   rw[z4W e];rfl
  | _=>cases h
theorem z3l:∀ ks:List Int,intsOf (ks.map .int)=some ks
 | []=>rfl
 | k::r=>by
  show(intsOf (r.map .int)).map (k::·)=_
  rw[z3l r];rfl
def sumOk(ks:List Int):Bool:=decide (ks.length<=1000) && ks.all fun k=>decide (k.natAbs<=1000000000)
def gSum:G1:=fun d=>match d with | .list xs=>(intsOf xs).bind fun ks=>if sumOk ks=true then some (.int ks.sum) else none | _=>none
theorem z7Z(ks:List Int):∀ n,n<=ks.length->preSum (fun i=>ks.getD i 0) n=(ks.take n).sum
 | 0,_=>by simp[preSum]
 | n + 1,h=>by
  have ih:=z7Z ks n (by omega)
  show preSum (fun i=>ks.getD i 0) n + ks.getD n 0=_
  rw[ih,<- List.take_append_getElem (show n < ks.length by omega),List.sum_append,List.getD_eq_getElem?_getD,List.getElem?_eq_getElem (show n < ks.length by omega)]
  simp
theorem zcP{c:Nat}:∀ {ks:List Int},(∀ k∈ks,k.natAbs<=c)->ks.sum.natAbs<=c * ks.length
 | [],_=>by simp
 | k::r,h=>by
  have h1:=h k List.mem_cons_self
  have h2:=zcP fun x hx=>h x (List.mem_cons_of_mem _ hx)
  rw[List.sum_cons,List.length_cons,Nat.mul_succ]
  omega
theorem zaz:∀ {vs:List V} {its:List Value} {ks:List Int},Vals vs its->vs=ks.map V.int->∃ l:List (Int × Tok),its=l.map (fun p=>Value.int p.1 p.2)/\l.map (·.1)=ks
 | [],_,ks,r,h=>by
  cases r
  have:ks=[]:=by simpa using h.symm
  subst this
  exact⟨[],rfl,rfl⟩
 | v::vs,_,ks,r,h=>by
  cases ks with
  | nil=>cases h
  | cons k ks =>
   cases r with
   | cons r1 r2 =>
    simp only[List.map_cons,List.cons.injEq]at h
    obtain⟨l,e1,e2⟩:=zaz r2 h.2
    rw[h.1]at r1
    obtain⟨t,rfl⟩:=r1
    exact⟨(k,t)::l,by rw[e1];rfl,by rw[List.map_cons,e2]⟩
theorem repsI{K:PySem.W.Frag}{Z:Zt}{H:Hp}{A:List Addr}:∀ {vs:List V} {ks:List Int},Reps K Z H A vs (ks.map .int)->vs=ks.map V.int
 | [],[],_=>rfl
 | [],_::_,r=>by cases r
 | _::_,[],r=>by cases r
 | v::vs,k::ks,r=>by
  cases r with
  | cons r1 r2 =>
   cases r1
   rw[repsI r2];rfl
section
variable {X:Cx}
theorem zcQ(hc:X.calm=true):CallR X (.builtin "sum") (rD1 X.K gSum):=fun pins s σ H xs us Q I rv zgf=>by
 obtain⟨Z,A,st,x,dx,d,e0,S,hA,rx,e,q⟩:=zgf
 subst e0
 obtain⟨u,rfl,ru⟩:=vals1 rv
 cases dx with
 | list ds =>
  replace e:((intsOf ds).bind fun ks=>if sumOk ks=true then some (PyData.int ks.sum) else none)=some d:=e
  refine bnd1 e fun ks e1 e=>?_
  split at e
  ·rename_i hok
   cases e
   have eds:=z4W e1
   subst eds
   obtain⟨p,vs,ev,sq,_,rs⟩:=rx.list
   subst ev
   cases (show u=Value.ref p from ru)
   obtain⟨its,r2,pl,_⟩:=I.list sq
   have hl:=pl.isList
   have evs:=repsI rs
   obtain⟨l,e2,e3⟩:=zaz r2 evs
   subst e2
   unfold sumOk at hok
   rw[Bool.and_eq_true,List.all_eq_true]at hok
   have hlen:ks.length<=1000:=of_decide_eq_true hok.1
   have hle:∀ k∈ks,k.natAbs<=1000000000:=fun k hk=>of_decide_eq_true (hok.2 k hk)
   have hn:numAt l.toArray=fun i=>ks.getD i 0:=by
    funext i
    unfold numAt
    rw[<- e3,List.getD_eq_getElem?_getD,List.getElem?_map,List.getElem?_toArray]
   have hsz:l.toArray.size=ks.length:=by rw[List.size_toArray,<- e3,List.length_map]
   have hit:(l.map fun p=>Value.int p.1 p.2).toArray=intItems l.toArray:=by simp[intItems]
   rw[hit]at hl
   have small:∀ z:Int,z.natAbs<=1000000000000->InLong z:=fun z h=>⟨by omega,by omega⟩
   refine sum_intList (show X.A.handled=none from I.ok.hd hc) hl (fun j hj=>?_) fun h' tk t' kp=>?_
   ·rw[hsz]at hj
    rw[hn]
    refine⟨small _ ?_,small _ ?_⟩
    ·show(ks.getD j 0).natAbs<=_
     rw[List.getD_eq_getElem?_getD,List.getElem?_eq_getElem hj]
     have:=hle _ (List.getElem_mem hj)
     simp only[Option.getD_some]
     omega
    ·rw[z7Z ks (j + 1) hj]
     have h1:=zcP (c:=1000000000) (ks:=ks.take (j + 1)) fun k hk=>hle k (List.mem_of_mem_take hk)
     have h2:(ks.take (j + 1)).length<=1000:=Nat.le_trans (List.length_take_le _ _) (by omega)
     have h3:=Nat.mul_le_mul_left 1000000000 h2
     omega
   ·rw[hn,hsz,z7Z ks _ (Nat.le_refl _),List.take_length]
    exact⟨.int ks.sum,H,I.kept (h':=h') (t':=tk) kp,⟨t',rfl⟩,q _ H (Ext.refl H) S (.int _)⟩
  ·cases e
 | _=>cases e
end
end L3
namespace L3
open PySem L2 PySem.Spec PyProof.Rows
section
variable {X:Cx} {tg e:Expr} {F:FE} {p pos:Pos}
end
end L3
namespace L3
open PySem L2 PySem.Spec PyProof.Rows
theorem RepW.sq{K:PySem.W.Frag}{Z:Zt}{H:Hp}{A:List Addr}{v:V}{d:D}{xs:List D}(r:RepW K Z H A v d)(e:seqOf d=some xs):∃ k a vs,v=.ref a/\SqK k K H a vs/\Reps K Z H A vs xs:=by
 cases d with
 | list ys =>
  cases e
  obtain⟨p,vs,ev,sq,_,rs⟩:=r.list
  exact⟨true,p,vs,ev,sq,rs⟩
 | tuple ys =>
  cases e
  obtain⟨p,vs,ev,sq,rs⟩:=r.tuple
  exact⟨false,p,vs,ev,sq,rs⟩
 | _=>cases e
theorem Reps.of_get{K:PySem.W.Frag}{Z:Zt}{H:Hp}{A:List Addr}{vs:List V}{ds:List D}(hl:vs.length=ds.length)(h:∀ (i:Nat) v d,vs[i]?=some v->ds[i]?=some d->Rep K Z H A v d):Reps K Z H A vs ds:=by
 induction vs generalizing ds with
 | nil =>
  cases ds with
  | nil=>exact .nil
  | cons d ds=>cases hl
 | cons v vs ih =>
  cases ds with
  | nil=>cases hl
  | cons d ds=>exact .cons (h 0 v d rfl rfl) (ih (Nat.succ.inj hl) fun i v d h1 h2=>h (i + 1) v d (by simpa using h1) (by simpa using h2))
section
variable {X:Cx} {e e2:Expr} {Fa Fb:FE} {p pos p2 pos2:Pos}
def oZip(Fa Fb:FE):FO:=fun δ s=>(Fa δ s).bind fun p=>(Fb δ p.2).bind fun q=>(seqOf p.1).bind fun xs=>(seqOf q.1).map fun ys=>((xs.zip ys).map fun z=>PyData.tuple [z.1,z.2],q.2)
theorem zdx(hc:X.calm=true)(hm:X.mg "list"=none)(hm2:X.mg "zip"=none)(ha:DW X e Fa)(hb:DW X e2 Fb)(hg:Gl X "list":=by rfl)(hg2:Gl X "zip":=by rfl)
  (hs:starEach [.Call (.Name "zip" p2) [e,e2] [] pos2] X.env=(false,eval (.Call (.Name "zip" p2) [e,e2] [] pos2) X.env)::starEach [] X.env:=by rfl)
  (hs2:starEach [e,e2] X.env=[(false,eval e X.env),(false,eval e2 X.env)]:=by rfl) (hs3:starEach [e2] X.env=[(false,eval e2 X.env)]:=by rfl):DF X (.Call (.Name "list" p) [.Call (.Name "zip" p2) [e,e2] [] pos2] [] pos) (oZip Fa Fb) :=
 ⟨fun Z A=>PE.imp (zdn hc hg hm hg2 hm2 (zS (ha Z A) (zS (hb Z A) z0U hs3) (by rw[hs2,hs3])) hs hs2 hs3) fun σ H Q zgg=>by
  obtain⟨B,ow,δ,s,ds,s',RS,S,ee,q⟩:=zgg
  unfold oZip at ee
  refine bnd2 ee fun d s1 e1 ee=>bnd2 ee fun d2 s2 e2 ee=>bnd1 ee fun xs e3 ee=>mpp1 ee fun ys e4 ee=>?_
  cases ee
  refine⟨B,ow,δ,s,d,s1,RS,S,e1,fun v H1 x1 S1 r=>⟨B,ow,δ,s1,d2,s2,RS.mono x1,S1,e2,fun v2 H2 x2 S2 r2=>?_⟩⟩
  obtain⟨k1,a1,vs1,rfl,sq1,rs1⟩:=RepW.sq (r.ext x2) e3
  obtain⟨k2,a2,vs2,rfl,sq2,rs2⟩:=RepW.sq r2 e4
  refine⟨k1,k2,a1,a2,vs1,vs2,rfl,sq1,sq2,fun N L hN hL hNL=>?_⟩
  have hA:=((RS.mono x1).mono x2).all
  have x12:=x1.trans x2
  have ex:∀ c o,H2 c=some o->upd (laid H2 N (vs1.zip vs2)) L (.lst ((List.range (vs1.zip vs2).length).map fun j=>V.ref (N + j))) c=some o:=fun c o h=>by
   rw[zd (zf h hL),z4T fun j _ z=>by rw[<- z,hN]at h;cases h]
   exact h
  have x3:Ext Z H2 (upd (laid H2 N (vs1.zip vs2)) L (.lst ((List.range (vs1.zip vs2).length).map fun j=>V.ref (N + j)))):=fun c o h _=>ex c o h
  refine q L _ _ (x12.trans x3) (fun a c h=>⟨ex _ _ (S2 a c h).1,ex _ _ (S2 a c h).2⟩) (z21 x12 S2 hL) ze ?_
  have nL:∀ c o,H2 c=some o->c≠L:=fun c o h=>zf h hL
  refine Reps.of_get (by rw[List.length_map,List.length_map,List.length_range,List.length_zip,List.length_zip,rs1.length,rs2.length]) fun i v dd h1 h2=>?_
  rw[List.getElem?_map]at h1 h2
  refine mpp1 h1 fun j e5 h1=>mpp1 h2 fun z e6 h2=>?_
  subst h1 h2
  have hi:=(List.getElem?_eq_some_iff.mp e5).1
  rw[List.length_range]at hi
  rw[List.getElem?_range hi]at e5
  cases e5
  obtain⟨g1,g2⟩:=List.getElem?_zip_eq_some.mp e6
  obtain⟨u1,q1,w1⟩:=rs1.get g1
  obtain⟨u2,q2,w2⟩:=rs2.get g2
  have mv:∀ {v:V} {d:D},Rep X.K Z H2 (A++ow.map (·.2)) v d->Rep X.K Z (upd (laid H2 N (vs1.zip vs2)) L (.lst ((List.range (vs1.zip vs2).length).map fun j=>V.ref (N + j)))) (L::(A++ow.map (·.2))) v d:=fun r=>r.move fun p o h n _=>⟨ex p o h,fun m=>(List.mem_cons.mp m).elim (nL p o h) n⟩
  refine .tup (vs:=[u1,u2]) ?_ (fun m=>(List.mem_cons.mp m).elim (hNL i) fun m=>?_) (S2.notZ (hN i)) (.cons (mv w1) (.cons (mv w2) .nil))
  ·rw[zd (hNL i)]
   exact zal (p:=(u1,u2)) (List.getElem?_zip_eq_some.mpr ⟨q1,q2⟩)
  ·obtain⟨o,ho⟩:=hA _ m
   rw[hN]at ho;cases ho⟩
end
inductive Al(K:PySem.W.Frag)(Z:Zt)(H:Hp)(A:List Addr):L2.St->Sl->Prop
 | nil:Al K Z H A [] []
 | non {o:Option V} {σ:L2.St} {δ:Sl}:Al K Z H A σ δ->Al K Z H A (o::σ) (.non::δ)
 | val {v:V} {d:D} {σ:L2.St} {δ:Sl}:Rep K Z H A v d->Al K Z H A σ δ->Al K Z H A (some v::σ) (.val d::δ)
theorem Al.len{K:PySem.W.Frag}{Z:Zt}{H:Hp}{A:List Addr}{σ:L2.St}{δ:Sl}(h:Al K Z H A σ δ):δ.length=σ.length:=by
 induction h with
 | nil=>rfl
 | non _ ih=>exact congrArg (· + 1) ih
 | val _ _ ih=>exact congrArg (· + 1) ih
theorem Al.get{K:PySem.W.Frag}{Z:Zt}{H:Hp}{A:List Addr}{σ:L2.St}{δ:Sl}(h:Al K Z H A σ δ):∀ (i:Nat) (d:D),δ[i]?=some (.val d)->∃ v,σ[i]?=some (some v)/\Rep K Z H A v d:=by
 induction h with
 | nil=>intro i d e;cases e
 | non _ ih =>
  intro i d e
  cases i with
  | zero=>cases e
  | succ i=>exact ih i d e
 | val r _ ih =>
  intro i d e
  cases i with
  | zero=>cases e;exact⟨_,rfl,r⟩
  | succ i=>exact ih i d e
theorem Al.own{K:PySem.W.Frag}{Z:Zt}{H:Hp}{A:List Addr}{σ:L2.St}{δ:Sl}(h:Al K Z H A σ δ):∀ (i:Nat) (xs:List D),δ[i]?=some (.own xs)->False:=by
 induction h with
 | nil=>intro i d e;cases e
 | non _ ih =>
  intro i d e
  cases i with
  | zero=>cases e
  | succ i=>exact ih i d e
 | val r _ ih =>
  intro i d e
  cases i with
  | zero=>cases e
  | succ i=>exact ih i d e
theorem Al.repS{K:PySem.W.Frag}{B:Hp}{Z:Zt}{H:Hp}{A:List Addr}{σ:L2.St}{δ:Sl}(h:Al K Z H A σ δ)(ok:∀ q∈A,(∃ o,H q=some o)/\NotZ Z q)(ext:Ext Z B H):RepS K B Z A [] σ δ H where
 ok:=ok
 ext:=ext
 len:=Al.len h
 val:=fun i d e=>let ⟨v,a,b⟩:=Al.get h i d e;⟨v,a,by show Rep K Z H (A++[]) v d;rw[List.append_nil];exact b⟩
 own:=fun i xs e=>(Al.own h i xs e).elim
 ows:=fun _ _ e=>nomatch e
 inj:=fun _ _ _ e=>nomatch e
end L3
namespace L3
open PySem L2 PyProof.Rows
def leastAt(ns:List Int):Nat:=argBest (fun i j=>decide (ns.getD i 0 < ns.getD j 0)) (ns.length - 1)
def gMinL:G1:=fun d=>match d with | .list ds=>(intsOf ds).bind fun ns=>(ns[leastAt ns]?).map fun n=>.int n | _=>none
section
variable {X:Cx}
theorem zdy(hc:X.calm=true):CallR X (.builtin "min") (rD1 X.K gMinL):=fun pins s σ H xs us Q I rv zgh=>by
 obtain⟨Z,A,st,x,dx,d,e0,S,hA,rx,e,q⟩:=zgh
 subst e0
 obtain⟨u,rfl,ru⟩:=vals1 rv
 cases dx with
 | list ds =>
  replace e:((intsOf ds).bind fun ns=>(ns[leastAt ns]?).map fun n=>PyData.int n)=some d:=e
  cases e1:intsOf ds with
  | none=>rw[e1]at e;cases e
  | some ns =>
   rw[e1]at e
   replace e:((ns[leastAt ns]?).map fun n=>PyData.int n)=some d:=e
   cases e2:ns[leastAt ns]? with
   | none=>rw[e2]at e;cases e
   | some n =>
    rw[e2]at e
    cases e
    have eds:=z4W e1
    subst eds
    obtain⟨p,vs,ev,sq,_,rs⟩:=rx.list
    subst ev
    cases (show u=Value.ref p from ru)
    obtain⟨its,r2,pl,_⟩:=I.list sq
    have hl:=pl.isList
    have lens:its.length=ns.length:=by rw[<- r2.length,rs.length,List.length_map]
    have val:∀ i v,its.toArray[i]?=some v->∃ t,v=Value.int (ns.getD i 0) t:=fun i v hP=>by
     have hi:its[i]?=some v:=by simpa using hP
     obtain⟨vv,h1,h2⟩:∃ vv,vs[i]?=some vv/\RelV vv v:=by
      cases e3:vs[i]? with
      | none=>rw[r2.none_of e3]at hi;cases hi
      | some vv=>obtain⟨u',h3,h4⟩:=r2.get e3;rw[h3]at hi;cases hi;exact⟨vv,rfl,h4⟩
     obtain⟨dd,h3,h4⟩:=rs.at h1
     rw[List.getElem?_map]at h3
     cases e4:ns[i]? with
     | none=>rw[e4]at h3;cases h3
     | some k =>
      rw[e4]at h3
      cases h3
      cases h4
      obtain⟨t,rfl⟩:=h2
      exact⟨t,by simp[e4]⟩
    have hlt:LT.lt (α:=Nat) p s.heap.objs.size:=by obtain⟨_,e,_⟩:=hl;exact Heap.lt_size e
    refine call_min_walk (wpAny_pyIter_list hl ?_)
    refine⟨_,_,_,_,_,_,_,rfl,Walks.list (A:=X.A.in1) (show X.A.in1.handled=none from I.ok.hd hc) s.heap.objs.size p (Nat.ne_of_lt hlt) its.toArray,⟨⟨_,Heap.get?_push_size _ rfl,rfl,rfl⟩,hl.push _⟩,fun b hb=>?_,?_,CmpOf.ints_lt (fun i=>ns.getD i 0) val,fun v h' tk hP kp=>?_⟩
    ·show LT.lt (α:=Nat) b (s.heap.push _).objs.size
     rw[Heap.size_push]
     rcases List.mem_cons.mp hb with rfl | hb
     ·exact Nat.lt_succ_self _
     ·rcases List.mem_cons.mp hb with rfl | hb
      ·exact Nat.lt_succ_of_lt hlt
      ·cases hb
    ·rw[List.size_toArray,lens]
     exact Nat.lt_of_le_of_lt (Nat.zero_le _) (List.getElem?_eq_some_iff.mp e2).1
    ·obtain⟨t,rfl⟩:=val _ v hP
     have ea:argBest (fun i j=>decide (ns.getD i 0 < ns.getD j 0)) (its.toArray.size - 1)=leastAt ns:=by unfold leastAt;rw[List.size_toArray,lens]
     refine⟨.int n,H,?_,⟨t,?_⟩,q _ H (Ext.refl H) S (.int _)⟩
     ·refine I.kept (h':=h') (t':=tk) fun b o eb=>kp b o ?_ (Heap.get?_push_of_some _ eb)
      intro z
      have z':b=s.heap.objs.size:=by simpa using z
      rw[z']at eb
      exact Nat.lt_irrefl _ (Heap.lt_size eb)
     ·rw[ea]
      congr 1
      simp[e2]
 | _=>cases e
end
end L3
namespace L3
open PySem L2 PySem.Spec PyProof.Rows
theorem z2N:fillsNumberSlot (.type "tuple") "mul"=pure false :=
 PySem.fillsNumberSlot_seq (id:="tuple.__mul__") (r:=some (.builtin "tuple.__rmul__")) PySem.F.slot_tuple_mul.lookup (by decide +kernel) PySem.F.slot_tuple_rmul.lookup (by decide +kernel)
theorem z4D:seqRepeat? (.type "tuple")=pure (some (.builtin "tuple.__mul__")):=by
 unfold seqRepeat?
 rw[PySem.seqSlot_of (T:="tuple") (name:="__mul__") (id:="tuple.__mul__") PySem.F.slot_tuple_mul.lookup (by decide +kernel),PySem.seqSlot_of (T:="tuple") (name:="__rmul__") (id:="tuple.__rmul__") PySem.F.slot_tuple_rmul.lookup (by decide +kernel)]
 rfl
theorem z3u(a:Int)(t:Tok)(l:Addr)(items:Array Value)(n:Nat)(dd:Option Addr)(sl:Array (Option Value)) :
  Meets (Builtin.«int.__rmul__» ⟨[.int a t,.ref l],[]⟩) (fun _ R s=>s.heap.get? l=some {cls:=.type "tuple",dict:=dd,data:=.seq items n,slots:=sl}/\R (.ok (.ret Value.notImplemented)) s) :=
 .of_wp fun prog w A R s h=>by obtain⟨hp,g,d,tk,os⟩:=s;obtain⟨hl,h⟩:=h;wp_walk;exact⟨_,rfl,h⟩
theorem z6s(t:Tok)(l:Addr)(items:Array Value)(n:Nat)(dd:Option Addr)(sl:Array (Option Value)) :
  Meets (Builtin.«tuple.__mul__» ⟨[.ref l,.int 1 t],[]⟩) (fun _ R s=>s.heap.get? l=some {cls:=.type "tuple",dict:=dd,data:=.seq items n,slots:=sl}/\R (.ok (.ret (.ref l))) s) :=
 .of_wp fun prog w A R s h=>by obtain⟨hp,g,d,tk,os⟩:=s;obtain⟨hl,h⟩:=h;wp_walk;exact⟨_,rfl,h⟩
theorem z5N(t:Tok)(l:Addr)(items:Array Value)(n:Nat)(dd:Option Addr)(sl:Array (Option Value))(hne:items.isEmpty=false) :
  Meets (Builtin.«tuple.__mul__» ⟨[.ref l,.int 0 t],[]⟩) (fun _ R s=>s.heap.get? l=some {cls:=.type "tuple",dict:=dd,data:=.seq items n,slots:=sl}/\R (.ok (.ret (.ref s.heap.objs.size))) {s with heap:=s.heap.push {cls:=.type "tuple",data:=.seq #[]}}) :=
 .of_wp fun prog w A R s h=>by obtain⟨hp,g,d,tk,os⟩:=s;obtain⟨hl,h⟩:=h;wp_walk;exact⟨_,rfl,h⟩
section
variable {X:Cx}
def rRepT(K:PySem.W.Frag):R2:=fun x y H Q=>∃ a k xs,x=.ref a/\y=.int k/\SqT K H a xs/\xs≠[]/\((k=0/\∀ p,H p=none->Q (.ref p) (upd H p (.tup [])))\/(k=1/\Q (.ref a) H))
theorem zdz:OpR X (binaryOp .Mult) (rRepT X.K):=by
 intro pins s σ H x y v u Q I rx ry h
 obtain⟨a,k,xs,rfl,rfl,ha,hne,h⟩:=h
 cases rx
 obtain⟨t,rfl⟩:=ry
 obtain⟨its,r1,p1,_⟩:=I.tuple ha
 obtain⟨⟨cls,dd,data,sl⟩,ho,hc,n,hd⟩:=id p1
 simp only at hc hd
 subst hc hd
 refine wpAny_binaryOp_repeat_ref (T:="tuple") (U:="int") (by decide) ⟨_,ho,rfl⟩ (fun s'=>typeIs_int s' k t) z2N PySem.F.fills_int_mul PySem.F.slot_int_rmul z4D PySem.F.slot_int_index.lookup
  (call_meets PySem.F.slot_int_rmul (typeIs_int s k t) PySem.F.entry_int_rmul (PySem.F.args_int_rmul_2 _ _) (z3u k t a its.toArray n dd sl) ⟨ho,rfl,⟨_,ho,rfl⟩,?_⟩)
 rcases h with ⟨rfl,q⟩ | ⟨rfl,q⟩
 ·refine call_meets PySem.F.slot_tuple_mul ⟨_,ho,rfl⟩ PySem.F.entry_tuple_mul (PySem.F.args_tuple_mul_2 _ _) (z5N t a its.toArray n dd sl ?_) ⟨ho,?_⟩
  ·cases its with
   | nil=>exact absurd (r1.nil_iff.mp rfl) hne
   | cons _ _=>rfl
  ·exact⟨.ref s.heap.objs.size,_,I.laid (t':=s.toks) (o:=.tup []) (fun b ob q=>Heap.get?_push_of_some _ q) (Nat.le_refl _) ⟨Nat.zero_le _,_,.nil,IsTup.new _ _⟩,rfl,q _ (I.hok.fresh (Nat.le_refl _))⟩
 ·exact call_meets PySem.F.slot_tuple_mul ⟨_,ho,rfl⟩ PySem.F.entry_tuple_mul (PySem.F.args_tuple_mul_2 _ _) (z6s t a its.toArray n dd sl) ⟨ho,.ref a,H,I,rfl,q⟩
def gMulT:G2:=fun a b=>match a,b with
 | .tuple (x::xs),.int k=>if k=0 then some (.tuple []) else if k=1 then some (.tuple (x::xs)) else none
 | _,_=>none
theorem dmulT:DOp X (binaryOp .Mult) gMulT:=DOp.of zdz fun Z A H st x y dx dy d Q S hA rx ry e q=>by
 unfold gMulT at e
 split at e
 ·rename_i a as k
  obtain⟨p1,v1,ev1,h1,r1⟩:=rx.tuple
  have ey:=ry.int
  have l1:=r1.length
  refine⟨p1,k,v1,ev1,ey,h1,(fun z=>by rw[z]at l1;cases l1),?_⟩
  split at e
  ·rename_i h0
   cases e
   exact .inl ⟨h0,fun p hp=>q _ _ (Ext.upd hp) (S.upd hp) (.tup ze (zM hA hp) (S.notZ hp) .nil)⟩
  ·split at e
   ·rename_i h0
    cases e
    refine .inr ⟨h0,q _ H (Ext.refl H) S ?_⟩
    rw[<- ev1];exact rx.tup
   ·cases e
 ·cases e
end
end L3
namespace L3
open PySem L2 PyProof.Rows
section
variable {X:Cx} {st r:Stmt} {rest:List Stmt} {c:Expr} {C:Addr} {G:GS} {R:RS} {Ft:FT} {pos:Pos}
end
end L3
namespace L2
open PySem PySem.Spec PyProof.Rows
section
variable {X:Cx} {pins:List (Addr × Obj)} {σ:St} {H:Hp} {s:Shared} {E:XK} {E':Value->Shared->Prop}
end
section
variable {X:Cx} {n m:Nat} {e:Expr} {es:List Expr} {te:TE} {t:TJ} {p p2:Pos} {x:Str} {j:Nat}
end
end L2
namespace L2
open PySem PySem.Spec PyProof.Rows
section
variable {X:Cx} {x:Str} {C:Addr} {B newId initId:String} {bmB:List Value} {np cpos pos p2:Pos} {v1 v2:Expr} {es:List Expr} {t:TJ}
end
end L2
namespace L3
open PySem L2 PyProof.Rows
section
variable {X:Cx} {n:Nat} {e:Expr} {es:List Expr} {F:FE} {Fs:List FE} {p:Pos} {x:Str} {j:Nat}
end
section
variable {X:Cx} {st r:Stmt} {rest:List Stmt} {c:Expr} {C:Addr} {G:GS} {R R1:RS} {Ft:FT} {pos:Pos}
end
end L3
namespace L3
open PySem L2 PySem.Spec PyProof.Rows
theorem len_rep{α:Type}(xs:List α)(k:Nat):(List.replicate k xs).flatten.length=xs.length * k:=by
 induction k with
 | zero=>simp
 | succ k ih=>rw[List.replicate_succ,List.flatten_cons,List.length_append,ih,Nat.mul_succ,Nat.add_comm]
theorem z5O(k:Int)(t:Tok)(l:Addr)(items:Array Value)(n:Nat)(dd:Option Addr)(sl:Array (Option Value))(hne:items.isEmpty=false)(h2:2<=k)(h3:k<=1000)(hs:items.size<=1000) :
  Meets (Builtin.«tuple.__mul__» ⟨[.ref l,.int k t],[]⟩) (fun _ R s=>s.heap.get? l=some {cls:=.type "tuple",dict:=dd,data:=.seq items n,slots:=sl}/\R (.ok (.ret (.ref s.heap.objs.size))) {s with heap:=s.heap.push {cls:=.type "tuple",data:=.seq ((List.replicate k.toNat items).foldl (·++·) #[])}}) :=
 .of_wp fun prog w A R s h=>by
  obtain⟨hp,g,d,tk,os⟩:=s;obtain⟨hl,h⟩:=h
  have hmul:(items.size:Int) * k<=1000000:=by
   have:(items.size:Int) * k<=1000 * 1000:=Int.mul_le_mul (by omega) (by omega) (by omega) (by omega)
   omega
  have e1:¬ (decide (k < -(2 ^ 63)) || decide (k ≥ 2 ^ 63))=true:=by
   rw[decide_eq_false (by omega),decide_eq_false (by omega)];decide
  have e2:¬ (items.isEmpty || k == 1)=true:=by
   rw[hne,show(k == 1)=false from by simp;omega];decide
  have e3:¬ (decide (k<=0) || items.isEmpty)=true:=by
   rw[hne,decide_eq_false (by omega)];decide
  have e4:¬ ((items.size:Int) * k > (2 ^ 63 - 1) / 8):=by
   have:((2:Int) ^ 63 - 1) / 8=1152921504606846975:=by decide
   omega
  wp_walk
  rw[if_neg e1]
  wp_walk
  rw[if_neg e2]
  dsimp only
  rw[if_neg e3,if_neg e4]
  wp_walk
  rw[if_neg (show ¬ Builtin.Tuple.tupleTooMany ((items.size:Int) * k)=true by
   unfold Builtin.Tuple.tupleTooMany
   rw[decide_eq_true_eq]
   have:(sizeLine:Int)=16777216:=by decide
   omega)]
  have e6:(List.foldl (fun x1 x2=>x1++x2) #[] (List.replicate k.toNat items)).size<=sizeLine:=by
   obtain⟨its⟩:=items
   have f0:=z3V its k.toNat []
   rw[List.nil_append]at f0
   rw[show List.foldl (fun x1 x2=>x1++x2) #[] (List.replicate k.toNat its.toArray)=(List.replicate k.toNat its).flatten.toArray from f0,List.size_toArray,len_rep]
   have:its.length * k.toNat<=1000 * 1000:=Nat.mul_le_mul hs (by omega)
   exact Nat.le_trans this (by decide)
  wp_walk
  exact⟨_,rfl,h⟩
section
variable {X:Cx}
def rRepTN(K:PySem.W.Frag):R2:=fun x y H Q=>∃ a k xs,x=.ref a/\y=.int k/\SqT K H a xs/\xs≠[]/\xs.length<=1000/\2<=k/\k<=1000/\xs.length * k.toNat<=1000/\∀ p,H p=none->Q (.ref p) (upd H p (.tup (List.replicate k.toNat xs).flatten))
theorem zbR{xs:List V}{us:List Value}(h:Vals xs us)(k:Nat):Vals (List.replicate k xs).flatten (List.replicate k us).flatten:=by
 induction k with
 | zero=>exact .nil
 | succ k ih=>rw[List.replicate_succ,List.replicate_succ,List.flatten_cons,List.flatten_cons];exact h.append ih
theorem zbS:OpR X (binaryOp .Mult) (rRepTN X.K):=by
 intro pins s σ H x y v u Q I rx ry h
 obtain⟨a,k,xs,rfl,rfl,ha,hne,hl,h2,h3,hz,q⟩:=h
 cases rx
 obtain⟨t,rfl⟩:=ry
 obtain⟨its,r1,p1,_⟩:=I.tuple ha
 obtain⟨⟨cls,dd,data,sl⟩,ho,hc,n,hd⟩:=id p1
 simp only at hc hd
 subst hc hd
 have il:its.length=xs.length:=r1.length.symm
 refine wpAny_binaryOp_repeat_ref (T:="tuple") (U:="int") (by decide) ⟨_,ho,rfl⟩ (fun s'=>typeIs_int s' k t) z2N PySem.F.fills_int_mul PySem.F.slot_int_rmul z4D PySem.F.slot_int_index.lookup
  (call_meets PySem.F.slot_int_rmul (typeIs_int s k t) PySem.F.entry_int_rmul (PySem.F.args_int_rmul_2 _ _) (z3u k t a its.toArray n dd sl) ⟨ho,rfl,⟨_,ho,rfl⟩,?_⟩)
 refine call_meets PySem.F.slot_tuple_mul ⟨_,ho,rfl⟩ PySem.F.entry_tuple_mul (PySem.F.args_tuple_mul_2 _ _) (z5O k t a its.toArray n dd sl ?_ h2 h3 (by simp;omega)) ⟨ho,?_⟩
 ·cases its with
  | nil=>exact absurd (r1.nil_iff.mp rfl) hne
  | cons _ _=>rfl
 ·have f0:List.foldl (fun x1 x2=>x1++x2) #[] (List.replicate k.toNat its.toArray)=(List.replicate k.toNat its).flatten.toArray:=by
   have:=z3V its k.toNat []
   rw[List.nil_append]at this
   exact this
  rw[f0]
  have rv:=zbR r1 k.toNat
  exact⟨.ref s.heap.objs.size,_,I.laid (t':=s.toks) (o:=.tup (List.replicate k.toNat xs).flatten) (fun b ob q=>Heap.get?_push_of_some _ q) (Nat.le_refl _) ⟨by rw[len_rep];exact Nat.le_trans hz (by decide),_,rv,IsTup.new _ _⟩,rfl,q _ (I.hok.fresh (Nat.le_refl _))⟩
def gMulTN:G2:=fun a b=>match a,b with
 | .tuple (x::xs),.int k=>if 2<=k/\k<=1000/\(x::xs).length * k.toNat<=1000 then some (.tuple (List.replicate k.toNat (x::xs)).flatten) else none
 | _,_=>none
theorem dmulTN:DOp X (binaryOp .Mult) gMulTN:=DOp.of zbS fun Z A H st x y dx dy d Q S hA rx ry e q=>by
 unfold gMulTN at e
 split at e
 ·rename_i a as k
  obtain⟨p1,v1,ev1,h1,r1⟩:=rx.tuple
  have ey:=ry.int
  have l1:=r1.length
  split at e
  ·rename_i h0
   cases e
   have hlen:(a::as).length<=1000:=by
    have h5:=h0.2.2
    have:(a::as).length * 1<=(a::as).length * k.toNat:=Nat.mul_le_mul_left _ (by omega)
    omega
   exact⟨p1,k,v1,ev1,ey,h1,(fun z=>by rw[z]at l1;cases l1),by omega,h0.1,h0.2.1,by rw[l1];exact h0.2.2,fun p hp=>q _ _ (Ext.upd hp) (S.upd hp) (.tup ze (zM hA hp) (S.notZ hp) ((r1.rep k.toNat).fresh hp |>.sub fun q hq=>List.mem_cons_of_mem _ hq))⟩
  ·cases e
 ·cases e
section
variable {o:Expr} {Fo:FE} {m:Str} {pos apos:Pos}
theorem z4X{tab:List (Str × GF)}{k':Nat}{pl:Sem Bool}(ht:∀ c g,tab.lookup c=some g->∃ k,k<=k'/\MCal X.prog X.w X.K X.mg X.base c m k g)(hr:Room k' X.A)(ho:DE X o Fo)
  (hev:eval (.Call (.Attribute o m apos) [] [] pos) X.env=(do
   let ov <- eval o X.env
   standAt apos.atName
   let (f,first) <- holding [ov] (getMethod ov m pl)
   callWith pos f first (backTo pos (starEach [] X.env)) (backToKw pos (keywordEach [] X.env))):=by rfl) :
  DE X (.Call (.Attribute o m apos) [] [] pos) (fMeth tab m Fo aNil):=⟨fun Z A pins s σ H Q I zgi=>by
 obtain⟨B,ow,δ,st,d,st',R,S,ee,q⟩:=zgi
 unfold fMeth at ee
 first | refine bnd2 ee fun dx s1 e1 ee=>?_ | refine mpp2 ee fun dx s1 e1 ee=>?_
 try simp only[Option.bind_some]at ee
 split at ee
 ·rename_i e0 c fs
  split at ee
  ·rename_i hno
   first | refine bnd1 ee fun g e2 ee=>?_ | refine mpp1 ee fun g e2 ee=>?_
   try simp only[Option.bind_some]at ee
   replace ee:g (.dict ((.str e0,.str c)::fs)::[]) s1=some (d,st'):=ee
   obtain⟨k,hk,mc⟩:=ht c g e2
   obtain⟨C,f,fd,ps,kC,cl,me,G,hb⟩:=mc
   refine zbw (pl:=pl) (E:=E0) (ho Z A) cl me G (hr.mono hk) hb .nil pass0 hev pins s σ H Q I ⟨B,ow,δ,st,_,s1,R,S,e1,fun v H1 x1 S1 r=>?_⟩
   obtain⟨p,C',dxx,ns,vs,fds,rfl,kC',h,rs,efs⟩:=r.w.object
   rw[kC]at kC'
   cases kC'
   have hnone:lookF m ((ns.map PyData.str).zip fds)=none:=by rw[<- efs];simpa using hno
   refine⟨p,dxx,_,rfl,h,rs.nofield hnone,?_⟩
   show spD X.K g (V.ref p::([]++[])) H1 Q E0
   refine⟨Z,A++ow.map (·.2),[_],s1,d,st',.cons r .nil,fun q hq=>?_,S1,ee,fun v H' a b c=>q v H' (x1.trans a) b c⟩
   refine⟨(R.mono x1).all q hq,?_⟩
   rcases List.mem_append.mp hq with h | h
   ·exact(R.ok q h).2
   ·obtain⟨⟨i,p⟩,hp,rfl⟩:=List.mem_map.mp h
    exact(R.ows i p hp).2.2.1
  ·cases ee
 ·cases ee⟩
end
def gAnyI:G1:=fun d=>match d with | .list xs=>(intsOf xs).map fun ks=>.bool (ks.any fun k=>decide (k≠0)) | _=>none
theorem z9o(ks:List Int):(List.range ks.length).any (fun i=>decide (ks.getD i 0≠0))=ks.any fun k=>decide (k≠0):=by
 induction ks with
 | nil=>rfl
 | cons k r ih =>
  rw[List.length_cons,List.range_succ_eq_map,List.any_cons,List.any_map,List.any_cons,<- ih]
  congr 1
theorem zdA(hc:X.calm=true):CallR X (.builtin "any") (rD1 X.K gAnyI):=fun pins s σ H xs us Q I rv zgj=>by
 obtain⟨Z,A,st,x,dx,d,e0,S,hA,rx,e,q⟩:=zgj
 subst e0
 obtain⟨u,rfl,ru⟩:=vals1 rv
 cases dx with
 | list ds =>
  replace e:((intsOf ds).map fun ks=>PyData.bool (ks.any fun k=>decide (k≠0)))=some d:=e
  first | refine bnd1 e fun ks e1 e=>?_ | refine mpp1 e fun ks e1 e=>?_
  cases e
  have eds:=z4W e1
  subst eds
  obtain⟨p,vs,ev,sq,_,rs⟩:=rx.list
  subst ev
  cases (show u=Value.ref p from ru)
  obtain⟨its,r2,pl,_⟩:=I.list sq
  have hl:=pl.isList
  have lens:its.length=ks.length:=by rw[<- r2.length,rs.length,List.length_map]
  refine call_any_walk (wpAny_pyIter_list hl ?_)
  have lt:LT.lt (α:=Nat) p s.heap.objs.size:=by obtain⟨_,e,_⟩:=hl;exact Heap.lt_size e
  refine⟨_,_,_,_,_,_,fun i=>decide (ks.getD i 0≠0),rfl,Walks.list (A:=X.A.in1) (show X.A.in1.handled=none from I.ok.hd hc) s.heap.objs.size p (Nat.ne_of_lt lt) its.toArray,⟨⟨_,Heap.get?_push_size _ rfl,rfl,rfl⟩,hl.push _⟩,?_,fun h' tk kp=>?_⟩
  ·intro i v s' Q' E' hP hQ
   have hi:its[i]?=some v:=by simpa using hP
   obtain⟨vv,h1,h2⟩:∃ vv,vs[i]?=some vv/\RelV vv v:=by
    cases e3:vs[i]? with
    | none=>rw[r2.none_of e3]at hi;cases hi
    | some vv=>obtain⟨u',h3,h4⟩:=r2.get e3;rw[h3]at hi;cases hi;exact⟨vv,rfl,h4⟩
   obtain⟨dd,h3,h4⟩:=rs.at h1
   rw[List.getElem?_map]at h3
   cases e4:ks[i]? with
   | none=>rw[e4]at h3;cases h3
   | some k =>
    rw[e4]at h3
    cases h3
    cases h4
    obtain⟨tk,rfl⟩:=h2
    refine PyProof.Rows.truthy_int ?_
    have eg:ks.getD i 0=k:=by simp[e4]
    have hQ2:Q' (decide (ks.getD i 0≠0)) s':=hQ
    rw[eg]at hQ2
    have hb:(k != 0)=decide (k≠0):=by rw[decide_not];rfl
    rw[hb];exact hQ2
  ·have e5:(List.range its.toArray.size).any (fun i=>decide (ks.getD i 0≠0))=ks.any (fun k=>decide (k≠0)):=by rw[List.size_toArray,lens];exact z9o ks
   rw[e5]
   refine⟨.bl _,H,?_,rfl,q _ H (Ext.refl H) S (.bl _)⟩
   refine I.kept (h':=h') (t':=tk) fun b o eb=>kp b o ?_ (Heap.get?_push_of_some _ eb)
   intro z
   have z':b=s.heap.objs.size:=by simpa using z
   rw[z']at eb
   exact Nat.lt_irrefl _ (Heap.lt_size eb)
 | _=>cases e
def gMulTA:G2:=fun a b=>(gMulT a b).or (gMulTN a b)
theorem dmulTA:DOp X (binaryOp .Mult) gMulTA:=DOp.or dmulT dmulTN
end
end L3
namespace L3
open PySem L2 PySem.Spec PyProof.Rows
def compChkC(sc:Scope)(N0:List Str)(scope:Scope)(N:List Str)(k:Nat)(fr:List Nat)(x0:Str):Bool :=
 decide (scope.kind=.function) && decide (sc.kind=.function) && scope.names.all (fun y=>decide (y.2≠.cell) || decide (y.1=x0)) && scope.names.all (fun y=>!decide (y.2=.local) || decide (scope.names.lookup y.1=some .local)) &&
 scope.names.all (fun y=>!decide (y.2=.free) || decide (sc.names.lookup y.1=some .cell)) && decide (N.length=k + fr.length) &&
 (List.range fr.length).all fun t=>match fr[t]?,N[k + t]? with | some j,some x=>decide (N0[j]?=some x) && decide (scope.names.lookup x=some .free) && decide (x≠x0) | _,_=>false
theorem compOkC1{X:Cx}{sc:Scope}{N0:List Str}{scope:Scope}{N:List Str}{k:Nat}{fr:List Nat}{x0:Str}(lay:∀ n acc,cellsFrom n scope.names acc=(x0,n)::acc)(push:∀ h,pushCells h scope.names=h.push {cls:=.type "cell",data:=.cell none})(hsc:X.env.scope=sc)(hN:X.N=N0)(h:compChkC sc N0 scope N k fr x0=true)(hc:∀ x,X.env.scope.names.lookup x=some .cell->∃ c,X.env.cells.lookup x=some c) :
  CompOkC X scope (clOf X.env.cells scope.names []) N k fr x0:=by
 subst hsc hN
 simp only[compChkC,Bool.and_eq_true,decide_eq_true_eq,List.all_eq_true,Bool.or_eq_true,Bool.not_eq_true',decide_eq_false_iff_not]at h
 obtain⟨⟨⟨⟨⟨⟨h1,h2⟩,h3⟩,h4⟩,h5⟩,h6⟩,h7⟩:=h
 have hfree:∀ y∈scope.names,y.2=.free->X.env.scope.names.lookup y.1=some .cell:=fun y hy e=>(h5 y hy).elim (fun z=>absurd e z) id
 have hcl:∀ y∈scope.names,y.2=.free->∃ c,X.env.cells.lookup y.1=some c:=fun y hy e=>hc _ (hfree y hy e)
 have hmem:∀ x,(x,NameKind.free)∈scope.names->∃ c,(clOf X.env.cells scope.names []).lookup x=some c:=fun x hx=>by
  obtain⟨c,h⟩:=z6p (cells:=X.env.cells) (cs:=[]) hx
  exact z1c h
 have lab:∀ x kd,scope.names.lookup x=some kd->(relabel scope X.env).names.lookup x=some (if kd=.free then .cell else kd):=fun x kd hx =>
  z1v (scope:=scope) (env:=X.env) (fun y hy e=>⟨h2,hfree y hy e⟩) hx
 refine⟨h1,fun y hy e=>(h4 y hy).elim (fun z=>absurd e z) id,lay,push,z41 hcl,fun x c hx=>?_,fun x nx hx=>?_,h6,fun t j x ht hx=>?_⟩
 ·rcases z6o (z1s hx) with h | ⟨h,e⟩
  ·exact nomatch h
  ·obtain⟨c',hc'⟩:=hcl _ h rfl
   simp only at hc'
   rw[e,hc'];rfl
 ·cases e:scope.names.lookup x with
  | none =>
   have:=z2Y (env:=X.env) e
   rcases hx with hx | hx
   ·rw[show(relabel scope X.env).names.lookup x=none from this]at hx;cases hx
   ·rw[show(relabel scope X.env).names.lookup x=none from this]at hx;cases hx
  | some kd =>
   have hl:=lab x kd e
   have hm:=z1s e
   by_cases hk:kd=.free
   ·subst hk;exact hmem x hm
   ·rw[if_neg hk]at hl
    have nc:=h3 _ hm
    simp only at nc
    rcases hx with hx | hx
    ·rw[hl]at hx;cases hx;exact absurd (nc.resolve_left (fun z=>z rfl)) nx
    ·rw[hl]at hx;cases hx;exact absurd rfl hk
 ·have htl:t < fr.length:=(List.getElem?_eq_some_iff.mp ht).1
  have h8:=h7 t (List.mem_range.mpr htl)
  rw[ht,hx]at h8
  simp only[Bool.and_eq_true,decide_eq_true_eq]at h8
  obtain⟨⟨h9,h10⟩,h11⟩:=h8
  have hm:=z1s h10
  have hcell:=hfree _ hm rfl
  simp only at hcell
  refine⟨h11,h9,.inr (.inl hcell),hmem x hm,.inl ?_,fun z=>by rw[hcell]at z;cases z⟩
  have:=lab x _ h10
  rw[if_pos rfl]at this
  exact this
def relabelS(scope sc:Scope):Scope:={scope with names:=scope.names.map fun(n,k)=>if (k == .free && sc.kind == .function && sc.names.lookup n == some .cell) then (n,.cell) else (n,k)}
theorem CompOkC.cells{X:Cx}{scope:Scope}{cl:List (Str × Addr)}{N:List Str}{k:Nat}{fr:List Nat}{x0:Str}(ok:CompOkC X scope cl N k fr x0)(C:Addr)(s:Shared)(H:Hp)(ex:List Addr):∀ x,(compCxC X scope cl N x0 C s H ex).env.scope.names.lookup x=some .cell->∃ c,(compCxC X scope cl N x0 C s H ex).env.cells.lookup x=some c:=fun x hx=>by
 by_cases h0:x=x0
 ·exact⟨C + 1,by show((x0,C + 1)::cl).lookup x=_;rw[h0];simp⟩
 ·obtain⟨c,e⟩:=ok.has x h0 (.inl hx)
  refine⟨c,?_⟩
  show((x0,C + 1)::cl).lookup x=_
  rw[List.lookup_cons,show(x == x0)=false from beq_eq_false_iff_ne.mpr h0];exact e
section
variable {X:Cx} {tg iter elt e:Expr} {es:List Expr} {T:Tgt} {F:FE} {Fi:FI} {Ft:FT} {G:GS} {body:List Stmt} {pos:Pos}
theorem zbT{x0:Str}{i:Nat}{x:Str}{py spos:Pos}{k:Nat}{fr:List Nat}{scope:Scope}{cl:List (Str × Addr)}{N:List Str}{ifs:List Expr}(hN:X.N.Nodup)(ok:CompOkC X scope cl N k fr x0)(hT:∀ i∈T.slots,i < k)(hi:DI X tg iter Fi)
  (hg:∀ C s H ex,DG (compCxC X scope cl N x0 C s H ex) tg T) (ht:∀ C s H ex,DIfs (compCxC X scope cl N x0 C s H ex) ifs Ft) (he:∀ C s H ex,DE (compCxC X scope cl N x0 C s H ex) elt F)
  (hsw:swapsWith (.ListComp elt [⟨tg,iter,ifs,0⟩] scope pos) (some (.Name x py)) spos.line X.env=pure true) (hi':X.N[i]?=some x:=by rfl) (hx:Loc X.env.scope x:=by first | exact Or.inl rfl | exact Or.inr rfl)
  (hc:X.calm=true:=by rfl) (hs:∀ x,foldedSetIterable iter X.env x=pure x:=by intro _;rfl) (hf:X.fn x=true\/X.env.scope.names.lookup x=some .local:=by first | exact .inl rfl | exact .inr rfl | assumption) :
  DS X (.Assign [.Name x py] (.ListComp elt [⟨tg,iter,ifs,0⟩] scope pos) spos) (sSetL i (fComp k fr Fi T Ft F)):=⟨fun Z A pins s σ H E I zgk=>by
 obtain⟨ow,δ,st,o,st',R,S,e,q⟩:=zgk
 unfold sSetL at e
 first | refine bnd1 e fun r e0 e=>?_ | refine mpp1 e fun r e0 e=>?_
 cases e
 unfold fComp at e0
 first | refine bnd2 e0 fun src s1 e1 e0=>?_ | refine mpp2 e0 fun src s1 e1 e0=>?_
 replace e0:(if small src=true then compD T Ft F (compDl k fr δ) src s1 else none)=some r:=e0
 split at e0
 ·rename_i hsm
  refine zbG (g:=tDG X.K Z (A++ow.map (·.2)) T) (tt:=tDT X Z (A++ow.map (·.2)) Ft) (te:=tD X Z (A++ow.map (·.2)) F) hN hi' hx ok hc (hi Z A) (fun C s H ex=>hg C s H ex Z _) (fun C s H ex=>ht C s H ex Z _) (fun C s H ex=>he C s H ex Z _) hsw hs hf pins s σ H E I
   ⟨_,ow,δ,st,src,s1,R,S,e1,fun J H1 x1 S1 sr=>z5g (s':=r.2) (rs:=r.1) hT (R.mono x1) S1 sr hsm e0 fun ys H2 x2 S2 rs hl=>⟨hl,fun p hp=>?_⟩⟩
  have R2:=((R.mono x1).mono x2).mono (Ext.upd (o:=.lst ys) hp)
  obtain⟨R3,f3⟩:=R2.set (i:=i) (v:=.ref p) (d:=.list r.1) (.lst ze (zM ((R.mono x1).mono x2).all hp) (S2.notZ hp) (rs.ext (Ext.upd hp)))
  exact q _ _ _ R3 (S2.upd hp) ((Frm.ext ((x1.trans x2).trans (Ext.upd hp))).trans f3)
 ·cases e0⟩
end
end L3
namespace L3
open PySem L2 PySem.Spec PyProof.Rows
section
variable {X:Cx} {o:Expr} {f:Str} {pos:Pos} {ta:TE}
def gFldT(K:PySem.W.Frag)(ta:TE)(f:Str):TG:=fun v σ H Q=>ta σ H fun x H1=>∃ a C dx fs,x=.ref a/\H1 a=some (.ins C dx fs)/\Cls K C/\NoAttr K C f/\fs.length < 1000/\Q σ (upd H1 a (.ins C dx (putF f v fs)))
theorem zaA(ho:PE X o ta):PG X (.Attribute o f pos) (gFldT X.K ta f):=by
 intro pins s σ H v u Q I r h
 rw[assign_Attribute]
 refine wpAny_bind (wpAny_holding (thn (ho pins s σ H _ I h) fun ov s1 zgl=>?_))
 obtain⟨x,H1,I1,rx,a,C,dx,fs,ex,ea,c,n,l,q⟩:=zgl
 subst ex
 obtain rfl:ov=Value.ref a:=rx
 exact wpAny_bind (wpAny_standAt (wpAny_bind (wpAny_holding (z4e I1 ea c n l r fun s3 I3=>wpAny_release ⟨σ,_,I3,q⟩))))
end
theorem Reps.offT{K:PySem.W.Frag}{Z:Zt}{H:Hp}{A B:List Addr}(hB:∀ q∈B,∀ vs,H q≠some (.tup vs)){vs:List V}{ds:List D}(r:Reps K Z H A vs ds):noLists ds=true->Reps K Z H (B++A) vs ds :=
 Reps.rec (motive_1:=fun v d _=>noList d=true->Rep K Z H (B++A) v d) (motive_2:=fun vs ds _=>noLists ds=true->Reps K Z H (B++A) vs ds) (fun _=>.non) (fun b _=>.bl b) (fun i _=>.int i) (fun x _=>.str x)
  (fun h n z _ r e=>.tup h (fun m=>(List.mem_append.mp m).elim (fun m=>hB _ m _ h) n) z (r e)) (fun _ _ _ _ _ e=>absurd e Bool.false_ne_true) (fun h _ r e=>.mod h (r e)) (fun _ e=>absurd e Bool.false_ne_true)
  (fun _ _ _ _ _ _ e=>absurd e Bool.false_ne_true) (fun _=>.nil) (fun _ _ r t e=>.cons (r ((Bool.and_eq_true _ _).mp e).1) (t ((Bool.and_eq_true _ _).mp e).2)) r
theorem Rep.offT{K:PySem.W.Frag}{Z:Zt}{H:Hp}{A B:List Addr}(hB:∀ q∈B,∀ vs,H q≠some (.tup vs)){v:V}{d:D}(r:Rep K Z H A v d)(e:noList d=true):Rep K Z H (B++A) v d:=Reps.head (Reps.offT hB (.cons r .nil) (by rw[noLists,e];rfl))
structure Men where
 f:D
 o:D
 rs:List D
 b:D
 l:D
 u:D
 n:D
def nsM:List Str:=["field","off","rises","below","failed","fault","since"]
def Men.fds(m:Men):List D:=[m.f,m.o,.list m.rs,m.b,m.l,m.u,m.n]
def Men.d(m:Men):D:=.dict ((.str "",.str "Mender")::(nsM.map PyData.str).zip m.fds)
inductive MAt(K:PySem.W.Frag)(Z:Zt)(H:Hp)(A:List Addr)(C p q dx:Addr)(m:Men):Prop
 | mk (vf vo vb vl vu vn:V) (rv:List V) (hp:H p=some (.ins C dx (nsM.zip [vf,vo,.ref q,vb,vl,vu,vn]))) (hq:H q=some (.lst rv))
  (rf:Rep K Z H (p::q::A) vf m.f) (ro:Rep K Z H (p::q::A) vo m.o) (rb:Rep K Z H (p::q::A) vb m.b) (rl:Rep K Z H (p::q::A) vl m.l) (ru:Rep K Z H (p::q::A) vu m.u) (rn:Rep K Z H (p::q::A) vn m.n) (rr:Reps K Z H (p::q::A) rv m.rs)
section
variable {K:PySem.W.Frag} {Z:Zt} {H H':Hp} {A:List Addr} {C p q dx:Addr} {m:Men}
theorem sub2:∀ b∈A,b∈p::q::A:=fun b h=>List.mem_cons_of_mem _ (List.mem_cons_of_mem _ h)
theorem MAt.rep(M:MAt K Z H A C p q dx m)(kC:PySem.W.nsIn K mainGlobals "Mender"=some (some (.ref C)))(np:¬ p∈A)(nq:¬ q∈A)(zp:NotZ Z p)(zq:NotZ Z q):Rep K Z H A (.ref p) m.d:=by
 obtain⟨vf,vo,vb,vl,vu,vn,rv,hp,hq,rf,ro,rb,rl,ru,rn,rr⟩:=M
 exact .obj (ns:=nsM) (ds:=m.fds) kC hp np zp (.cons (rf.sub sub2) (.cons (ro.sub sub2) (.cons (.lst hq nq zq (rr.sub sub2)) (.cons (rb.sub sub2) (.cons (rl.sub sub2) (.cons (ru.sub sub2) (.cons (rn.sub sub2) .nil)))))))
def Kp(Z:Zt)(p q:Addr)(H H':Hp):Prop:=∀ b o,H b=some o->NotZ Z b->b≠p->b≠q->H' b=some o
theorem Kp.of(e:Ext Z H H'):Kp Z p q H H':=fun b o h n _ _=>e b o h n
theorem Kp.trans{H1 H2 H3:Hp}(a:Kp Z p q H1 H2)(b:Kp Z p q H2 H3):Kp Z p q H1 H3:=fun c o h n x y=>b c o (a c o h n x y) n x y
theorem Kp.updP{o:HO}:Kp Z p q H (upd H p o):=fun b u e _ n _=>by rw[zd n];exact e
theorem Reps.kp(k:Kp Z p q H H'){vs:List V}{ds:List D}(r:Reps K Z H (p::q::A) vs ds):Reps K Z H' (p::q::A) vs ds:=r.move fun b o h n z=>⟨k b o h z (fun e=>n (by rw[e];exact List.mem_cons_self)) (fun e=>n (by rw[e];exact List.mem_cons_of_mem _ List.mem_cons_self)),n⟩
theorem Rep.kp(k:Kp Z p q H H'){v:V}{d:D}(r:Rep K Z H (p::q::A) v d):Rep K Z H' (p::q::A) v d:=Reps.head (Reps.kp k (.cons r .nil))
theorem MAt.ext(M:MAt K Z H A C p q dx m)(zp:NotZ Z p)(zq:NotZ Z q)(e:Ext Z H H'):MAt K Z H' A C p q dx m:=by
 obtain⟨vf,vo,vb,vl,vu,vn,rv,hp,hq,rf,ro,rb,rl,ru,rn,rr⟩:=M
 exact⟨vf,vo,vb,vl,vu,vn,rv,e _ _ hp zp,e _ _ hq zq,rf.ext e,ro.ext e,rb.ext e,rl.ext e,ru.ext e,rn.ext e,rr.ext e⟩
theorem MAt.off(M:MAt K Z H A C p q dx m){v:V}{d:D}(r:Rep K Z H A v d)(e:noList d=true):Rep K Z H (p::q::A) v d:=by
 obtain⟨vf,vo,vb,vl,vu,vn,rv,hp,hq,_⟩:=M
 exact r.offT (B:=[p,q]) (fun b hb vs z=>by
  rcases List.mem_cons.mp hb with h | h
  ·rw[h,hp]at z;cases z
  ·rw[List.mem_singleton.mp h,hq]at z;cases z) e
end
def spG(K:PySem.W.Frag)(C:Addr)(g:Men->D->Sx->Option (Men × Sx)):Sp:=fun vs H Q _=>∃ Z A p q dx w m rd s m' s',vs=[.ref p,w]/\MAt K Z H A C p q dx m/\¬ p∈A/\¬ q∈A/\NotZ Z p/\NotZ Z q/\Rep K Z H (p::q::A) w rd /\
 (∀ b∈A,(∃ o,H b=some o)/\NotZ Z b)/\StateAt Z H s/\g m rd s=some (m',s')/\∀ H',Kp Z p q H H'->StateAt Z H' s'->MAt K Z H' A C p q dx m'->Q .non H'
def gGrow(F0:FE)(c1:FT)(F2:FE)(c3:FT)(F4 F5:FE)(c6:FT)(Fp:FE):Men->D->Sx->Option (Men × Sx):=fun m rd s =>
 (F0 [.val m.d,.val rd,.non,.non,.non,.non] s).bind fun p0 =>
 (c1 [.val m.d,.val rd,.val p0.1,.non,.non,.non] p0.2).bind fun k1=>if k1.1=true then some (m,k1.2) else
 (F2 [.val m.d,.val rd,.val p0.1,.non,.non,.non] k1.2).bind fun p2 =>
 (c3 [.val m.d,.val rd,.val p0.1,.val p2.1,.non,.non] p2.2).bind fun k3=>if k3.1=true then (match m.n with | .int n=>some ({m with n:=.int (n + 1)},k3.2) | _=>none) else
 (F4 [.val m.d,.val rd,.val p0.1,.val p2.1,.non,.non] k3.2).bind fun p4 =>
 (F5 [.val m.d,.val rd,.val p0.1,.val p2.1,.val p4.1,.non] p4.2).bind fun p5 =>
 (c6 [.val m.d,.val rd,.val p0.1,.val p2.1,.val p4.1,.val p5.1] p5.2).bind fun k6=>if noList p4.1=true then
  (if k6.1=true then (Fp [.val m.d,.val rd,.val p0.1,.val p2.1,.val p4.1,.val p5.1] k6.2).bind fun pp =>
   if noList pp.1=true/\noList p2.1=true/\m.rs.length < 1000 then some ({m with rs:=m.rs++[pp.1],l:=m.b,u:=p2.1,n:=.int 1,b:=p4.1},pp.2) else none
  else match m.n with | .int n=>some ({m with n:=.int (n + 1),b:=p4.1},k6.2) | _=>none) else none
end L3
namespace L3
open PySem L2 PySem.Spec PyProof.Rows
def tGrow(K:PySem.W.Frag)(Z:Zt)(A:List Addr)(F0:FE)(c1:FT)(F2:FE)(c3:FT)(F4 F5:FE)(c6:FT)(Fp:FE):TS :=
 tSeq (tAsg (tDK K Z A F0) (gName 2))
 (tSeq (tIfS (tDTK K Z A c1) tRetN tNext)
 (tSeq (tAsg (tDK K Z A F2) (gName 3))
 (tSeq (tIfS (tDTK K Z A c3) (tSeq (sFldAug K (tVar 0) (tC (.int 1)) rAdd "since") tRetN) tNext)
 (tSeq (tAsg (tDK K Z A F4) (gName 4))
 (tSeq (tAsg (tDK K Z A F5) (gName 5))
 (tSeq (tIfS (tDTK K Z A c6)
  (tSeq (tDrop (tBM K "list" rAppend (tFld K (tVar 0) "rises") (tCons (tDK K Z A Fp) tNil)))
   (tAsg (tTup (tCons (tFld K (tVar 0) "below") (tCons (tVar 3) (tCons (tC (.int 1)) tNil)))) (gTup K 3 (gCons (gFldT K (tVar 0) "failed") (gCons (gFldT K (tVar 0) "fault") (gCons (gFldT K (tVar 0) "since") gNil))))))
  (sFldAug K (tVar 0) (tC (.int 1)) rAdd "since"))
 (sFld K (tVar 0) (tVar 4) "below")))))))
section
variable {K:PySem.W.Frag} {Z:Zt} {A:List Addr} {C p q dx:Addr} {m m':Men}
theorem len7{a b c d e f g:V}:(nsM.zip [a,b,c,d,e,f,g]).length < 1000:=by show 7 < 1000;decide
theorem len3'{a b c:V}:[a,b,c].length<=sizeLine:=by show 3<=sizeLine;decide
theorem rep0{H:Hp}{v:V}{d:D}(r:Rep K Z H (A++([]:Ow).map (·.2)) v d):Rep K Z H A v d:=r.sub fun b h=>List.mem_append_left _ h
theorem rep1{H:Hp}{v:V}{d:D}(r:Rep K Z H A v d):Rep K Z H (A++([]:Ow).map (·.2)) v d:=r.sub fun b h=>by simpa using h
theorem z9p{F0:FE}{c1:FT}{F2:FE}{c3:FT}{F4 F5:FE}{c6:FT}{Fp:FE}{H:Hp}{w:V}{rd:D}{s s':Sx}{Q:VK}{E:XK}(cl:Cls K C)(na:∀ x∈nsM,NoAttr K C x)(kC:PySem.W.nsIn K mainGlobals "Mender"=some (some (.ref C)))
  (M:MAt K Z H A C p q dx m) (np:¬ p∈A) (nq:¬ q∈A) (zp:NotZ Z p) (zq:NotZ Z q) (rw:Rep K Z H (p::q::A) w rd) (hA:∀ b∈A,(∃ o,H b=some o)/\NotZ Z b) (S:StateAt Z H s)
  (e:gGrow F0 c1 F2 c3 F4 F5 c6 Fp m rd s=some (m',s')) (hQ:∀ H',Kp Z p q H H'->StateAt Z H' s'->MAt K Z H' A C p q dx m'->Q .non H') :
  tGrow K Z A F0 c1 F2 c3 F4 F5 c6 Fp {nx:=fun _ H'=>Q .non H',rt:=Q} [some (.ref p),some w,none,none,none,none] H:=by
 have hst:∀ {H1:Hp} {v0 v3 v4 v5:Option V} {d0 d3 d4 d5:Ce},Ext Z H H1->RepS K H Z A [] [some (.ref p),some w,v0,v3,v4,v5] [.val m.d,.val rd,d0,d3,d4,d5] H1->RepS K H Z A [] [some (.ref p),some w,v0,v3,v4,v5] [.val m.d,.val rd,d0,d3,d4,d5] H1:=fun _ r=>r
 have R0:RepS K H Z A [] [some (.ref p),some w,none,none,none,none] [.val m.d,.val rd,.non,.non,.non,.non] H:={
  ok:=hA
  ext:=Ext.refl H
  len:=rfl
  val:=fun i d h=>by
   match i,h with
   | 0,h=>cases h;exact⟨_,rfl,rep1 (M.rep kC np nq zp zq)⟩
   | 1,h=>cases h;exact⟨_,rfl,rep1 (rw.sub sub2)⟩
   | 2,h=>cases h
   | 3,h=>cases h
   | 4,h=>cases h
   | 5,h=>cases h
   | n + 6,h=>cases h
  own:=fun i xs h=>by
   match i,h with
   | 0,h=>cases h
   | 1,h=>cases h
   | 2,h=>cases h
   | 3,h=>cases h
   | 4,h=>cases h
   | 5,h=>cases h
   | n + 6,h=>cases h
  ows:=fun i p h=>nomatch h
  inj:=fun i j p h=>nomatch h}
 unfold gGrow at e
 refine bnd2 e fun d0 s0 e0 e=>?_
 refine bnd2 e fun k1 s1 e1 e=>?_
 refine⟨H,[],_,s,d0,s0,R0,S,e0,fun v0 H1 x1 S1 r1=>?_⟩
 have R1:=((R0.mono x1).set (i:=2) r1).1
 refine⟨H,[],_,s0,k1,s1,R1,S1,e1,fun H2 x2 S2=>?_⟩
 have x02:=x1.trans x2
 have R2:=R1.mono x2
 replace e:(if k1=true then some (m,s1) else _)=some (m',s'):=e
 cases k1 with
 | true =>
  cases e
  rw[if_pos rfl]
  exact hQ H2 (Kp.of x02) S2 (M.ext zp zq x02)
 | false =>
  rw[if_neg Bool.false_ne_true]
  rw[if_neg Bool.false_ne_true]at e
  refine bnd2 e fun d2 s2 e2 e=>?_
  refine bnd2 e fun k3 s3 e3 e=>?_
  refine⟨H,[],_,s1,d2,s2,R2,S2,e2,fun v2 H3 x3 S3 r3=>?_⟩
  have R3:=((R2.mono x3).set (i:=3) r3).1
  refine⟨H,[],_,s2,k3,s3,R3,S3,e3,fun H4 x4 S4=>?_⟩
  have x04:=(x02.trans x3).trans x4
  have R4:=R3.mono x4
  cases k3 with
  | true =>
   rw[if_pos rfl]
   replace e:(match m.n with | .int n=>some ({m with n:=.int (n + 1)},s3) | _=>none)=some (m',s'):=e
   obtain⟨vf,vo,vb,vl,vu,vn,rv,hp,hq,rf,ro,rb,rl,ru,rn,rr⟩:=M.ext zp zq x04
   split at e
   ·rename_i n en
    cases e
    rw[en]at rn
    cases rn
    refine⟨_,rfl,p,C,dx,_,_,rfl,hp,cl,na "since" (by decide),rfl,n,1,rfl,rfl,dx,_,hp,len7,?_⟩
    refine hQ _ ((Kp.of x04).trans Kp.updP) (S4.chg zp) ?_
    exact⟨vf,vo,vb,vl,vu,_,rv,ze,(by rw[zd (fun z=>by rw[z,hp]at hq;cases hq)];exact hq),rf.kp Kp.updP,ro.kp Kp.updP,rb.kp Kp.updP,rl.kp Kp.updP,ru.kp Kp.updP,.int _,rr.kp Kp.updP⟩
   ·cases e
  | false =>
   rw[if_neg Bool.false_ne_true]
   rw[if_neg Bool.false_ne_true]at e
   refine bnd2 e fun d4 s4 e4 e=>?_
   refine bnd2 e fun d5 s5 e5 e=>?_
   refine bnd2 e fun k6 s6 e6 e=>?_
   refine⟨H,[],_,s3,d4,s4,R4,S4,e4,fun v4 H5 x5 S5 r5=>?_⟩
   have R5:=((R4.mono x5).set (i:=4) r5).1
   refine⟨H,[],_,s4,d5,s5,R5,S5,e5,fun v5 H6 x6 S6 r6=>?_⟩
   have R6:=((R5.mono x6).set (i:=5) r6).1
   refine⟨H,[],_,s5,k6,s6,R6,S6,e6,fun H7 x7 S7=>?_⟩
   have x07:=((x04.trans x5).trans x6).trans x7
   have R7:=R6.mono x7
   have r37:=rep0 (((r3.ext x4).ext x5).ext x6 |>.ext x7)
   have r57:=rep0 ((r5.ext x6).ext x7)
   have M7:=M.ext zp zq x07
   replace e:(if noList d4=true then _ else _)=some (m',s'):=e
   split at e
   ·rename_i nl4
    cases k6 with
    | true =>
     rw[if_pos rfl]
     rw[if_pos rfl]at e
     refine bnd2 e fun dp s7 ep e=>?_
     replace e:(if noList dp=true/\noList d2=true/\m.rs.length < 1000 then some ({m with rs:=m.rs++[dp],l:=m.b,u:=d2,n:=.int 1,b:=d4},s7) else none)=some (m',s'):=e
     split at e
     ·rename_i hc
      obtain⟨nlp,nl2,hlen⟩:=hc
      cases e
      obtain⟨vf0,vo0,vb0,vl0,vu0,vn0,rv0,hp0,hq0,_⟩:=M7
      refine⟨_,rfl,p,C,dx,_,_,rfl,hp0,cl,na "rises" (by decide),rfl,.inl ⟨rfl,_,SqL.of hq0⟩,H,[],_,s6,dp,_,R7,S7,ep,fun vp H8 x8 S8 r8=>?_⟩
      obtain⟨vf,vo,vb,vl,vu,vn,rv,hp,hq,rf,ro,rb,rl,ru,rn,rr⟩:=M.ext zp zq (x07.trans x8)
      have M8:=M.ext zp zq (x07.trans x8)
      have rp8:=M8.off (rep0 r8) nlp
      have r38:=M8.off (r37.ext x8) nl2
      have r58:=M8.off (r57.ext x8) nl4
      have hl:rv.length < sizeLine:=by rw[rr.length];exact Nat.lt_of_lt_of_le hlen (by decide)
      have hpq:p≠q:=fun z=>by rw[z,hq]at hp;cases hp
      refine⟨q,rv,vp,rfl,rfl,hq,hl,?_⟩
      have hp9:(upd H8 q (.lst (rv++[vp]))) p=some (.ins C dx (nsM.zip [vf,vo,.ref q,vb,vl,vu,vn])):=by rw[zd hpq];exact hp
      refine⟨_,rfl,p,C,dx,_,_,rfl,hp9,cl,na "below" (by decide),rfl,_,rfl,len3',fun t ht=>?_⟩
      have tp:t≠p:=fun z=>by rw[z,hp9]at ht;cases ht
      have tq:t≠q:=fun z=>by rw[z,ze]at ht;cases ht
      have hp10:(upd (upd H8 q (.lst (rv++[vp]))) t (.tup [vb,v2,.int 1])) p=some (.ins C dx (nsM.zip [vf,vo,.ref q,vb,vl,vu,vn])):=by rw[zd (Ne.symm tp)];exact hp9
      refine⟨t,_,rfl,.of ze,rfl,_,_,rfl,_,rfl,p,C,dx,_,rfl,hp10,cl,na "failed" (by decide),len7,_,_,rfl,_,rfl,p,C,dx,_,rfl,ze,cl,na "fault" (by decide),len7,_,_,rfl,_,rfl,p,C,dx,_,rfl,ze,cl,na "since" (by decide),len7,rfl,?_⟩
      refine⟨_,rfl,_,rfl,p,C,dx,_,rfl,ze,cl,na "below" (by decide),len7,?_⟩
      have K8:Kp Z p q H8 (upd (upd H8 q (.lst (rv++[vp]))) t (.tup [vb,v2,.int 1])):=fun b o hb nz n1 n2=>by
       have h9:(upd H8 q (.lst (rv++[vp]))) b=some o:=by rw[zd n2];exact hb
       rw[zd (zf h9 ht)];exact h9
      have S9:StateAt Z (upd H8 q (.lst (rv++[vp]))) s':=S8.chg zq
      have S10:StateAt Z (upd (upd H8 q (.lst (rv++[vp]))) t (.tup [vb,v2,.int 1])) s':=S9.upd ht
      have hq10:(upd (upd H8 q (.lst (rv++[vp]))) t (.tup [vb,v2,.int 1])) q=some (.lst (rv++[vp])):=by rw[zd (Ne.symm tq)];exact ze
      have K9:∀ {o1 o2 o3 o4:HO},Kp Z p q H8 (upd (upd (upd (upd (upd (upd H8 q (.lst (rv++[vp]))) t (.tup [vb,v2,.int 1])) p o1) p o2) p o3) p o4):=(((K8.trans Kp.updP).trans Kp.updP).trans Kp.updP).trans Kp.updP
      refine hQ _ ((Kp.of (x07.trans x8)).trans K9) ((((S10.chg zp).chg zp).chg zp).chg zp) ?_
      refine⟨vf,vo,v4,vb,v2,.int 1,rv++[vp],ze,?_,rf.kp K9,ro.kp K9,r58.kp K9,rb.kp K9,r38.kp K9,.int _,(rr.append (.cons rp8 .nil)).kp K9⟩
      rw[zd hpq.symm,zd hpq.symm,zd hpq.symm,zd hpq.symm]
      exact hq10
     ·cases e
    | false =>
     rw[if_neg Bool.false_ne_true]
     rw[if_neg Bool.false_ne_true]at e
     replace e:(match m.n with | .int n=>some ({m with n:=.int (n + 1),b:=d4},s6) | _=>none)=some (m',s'):=e
     have r47:=M7.off r57 nl4
     obtain⟨vf,vo,vb,vl,vu,vn,rv,hp,hq,rf,ro,rb,rl,ru,rn,rr⟩:=M7
     have hpq:p≠q:=fun z=>by rw[z,hq]at hp;cases hp
     split at e
     ·rename_i n en
      cases e
      rw[en]at rn
      cases rn
      refine⟨_,rfl,p,C,dx,_,_,rfl,hp,cl,na "since" (by decide),rfl,n,1,rfl,rfl,dx,_,hp,len7,?_⟩
      refine⟨_,rfl,_,rfl,p,C,dx,_,rfl,ze,cl,na "below" (by decide),len7,?_⟩
      have K9:∀ {o1 o2:HO},Kp Z p q H7 (upd (upd H7 p o1) p o2):=Kp.updP.trans Kp.updP
      refine hQ _ ((Kp.of x07).trans K9) ((S7.chg zp).chg zp) ?_
      refine⟨vf,vo,v4,vl,vu,.int (n + 1),rv,ze,?_,rf.kp K9,ro.kp K9,r47.kp K9,rl.kp K9,ru.kp K9,.int _,rr.kp K9⟩
      rw[zd hpq.symm,zd hpq.symm]
      exact hq
     ·cases e
   ·cases e
end
end L3
namespace L3
open PySem L2 PySem.Spec PyProof.Rows
def men0(df dq u:D):Men:=⟨df,dq,[.tuple [.int 0,.int 0]],.tuple [u],.tuple [u],u,.int 1⟩
def tInit(K:PySem.W.Frag):TS :=
 tSeq (sFld K (tVar 0) (tVar 1) "field") (tSeq (sFld K (tVar 0) (tVar 2) "off") (tSeq (sFld K (tVar 0) (tLst (tCons (tTup (tCons (tC (.int 0)) (tCons (tC (.int 0)) tNil))) tNil)) "rises")
 (tSeq (sFld K (tVar 0) (tTup (tCons (tFld K (tVar 1) "unit") tNil)) "below") (tSeq (sFld K (tVar 0) (tTup (tCons (tFld K (tVar 1) "unit") tNil)) "failed")
 (tSeq (sFld K (tVar 0) (tFld K (tVar 1) "unit") "fault") (sFld K (tVar 0) (tC (.int 1)) "since"))))))
def spIM(K:PySem.W.Frag)(C:Addr):Sp:=fun vs H Q _=>∃ Z A p dx wf wo df dq u s,vs=[.ref p,wf,wo]/\H p=some (.ins C dx [])/\NotZ Z p/\(∀ b∈A,∃ o,H b=some o)/\StateAt Z H s/\Rep K Z H (p::A) wf df/\Rep K Z H (p::A) wo dq/\gFld ["PrimeField"] "unit" df=some u /\
 ∀ q H',H q=none->(∀ b o,H b=some o->b≠p->H' b=some o)->MAt K Z H' A C p q dx (men0 df dq u)->Q .non H'
section
variable {K:PySem.W.Frag} {Z:Zt} {A:List Addr} {C p q dx:Addr} {m m':Men}
theorem zbU{H:Hp}{w:V}{df u:D}(fu:FCal K "PrimeField" "unit")(r:Rep K Z H (p::A) w df)(eu:gFld ["PrimeField"] "unit" df=some u)(hp:H p=some (.ins C dx [])) :
  ∃ a C' dx' fs v,w=.ref a/\a≠p/\H a=some (.ins C' dx' fs)/\Cls K C'/\NoAttr K C' "unit"/\fs.lookup ("unit":Str)=some v/\Rep K Z H (p::A) v u:=by
 unfold gFld at eu
 split at eu
 ·rename_i e0 c fs
  split at eu
  ·rename_i hin
   cases (List.mem_singleton.mp hin)
   obtain⟨a,C',dx',ns,vs,ds,rfl,k,h,rs,rfl⟩:=r.w.object
   obtain⟨C2,k',cl,na⟩:=fu
   rw[k]at k'
   cases k'
   obtain⟨v',h1,h2⟩:=rs.field eu
   refine⟨a,C',dx',_,v',rfl,fun z=>?_,h,cl,na,h1,h2⟩
   subst z
   rw[hp]at h
   injection h with h
   injection h with _ _ h
   rw[<- h]at h1
   cases h1
  ·cases eu
 ·cases eu
theorem z80{H H4:Hp}{a C' dx' t:Addr}{fs:List (Str × V)}{wo vu:V}{df dq u:D}{s:Sx}{Q:VK}(cl:Cls K C)(na:∀ x∈nsM,NoAttr K C x)(cl':Cls K C')(na':NoAttr K C' "unit")(lu:fs.lookup ("unit":Str)=some vu)(nap:a≠p)(qp:q≠p)(hq0:H q=none)
  (ha4:H4 a=some (.ins C' dx' fs)) (k4:∀ b o,H b=some o->b≠p->H4 b=some o) (hp4:H4 p=some (.ins C dx [("field",.ref a),("off",wo)])) (hq4:H4 q=some (.lst [.ref t])) (S4:StateAt Z H4 s) (hA4:∀ b∈p::q::A,∃ o,H4 b=some o)
  (rf4:Rep K Z H4 (p::q::A) (.ref a) df) (ro4:Rep K Z H4 (p::q::A) wo dq) (ru4:Rep K Z H4 (p::q::A) vu u) (rt4:Rep K Z H4 (p::q::A) (.ref t) (.tuple [.int 0,.int 0]))
  (hQ:∀ q H',H q=none->(∀ b o,H b=some o->b≠p->H' b=some o)->MAt K Z H' A C p q dx (men0 df dq u)->Q .non H') :
  (tVar 0) [some (.ref p),some (.ref a),some wo] H4 fun x H2=>∃ a1 C1 dx1 fs1,x=.ref a1/\H2 a1=some (.ins C1 dx1 fs1)/\Cls K C1/\NoAttr K C1 "rises"/\fs1.length < 1000 /\
   (tSeq (sFld K (tVar 0) (tTup (tCons (tFld K (tVar 1) "unit") tNil)) "below") (tSeq (sFld K (tVar 0) (tTup (tCons (tFld K (tVar 1) "unit") tNil)) "failed")
    (tSeq (sFld K (tVar 0) (tFld K (tVar 1) "unit") "fault") (sFld K (tVar 0) (tC (.int 1)) "since")))) {nx:=fun _ H'=>Q .non H',rt:=Q} [some (.ref p),some (.ref a),some wo] (upd H2 a1 (.ins C1 dx1 (putF "rises" (.ref q) fs1))):=by
 refine⟨_,rfl,p,C,dx,_,rfl,hp4,cl,na "rises" (by decide),(by show 2 < 1000;decide),?_⟩
 have ha5:∀ {o:HO},(upd H4 p o) a=some (.ins C' dx' fs):=by intro o;rw[zd nap];exact ha4
 refine⟨_,rfl,a,C',dx',fs,vu,rfl,ha5,cl',na',lu,(by show 1<=sizeLine;decide),fun t1 ht1=>?_⟩
 have t1p:t1≠p:=fun z=>by rw[z,ze]at ht1;cases ht1
 have ht1':H4 t1=none:=by rw[zd t1p]at ht1;exact ht1
 refine⟨_,rfl,p,C,dx,_,rfl,(by rw[zd t1p.symm,ze]),cl,na "below" (by decide),(by show 3 < 1000;decide),?_⟩
 have ha7:∀ {o1 o2 o3:HO},(upd (upd (upd H4 p o1) t1 o2) p o3) a=some (.ins C' dx' fs):=by intro o1 o2 o3;rw[zd nap,zd (zf ha4 ht1'),zd nap];exact ha4
 refine⟨_,rfl,a,C',dx',fs,vu,rfl,ha7,cl',na',lu,(by show 1<=sizeLine;decide),fun t2 ht2=>?_⟩
 have t2p:t2≠p:=fun z=>by rw[z,ze]at ht2;cases ht2
 have t2t:t2≠t1:=fun z=>by rw[z,zd t1p,ze]at ht2;cases ht2
 have ht2':H4 t2=none:=by rw[zd t2p,zd t2t,zd t2p]at ht2;exact ht2
 refine⟨_,rfl,p,C,dx,_,rfl,(by rw[zd t2p.symm,ze]),cl,na "failed" (by decide),(by show 4 < 1000;decide),?_⟩
 have ha9:∀ {o1 o2 o3 o4 o5:HO},(upd (upd (upd (upd (upd H4 p o1) t1 o2) p o3) t2 o4) p o5) a=some (.ins C' dx' fs):=by intro o1 o2 o3 o4 o5;rw[zd nap,zd (zf ha4 ht2'),zd nap,zd (zf ha4 ht1'),zd nap];exact ha4
 refine⟨_,rfl,a,C',dx',fs,vu,rfl,ha9,cl',na',lu,_,rfl,p,C,dx,_,rfl,ze,cl,na "fault" (by decide),(by show 5 < 1000;decide),?_⟩
 refine⟨_,rfl,p,C,dx,_,rfl,ze,cl,na "since" (by decide),(by show 6 < 1000;decide),?_⟩
 have kk:∀ {o1 o2 o3 o4 o5 o6 o7:HO} b o,H4 b=some o->b≠p->(upd (upd (upd (upd (upd (upd (upd H4 p o1) t1 o2) p o3) t2 o4) p o5) p o6) p o7) b=some o:=fun b o e n=>by
  rw[zd n,zd n,zd n,zd (zf e ht2'),zd n,zd (zf e ht1'),zd n];exact e
 have kp:∀ {o1 o2 o3 o4 o5 o6 o7:HO},Kp Z p q H4 (upd (upd (upd (upd (upd (upd (upd H4 p o1) t1 o2) p o3) t2 o4) p o5) p o6) p o7):=fun b o e _ n _=>kk b o e n
 have z1:NotZ Z t1:=S4.notZ ht1'
 have z2:NotZ Z t2:=S4.notZ ht2'
 have n1:¬ t1∈p::q::A:=zM hA4 ht1'
 have n2:¬ t2∈p::q::A:=zM hA4 ht2'
 refine hQ q _ hq0 (fun b o e n=>kk b o (k4 b o e n) n) ?_
 refine⟨.ref a,wo,.ref t1,.ref t2,vu,.int 1,[.ref t],ze,kk q _ hq4 qp,rf4.kp kp,ro4.kp kp,?_,?_,ru4.kp kp,.int 1,.cons (rt4.kp kp) .nil⟩
 ·refine .tup (vs:=[vu]) ?_ n1 z1 (.cons (ru4.kp kp) .nil)
  rw[zd t1p,zd t1p,zd t1p,zd (Ne.symm t2t),zd t1p,ze]
 ·refine .tup (vs:=[vu]) ?_ n2 z2 (.cons (ru4.kp kp) .nil)
  rw[zd t2p,zd t2p,zd t2p,ze]
theorem z9q{H:Hp}{wf wo:V}{df dq u:D}{s:Sx}{Q:VK}(cl:Cls K C)(na:∀ x∈nsM,NoAttr K C x)(fu:FCal K "PrimeField" "unit")(hp:H p=some (.ins C dx []))(zp:NotZ Z p)(hA:∀ b∈A,∃ o,H b=some o)(S:StateAt Z H s)
  (rf:Rep K Z H (p::A) wf df) (ro:Rep K Z H (p::A) wo dq) (eu:gFld ["PrimeField"] "unit" df=some u) (hQ:∀ q H',H q=none->(∀ b o,H b=some o->b≠p->H' b=some o)->MAt K Z H' A C p q dx (men0 df dq u)->Q .non H') :
  tInit K {nx:=fun _ H'=>Q .non H',rt:=Q} [some (.ref p),some wf,some wo] H:=by
 obtain⟨a,C',dx',fs,vu,ewf,nap,ha,cl',na',lu,ru⟩:=zbU fu rf eu hp
 subst ewf
 refine⟨_,rfl,_,rfl,p,C,dx,_,rfl,hp,cl,na "field" (by decide),by decide,?_⟩
 refine⟨_,rfl,_,rfl,p,C,dx,_,rfl,ze,cl,na "off" (by decide),(by show 1 < 1000;decide),?_⟩
 have k2:∀ {o1 o2:HO} b o,H b=some o->b≠p->(upd (upd H p o1) p o2) b=some o:=fun b o e n=>by rw[zd n,zd n];exact e
 refine⟨(by show 2<=sizeLine;decide),fun t ht=>⟨(by show 1<=sizeLine;decide),fun q hq=>?_⟩⟩
 have tq:t≠q:=fun z=>by rw[<- z,ze]at hq;cases hq
 have hq2:(upd (upd H p (.ins C dx [("field",.ref a)])) p (.ins C dx [("field",.ref a),("off",wo)])) q=none:=by
  have:=hq
  rw[zd (Ne.symm tq)]at this
  exact this
 have qp:q≠p:=fun z=>by rw[z,ze]at hq2;cases hq2
 have tp:t≠p:=fun z=>by rw[z]at ht;exact absurd (ht.symm.trans ze) (by simp)
 have hq0:H q=none:=by rw[zd qp,zd qp]at hq2;exact hq2
 have k2:∀ b o,H b=some o->b≠p->(upd (upd H p (.ins C dx [("field",.ref a)])) p (.ins C dx [("field",.ref a),("off",wo)])) b=some o:=fun b o e n=>by rw[zd n,zd n];exact e
 have zt:NotZ Z t:=((S.chg zp).chg zp).notZ ht
 have zq:NotZ Z q:=S.notZ hq0
 have nt:¬ t∈p::q::A:=fun h=>by
  rcases List.mem_cons.mp h with h | h
  ·exact tp h
  ·rcases List.mem_cons.mp h with h | h
   ·exact tq h
   ·obtain⟨o,ho⟩:=hA t h
    have z:=ht
    rw[zd tp,zd tp,ho]at z;cases z
 have k4:∀ {o3 o4:HO} b o,H b=some o->b≠p->(upd (upd (upd (upd H p (.ins C dx [("field",.ref a)])) p (.ins C dx [("field",.ref a),("off",wo)])) t o3) q o4) b=some o:=fun b o e n=>by
  have h1:=k2 b o e n
  rw[zd (zf h1 hq2),zd (zf h1 ht)];exact h1
 have mv:∀ {v:V} {d:D},Rep K Z H (p::A) v d->Rep K Z (upd (upd (upd (upd H p (.ins C dx [("field",.ref a)])) p (.ins C dx [("field",.ref a),("off",wo)])) t (.tup [.int 0,.int 0])) q (.lst [.ref t])) (p::q::A) v d:=fun r=>r.move fun b o e n z=>by
  have nb:b≠p:=fun w=>n (by rw[w];exact List.mem_cons_self)
  refine⟨k4 b o e nb,fun w=>?_⟩
  rcases List.mem_cons.mp w with w | w
  ·exact nb w
  ·rcases List.mem_cons.mp w with w | w
   ·rw[w,hq0]at e;cases e
   ·exact n (List.mem_cons_of_mem _ w)
 have hp4:(upd (upd (upd (upd H p (.ins C dx [("field",.ref a)])) p (.ins C dx [("field",.ref a),("off",wo)])) t (.tup [.int 0,.int 0])) q (.lst [.ref t])) p=some (.ins C dx [("field",.ref a),("off",wo)]):=by rw[zd qp.symm,zd tp.symm,ze]
 have ht4:(upd (upd (upd (upd H p (.ins C dx [("field",.ref a)])) p (.ins C dx [("field",.ref a),("off",wo)])) t (.tup [.int 0,.int 0])) q (.lst [.ref t])) t=some (.tup [.int 0,.int 0]):=by rw[zd tq,ze]
 have S4:StateAt Z (upd (upd (upd (upd H p (.ins C dx [("field",.ref a)])) p (.ins C dx [("field",.ref a),("off",wo)])) t (.tup [.int 0,.int 0])) q (.lst [.ref t])) s:=(((S.chg zp).chg zp).upd ht).upd hq
 refine z80 (t:=t) (s:=s) (df:=df) (dq:=dq) (u:=u) cl na cl' na' lu nap qp hq0 (k4 a _ ha nap) k4 hp4 ze S4 (fun b hb=>?_) (mv rf) (mv ro) (mv ru) (.tup ht4 nt zt (.cons (.int 0) (.cons (.int 0) .nil))) hQ
 rcases List.mem_cons.mp hb with h | h
 ·rw[h];exact⟨_,hp4⟩
 ·rcases List.mem_cons.mp h with h | h
  ·rw[h];exact⟨_,ze⟩
  ·by_cases z:b=p
   ·rw[z];exact⟨_,hp4⟩
   ·obtain⟨o,ho⟩:=hA b h
    exact⟨_,k4 b o ho z⟩
end
end L3
namespace L3
open PySem L2 PySem.Spec PyProof.Rows
def noOwn(δ:Sl):Bool:=δ.all fun c=>match c with | .own _=>false | _=>true
def growN(i j:Nat)(FLs:FA)(g:Men->D->Sx->Option (Men × Sx)):Nat->Int->Sl->Men->Sx->Option (Out × Sx)
 | 0,_,δ,m,s=>some (.next (δ.set i (.val m.d)),s)
 | k + 1,lo,δ,m,s=>(FLs (δ.set j (.val (.int lo))) s).bind fun a=>match a.1 with
  | [rd]=>(g m rd a.2).bind fun r=>growN i j FLs g k (lo + 1) (δ.set j (.val (.int lo))) r.1 r.2
  | _=>none
def sGrown(i j:Nat)(FLm FLr FLs:FA)(g:Men->D->Sx->Option (Men × Sx)):GS:=fun δ s=>if noOwn δ=true/\i < δ.length then
 (FLm δ s).bind fun a=>match a.1 with
 | [df,dq]=>(gFld ["PrimeField"] "unit" df).bind fun u=>(FLr (δ.set i .non) a.2).bind fun r=>match r.1 with
  | [.int lo,.int hi]=>if (rOk lo && rOk hi)=true then growN i j FLs g (hi - lo).toNat lo (δ.set i .non) (men0 df dq u) r.2 else none
  | _=>none
 | _=>none else none
section
variable {K:PySem.W.Frag} {B:Hp} {Z:Zt} {A:List Addr} {ow:Ow} {C p q dx:Addr} {m m':Men} {σ:L2.St} {δ:Sl} {H H':Hp} {i:Nat}
theorem z8J(h:noOwn δ=true){j:Nat}{xs:List D}(e:δ[j]?=some (.own xs)):False:=by
 have:=(List.all_eq_true.mp h) _ (List.mem_of_getElem? e)
 cases this
theorem RepS.bare(R:RepS K B Z A ow σ δ H)(h:noOwn δ=true):RepS K B Z A [] σ δ H where
 ok:=R.ok
 ext:=R.ext
 len:=R.len
 val:=fun i d e=>let ⟨v,a,b⟩:=R.val i d e;⟨v,a,b.sub fun q hq=>by rw[List.map_nil,List.append_nil]at hq;exact List.mem_append_left _ hq⟩
 own:=fun i xs e=>(z8J h e).elim
 ows:=fun i p h=>nomatch h
 inj:=fun i j p h=>nomatch h
theorem RepS.hide(R:RepS K B Z A [] σ δ H)(h:noOwn δ=true)(hp0:H p=none)(hq0:H q=none)(hk:∀ b o,H b=some o->H' b=some o)(hp:∃ o,H' p=some o)(hq:∃ o,H' q=some o)(zp:NotZ Z p)(zq:NotZ Z q) :
  RepS K B Z (p::q::A) [] (σ.set i (some (.ref p))) (δ.set i .non) H' where
 ok:=fun b hb=>by
  rcases List.mem_cons.mp hb with h | h
  ·rw[h];exact⟨hp,zp⟩
  ·rcases List.mem_cons.mp h with h | h
   ·rw[h];exact⟨hq,zq⟩
   ·obtain⟨⟨o,ho⟩,z⟩:=R.ok b h
    exact⟨⟨o,hk b o ho⟩,z⟩
 ext:=fun b o e n=>hk b o (R.ext b o e n)
 len:=by rw[List.length_set,List.length_set];exact R.len
 val:=fun j d e=>by
  by_cases hj:i=j
  ·subst hj
   have:=(List.getElem?_eq_some_iff.mp e).1
   rw[List.length_set]at this
   rw[List.getElem?_set_self this]at e
   cases e
  ·rw[List.getElem?_set_ne hj]at e
   obtain⟨v,a,b⟩:=R.val j d e
   refine⟨v,by rw[List.getElem?_set_ne hj];exact a,b.move fun x o hx n z=>⟨hk x o hx,fun w=>?_⟩⟩
   rw[List.map_nil,List.append_nil]at w n
   rcases List.mem_cons.mp w with w | w
   ·rw[w,hp0]at hx;cases hx
   ·rcases List.mem_cons.mp w with w | w
    ·rw[w,hq0]at hx;cases hx
    ·exact n w
 own:=fun j xs e=>by
  by_cases hj:i=j
  ·subst hj
   have:=(List.getElem?_eq_some_iff.mp e).1
   rw[List.length_set]at this
   rw[List.getElem?_set_self this]at e
   cases e
  ·rw[List.getElem?_set_ne hj]at e
   exact(z8J h e).elim
 ows:=fun i p h=>nomatch h
 inj:=fun i j p h=>nomatch h
theorem RepS.kp(R:RepS K B Z (p::q::A) [] σ δ H)(k:Kp Z p q H H')(bp:B p=none)(bq:B q=none)(hp:∃ o,H' p=some o)(hq:∃ o,H' q=some o):RepS K B Z (p::q::A) [] σ δ H' where
 ok:=fun b hb=>by
  refine⟨?_,(R.ok b hb).2⟩
  by_cases h1:b=p
  ·rw[h1];exact hp
  ·by_cases h2:b=q
   ·rw[h2];exact hq
   ·obtain⟨⟨o,ho⟩,z⟩:=R.ok b hb
    exact⟨o,k b o ho z h1 h2⟩
 ext:=fun b o e n=>k b o (R.ext b o e n) n (zf e bp) (zf e bq)
 len:=R.len
 val:=fun j d e=>by
  obtain⟨v,a,b⟩:=R.val j d e
  exact⟨v,a,rep1 ((rep0 b).kp k)⟩
 own:=fun j xs e=>by
  obtain⟨_,_,h,_⟩:=R.own j xs e
  exact nomatch h
 ows:=fun i p h=>nomatch h
 inj:=fun i j p h=>nomatch h
theorem RepS.show(R:RepS K B Z (p::q::A) [] σ δ H)(hσ:σ[i]?=some (some (.ref p)))(r:Rep K Z H A (.ref p) m.d):RepS K B Z A [] σ (δ.set i (.val m.d)) H where
 ok:=fun b hb=>R.ok b (sub2 b hb)
 ext:=R.ext
 len:=by rw[List.length_set];exact R.len
 val:=fun j d e=>by
  by_cases hj:i=j
  ·subst hj
   have:=(List.getElem?_eq_some_iff.mp e).1
   rw[List.length_set]at this
   rw[List.getElem?_set_self this]at e
   cases e
   exact⟨_,hσ,rep1 r⟩
  ·rw[List.getElem?_set_ne hj]at e
   obtain⟨v,a,b⟩:=R.val j d e
   exact⟨v,a,rep1 ((rep0 b).sub sub2)⟩
 own:=fun j xs e=>by
  by_cases hj:i=j
  ·subst hj
   have:=(List.getElem?_eq_some_iff.mp e).1
   rw[List.length_set]at this
   rw[List.getElem?_set_self this]at e
   cases e
  ·rw[List.getElem?_set_ne hj]at e
   obtain⟨_,_,h,_⟩:=R.own j xs e
   exact nomatch h
 ows:=fun i p h=>nomatch h
 inj:=fun i j p h=>nomatch h
theorem MAt.hp(M:MAt K Z H A C p q dx m):∃ o,H p=some o:=by obtain⟨_,_,_,_,_,_,_,hp,_⟩:=M;exact⟨_,hp⟩
theorem MAt.hq(M:MAt K Z H A C p q dx m):∃ o,H q=some o:=by obtain⟨_,_,_,_,_,_,_,_,hq,_⟩:=M;exact⟨_,hq⟩
end
section
variable {X:Cx} {s1 s2:Stmt} {rest:List Stmt} {FLm FLr FLs:FA} {g:Men->D->Sx->Option (Men × Sx)} {G:GS} {C:Addr} {i j:Nat}
theorem zaB(hij:i≠j)(kC:PySem.W.nsIn X.K mainGlobals "Mender"=some (some (.ref C)))
  (ps1:∀ Z A,PS X s1 (tAsg (tMake C (spIM X.K C) [] E0 (tDA X Z A FLm)) (gName i)))
  (ps2:∀ Z A,PS X s2 (tFor (iRng2 (tDA X Z A FLr)) (gName j) (tDrop (tMeth C "grow" (spG X.K C g) [] E0 (tVar i) (tDA X Z A FLs))))) (hrest:DSs X rest G) :
  DSs X (s1::s2::rest) (sSeq (sGrown i j FLm FLr FLs g) G):=⟨fun Z A=>PSs.imp (zK (ps1 Z A) (zK (u:=tDS X Z A G) (t:=fun D σ H=>∃ A',tFor (iRng2 (tDA X Z A' FLr)) (gName j) (tDrop (tMeth C "grow" (spG X.K C g) [] E0 (tVar i) (tDA X Z A' FLs))) D σ H)
  (fun pins s σ H D I zgm=>(by obtain⟨A',h⟩:=zgm;exact ps2 Z A' pins s σ H D I h)) (hrest Z A))) fun E σ H zgn=>by
 obtain⟨ow,δ,s,o,s',R0,S,e,qq⟩:=zgn
 unfold sSeq at e
 cases e1:sGrown i j FLm FLr FLs g δ s with
 | none=>rw[e1]at e;cases e
 | some r =>
  obtain⟨o1,s1'⟩:=r
  rw[e1]at e
  unfold sGrown at e1
  split at e1
  ·rename_i hno
   obtain⟨hno,hil⟩:=hno
   refine bnd2 e1 fun args sa ea e2=>?_
   clear e1
   rcases args with _ | ⟨df,_ | ⟨dq,_ | ⟨d3,args⟩⟩⟩
   ·cases e2
   ·cases e2
   ·refine bnd1 e2 fun u eu e3=>?_
    clear e2
    refine bnd2 e3 fun rr sr er e4=>?_
    clear e3
    have hr:∃ lo hi,rr=[.int lo,.int hi]/\(rOk lo && rOk hi)=true/\growN i j FLs g (hi - lo).toNat lo (δ.set i .non) (men0 df dq u) sr=some (o1,s1'):=by
     dsimp only at e4
     split at e4
     ·rename_i lo hi
      split at e4
      ·rename_i hok;exact⟨lo,hi,rfl,hok,e4⟩
      ·cases e4
     ·cases e4
    clear e4
    obtain⟨lo,hi,err,hok,eg⟩:=hr
    subst err
    ··have hok':=hok
      clear hok
      have R:=R0.bare hno
      refine⟨_,[],δ,s,[df,dq],sa,R,S,ea,fun vs H1 x1 S1 rs=>fun x dx nx ndx nex=>?_⟩
      rcases vs with _ | ⟨wf,_ | ⟨wo,_ | ⟨w3,vs⟩⟩⟩
      ·cases rs
      ·cases rs with | cons _ t=>cases t
      ·cases rs with
       | cons rf t =>
        cases t with
        | cons ro t =>
         clear t
         have R1:=R.mono x1
         have keep:∀ b o,H1 b=some o->(upd (upd H1 dx (.own x)) x (.ins C dx [])) b=some o:=fun b o e=>by rw[zd (zf e nx),zd (zf e ndx)];exact e
         have up:∀ {v:V} {d:D},Rep X.K Z H1 (A++([]:Ow).map (·.2)) v d->Rep X.K Z (upd (upd H1 dx (.own x)) x (.ins C dx [])) (x::A) v d:=fun r=>r.move fun b o e n z=>⟨keep b o e,fun w=>by
          rcases List.mem_cons.mp w with w | w
          ·rw[w,nx]at e;cases e
          ·exact n (List.mem_append_left _ w)⟩
         have zx:NotZ Z x:=S1.notZ nx
         have Sx1:StateAt Z (upd (upd H1 dx (.own x)) x (.ins C dx [])) sa:=fun a c e=>⟨keep _ _ (S1 a c e).1,keep _ _ (S1 a c e).2⟩
         refine⟨Z,A,x,dx,wf,wo,df,dq,u,sa,rfl,ze,zx,fun b hb=>?_,Sx1,up rf,up ro,eu,fun q H2 hq2 hk M=>⟨rfl,?_⟩⟩
         ·obtain⟨⟨o',ho⟩,_⟩:=R1.ok b hb
          exact⟨o',keep b o' ho⟩
         ·have hqx:q≠x:=fun z=>by rw[z,ze]at hq2;cases hq2
          have hq1:H1 q=none:=by
           rw[zd hqx]at hq2
           by_cases z:q=dx
           ·rw[z,ze]at hq2;cases hq2
           ·rw[zd z]at hq2;exact hq2
          have k12:∀ b o,H1 b=some o->H2 b=some o:=fun b o e=>hk b o (keep b o e) (zf e nx)
          have zq:NotZ Z q:=S1.notZ hq1
          have S2:StateAt Z H2 sa:=fun a c e=>⟨k12 _ _ (S1 a c e).1,k12 _ _ (S1 a c e).2⟩
          have R2:RepS X.K X.H₀ Z (x::q::A) [] (σ.set i (some (.ref x))) (δ.set i .non) H2:=R1.hide hno nx hq1 k12 M.hp M.hq zx zq
          have bx:X.H₀ x=none:=by
           cases hb:X.H₀ x with
           | none=>rfl
           | some o'=>have:=R1.ext x o' hb zx;rw[nx]at this;cases this
          have bq:X.H₀ q=none:=by
           cases hb:X.H₀ q with
           | none=>rfl
           | some o'=>have:=R1.ext q o' hb zq;rw[hq1]at this;cases this
          have nxA:¬ x∈A:=fun h=>by obtain⟨⟨o',ho⟩,_⟩:=R1.ok x h;rw[nx]at ho;cases ho
          have nqA:¬ q∈A:=fun h=>by obtain⟨⟨o',ho⟩,_⟩:=R1.ok q h;rw[hq1]at ho;cases ho
          refine⟨x::q::A,_,[],δ.set i .non,sa,[.int lo,.int hi],sr,R2,S2,er,fun vs2 H3 x3 S3 rs2=>?_⟩
          have ev2:vs2=[.int lo,.int hi]:=by
           cases rs2 with
           | cons r1 t=>cases t with
            | cons r2 t=>cases t;cases r1;cases r2;rfl
          subst ev2
          simp only[rOk,Bool.and_eq_true,decide_eq_true_eq]at hok'
          refine⟨lo,hi,rfl,⟨hok'.1.1,hok'.1.2,hok'.2.1,hok'.2.2⟩,?_⟩
          have hx0:H x=none:=by
           cases hb:H x with
           | none=>rfl
           | some o'=>have:=x1 x o' hb zx;rw[nx]at this;cases this
          have hq0:H q=none:=by
           cases hb:H q with
           | none=>rfl
           | some o'=>have:=x1 q o' hb zq;rw[hq1]at this;cases this
          have x03:Ext Z H H3:=fun b o e n=>x3 b o (k12 b o (x1 b o e n)) n
          have hsi:(σ.set i (some (V.ref x)))[i]?=some (some (.ref x)):=List.getElem?_set_self (by rw[<- R.len];exact hil)
          refine z9V (fun k σ' H'=>∃ δk mk sk,RepS X.K X.H₀ Z (x::q::A) [] σ' δk H'/\σ'[i]?=some (some (.ref x))/\MAt X.K Z H' A C x q dx mk/\StateAt Z H' sk/\growN i j FLs g ((hi - lo).toNat - k) (lo + k) δk mk sk=some (o1,s1')/\Ext Z H H'/\k<=(hi - lo).toNat)
           ⟨δ.set i .non,men0 df dq u,sr,R2.mono x3,hsi,M.ext zx zq x3,S3,(by rw[Nat.sub_zero,Int.natCast_zero,Int.add_zero];exact eg),x03,Nat.zero_le _⟩ ?_ ?_
          ·rintro k σ4 H4 hk ⟨δk,mk,sk,R4,h4,M4,S4,eg4,x4,_⟩
           have R5:=(R4.set (i:=j) (rep1 (A:=x::q::A) (.int (lo + k)))).1
           replace R5:RepS X.K X.H₀ Z (x::q::A) [] (σ4.set j (some (.int (lo + k)))) (δk.set j (.val (.int (lo + k)))) H4:=R5
           have h5:(σ4.set j (some (V.int (lo + k))))[i]?=some (some (.ref x)):=by rw[List.getElem?_set_ne (Ne.symm hij)];exact h4
           obtain⟨k',hk'⟩:∃ k',(hi - lo).toNat - k=k' + 1:=⟨(hi - lo).toNat - k - 1,by omega⟩
           rw[hk']at eg4
           refine bnd2 (show((FLs (δk.set j (.val (.int (lo + k)))) sk).bind fun a=>match a.1 with
            | [rd]=>(g mk rd a.2).bind fun r=>growN i j FLs g k' (lo + k + 1) (δk.set j (.val (.int (lo + k)))) r.1 r.2
            | _=>none)=some (o1,s1') from eg4) fun ag sg es e5=>?_
           clear eg4
           have h6:∃ rd,ag=[rd]/\((g mk rd sg).bind fun r=>growN i j FLs g k' (lo + k + 1) (δk.set j (.val (.int (lo + k)))) r.1 r.2)=some (o1,s1'):=by
            dsimp only at e5
            split at e5
            ·rename_i rd;exact⟨rd,rfl,e5⟩
            ·cases e5
           clear e5
           obtain⟨rd,eag,e6⟩:=h6
           subst eag
           refine bnd2 e6 fun m5 s5 em e7=>?_
           clear e6
           obtain⟨vf,vo,vb,vl,vu,vn,rv,hp,hq,_⟩:=id M4
           refine⟨_,h5,x,dx,_,rfl,hp,rfl,_,[],_,sk,[rd],sg,R5,S4,es,fun vs5 H5 x5 S5 rs5=>?_⟩
           have M5:=M4.ext zx zq x5
           obtain⟨w5,ew5,r5⟩:∃ w5,vs5=[w5]/\Rep X.K Z H5 (x::q::A) w5 rd:=by
            cases rs5 with
            | cons r t=>cases t;exact⟨_,rfl,rep0 r⟩
           subst ew5
           refine⟨Z,A,x,q,dx,w5,mk,rd,sg,m5,s5,rfl,M5,nxA,nqA,zx,zq,r5,fun b hb=>(R5.mono x5).ok b (sub2 b hb),S5,em,fun H6 k6 S6 M6=>?_⟩
           have x6:Ext Z H H6:=fun b o e n=>k6 b o (x5 b o (x4 b o e n) n) n (zf e hx0) (zf e hq0)
           refine⟨_,m5,s5,(R5.mono x5).kp k6 bx bq M6.hp M6.hq,h5,M6,S6,?_,x6,hk⟩
           rw[show(hi - lo).toNat - (k + 1)=k' by omega,show lo + ((k + 1:Nat):Int)=lo + k + 1 by omega]
           exact e7
          ·rintro σ4 H4 ⟨δk,mk,sk,R4,h4,M4,S4,eg4,x4,_⟩
           rw[Nat.sub_self]at eg4
           cases eg4
           exact⟨[],_,_,o,s',R4.show h4 (M4.rep kC nxA nqA zx zq),S4,e,qq.frm fun b o' hb n m=>⟨x4 b o' hb n,fun z=>nomatch z⟩⟩
      ·cases rs with
       | cons _ t=>cases t with | cons _ t=>cases t
   ·cases e2
  ·cases e1⟩
end
end L3
namespace L3
open PySem L2 PySem.Spec PyProof.Rows
theorem compOkC2{X:Cx}{sc0 scopeO scope:Scope}{clO:List (Str × Addr)}{NO N:List Str}{x0:Str}{k0 k:Nat}{fr0 fr:List Nat}{C:Addr}{s:Shared}{H:Hp}{ex:List Addr}(okO:CompOkC X scopeO clO NO k0 fr0 x0)(hsc:X.env.scope=sc0)(h:compChk (relabelS scopeO sc0) NO scope N k fr=true) :
  CompOk (compCxC X scopeO clO NO x0 C s H ex) scope (clOf (compCxC X scopeO clO NO x0 C s H ex).env.cells scope.names []) N k fr:=compOkC (sc:=relabelS scopeO sc0) (N0:=NO) (by subst hsc;rfl) rfl h (L3.CompOkC.cells okO C s H ex)
end L3
set_option maxHeartbeats 4000000
namespace Law
open PySem L2 L3 PyProof.Rows
abbrev qI(z:Int):Ce:=.val (.int z)
abbrev qL(l:List Int):Ce:=.val (.list (l.map .int))
abbrev qT(l:List Int):Ce:=.val (.tuple (l.map .int))
abbrev qO(l:List Int):Ce:=.own (l.map .int)
abbrev qD:Ce:=.val (.dict [])
abbrev ql(l:List Int):D:=.list (l.map .int)
abbrev qt(l:List Int):D:=.tuple (l.map .int)
abbrev qC(K:PySem.W.Frag)(cs:List Str)(f:Str):Prop:=∀ c∈cs,FCal K c f
abbrev qM(P:Program)(w:World)(K:PySem.W.Frag)(mg:Str->Option Value)(base:Heap)(t:List (Str × GF))(n:Nat)(m:Str):Prop:=∀ c g,t.lookup c=some g->∃ k,k<=n/\MCal P w K mg base c m k g
theorem qS{N P:List Str}{s:Scope}(h:s.kind=.function/\s.isCoroutine=false/\s.isGenerator=false/\N.Nodup/\N.take P.length=P/\(∀ x∈P,s.names.lookup x=some .local\/s.names.lookup x=some .cell)/\∀ y∈s.names,y.2≠.free):FnScope N P s:=⟨h.1,h.2.1,h.2.2.1,h.2.2.2.1,h.2.2.2.2.1,h.2.2.2.2.2.1,h.2.2.2.2.2.2⟩
def top(i:Nat):Stmt:=PySem.Challenge.pw_farquotient_k54_shortest_by_a_prime.main.body.getD i (.Pass ⟨0,0,0,0⟩)
abbrev z30:Stmt:=top 2
abbrev z5k:Stmt:=top 3
abbrev z6t:Stmt:=top 4
abbrev z43:Stmt:=top 5
abbrev z31:Stmt:=top 6
abbrev z3G:Stmt:=top 8
abbrev z5l:Stmt:=top 9
abbrev z3m:Stmt:=top 12
abbrev z1B:Stmt:=top 14
abbrev z2G:Stmt:=top 15
abbrev z32:Stmt:=top 17
abbrev z3H:Stmt:=top 18
abbrev z3I:Stmt:=top 19
abbrev z33:Stmt:=top 20
abbrev z2o:Stmt:=top 21
abbrev z4i:Stmt:=top 22
abbrev z2p:Stmt:=top 23
abbrev z1J:Stmt:=top 24
abbrev z1K:Stmt:=top 25
abbrev z0Y:Stmt:=top 26
abbrev z0i:Stmt:=top 27
abbrev z0Z:Stmt:=top 28
abbrev z1d:Stmt:=top 29
abbrev z10:Stmt:=top 30
abbrev zU:Stmt:=top 31
abbrev z34:Stmt:=top 32
abbrev z81:Stmt:=top 33
abbrev z0j:Stmt:=inClass (top 1) 0
abbrev z1e:Stmt:=inClass (top 1) 1
abbrev z0K:Stmt:=inClass (top 1) 2
abbrev z0y:Stmt:=inClass (top 1) 3
abbrev z0W:Stmt:=inClass (top 1) 4
abbrev z0L:Stmt:=inClass (top 1) 5
abbrev z0t:Stmt:=inClass (top 11) 0
abbrev z22:Stmt:=inClass (top 11) 1
abbrev z1V:Stmt:=inClass (top 11) 2
abbrev z23:Stmt:=inClass (top 11) 3
abbrev z1L:Stmt:=inClass (top 11) 4
section
variable {P:Program} {w:World} {K:PySem.W.Frag} {mg:Str->Option Value} {base:Heap}
inductive Is(K:PySem.W.Frag)(mg:Str->Option Value)(x:Str)(st:Stmt):Prop
 | mk (f:Addr) (fd:FuncData) (h0:Fun K x x st f fd) (h1:mg x=some (.ref f))
inductive FD(K:PySem.W.Frag)(x:Str)(st:Stmt):Prop
 | mk {f:Addr} {od an:Option Addr} {sl:Array (Option Value)} {oc kV dc pm cd ct:Value} (a:PySem.W.nsIn K mainGlobals x=some (some (.ref f))) (l:K.lookup f=some ⟨oc,od,.func (PySem.W.fnOf x x (defArgs st) (defBody st) (defScope st) .none kV dc pm an cd ct),sl⟩) (c:PySem.W.codeIn K cd x=true) (k:PySem.W.keepIn K (.ref f)=true):FD K x st
theorem FD.is{h:Heap}{x:Str}{st:Stmt}(X:K.In h)(G:h.Ns mainGlobals mg)(d:FD K x st):Is K mg x st:=by
 cases d with
 | mk a l c k=>exact⟨_,_,z8z (st:=st) l c k,PySem.W.mg_of X G a⟩
inductive MD(K:PySem.W.Frag)(C:Addr)(x q:Str)(st:Stmt):Prop
 | mk {f:Addr} {od an:Option Addr} {sl:Array (Option Value)} {oc kV dc pm cd ct:Value} (a:PySem.W.findIn K (.ref C) x=some (some (.ref f))) (i:PySem.W.isFn K (.ref f)=true) (l:K.lookup f=some ⟨oc,od,.func (PySem.W.fnOf x q (defArgs st) (defBody st) (defScope st) .none kV dc pm an cd ct),sl⟩) (c:PySem.W.codeIn K cd q=true) (k:PySem.W.keepIn K (.ref f)=true):MD K C x q st
theorem MD.is{C:Addr}{y x q:Str}{st:Stmt}(aC:PySem.W.nsIn K mainGlobals y=some (some (.ref C)))(cl:Cls K C)(d:MD K C x q st):IsM K y x q st:=by
 cases d with
 | mk a i l c k=>exact⟨C,_,_,aC,cl,⟨a,i,k⟩,z8z (st:=st) l c k⟩
theorem MD.init{h:Heap}{C:Addr}{y q:Str}{st:Stmt}{fs:List Str}(X:K.In h)(G:h.Ns mainGlobals mg)(aC:PySem.W.nsIn K mainGlobals y=some (some (.ref C)))(cl:Cls K C)(mk:PySem.W.makesIn K C=true)(kc:PySem.W.keepIn K (.ref C)=true)(na:∀ x∈fs,NoAttr K C x)(d:MD K C "__init__" q st):IsI K mg y q st fs:=by
 cases d with
 | mk a i l c k=>exact⟨C,_,_,aC,PySem.W.mg_of X G aC,⟨mk,a,i,kc⟩,cl,na,z8z (st:=st) l c k⟩
def z0k:List D->Option (List D):=fun ds=>match ds with | [x1]=>some [x1,(.int 0),(.int 1)] | _=>none
theorem z2R:FnScope ["self","prime"] ["self","prime"] (defScope z0j):=qS (by decide +kernel)
theorem z2S(hf:IsI K mg "PrimeField" "PrimeField.__init__" z0j ["prime","nought","unit"]):KCal P w K mg base "PrimeField" 1 ["prime","nought","unit"] z0k:=by
 obtain⟨C,f,fd,kC,hm,M,cl,na,F⟩:=hf
 refine initOk kC hm M F z2R (F.binds fun _ _ _ _ _ _ us hl=>by obtain⟨a0,a1,rfl⟩:=len2 hl;rfl) (by decide) (fun xs hx=>match xs,hx with | [_,_,_],_=>by first | rfl | with_unfolding_all rfl | simp +decide [putAll,putF]) (fun ds fds e=>?_) (fun cdv A outer s H E=>(z7Y cl (na "prime" (by simp)) (pv 0) (zeJ (pv 1)) (z7Y cl (na "nought" (by simp)) (pv 0) zcO (z7Y cl (na "unit" (by simp)) (pv 0) zcO zeK)))) (fun Z H A p ws ds fds rs e=>?_)
 ·unfold z0k at e
  split at e
  ·rfl
  ·cases e
 ·unfold z0k at e
  split at e
  ·cases e
   cases rs with
   | @cons v1 _ _ _ r1 rs =>
    cases rs
    exact⟨[v1,(.int 0),(.int 1)],rfl,rfl,(.cons r1 (.cons (.int _) (.cons (.int _) .nil)))⟩
  ·cases e
theorem sc_PrimeField_added:FnScope ["self","one","other"] ["self","one","other"] (defScope z1e):=qS (by decide +kernel)
def z0H:GS:=(sRet (f2 gModI (f2 gAdd (fVar 1) (fVar 2)) (f1 (gFld ["PrimeField"] "prime") (fVar 0))))
def zF:GF:=mkFn 3 0 z0H
theorem z3J(hf:IsM K "PrimeField" "added" "PrimeField.added" z1e)(f_prime:qC K ["PrimeField"] "prime"):MCal P w K mg base "PrimeField" "added" 1 zF:=by
 obtain⟨C,f,fd,kC,cl,me,F⟩:=hf
 have nd:=sc_PrimeField_added.nd
 exact⟨C,f,fd,["self","one","other"],kC,cl,me,fnD F sc_PrimeField_added rfl (fun _ _ _ _ _ _ hr=>(zh (zG (de_op dmod_int (de_op dadd (dv 1).w (dv 2).w).w (z0f (cs:=["PrimeField"]) f_prime (dv 0).w).w)))),F.binds fun _ _ _ _ _ _ us hl=>by obtain⟨a0,a1,a2,rfl⟩:=len3 hl;rfl⟩
theorem sc_PrimeField_lessened:FnScope ["self","one","other"] ["self","one","other"] (defScope z0K):=qS (by decide +kernel)
def z0l:GS:=(sRet (f2 gModI (f2 gSubI (fVar 1) (fVar 2)) (f1 (gFld ["PrimeField"] "prime") (fVar 0))))
def zD:GF:=mkFn 3 0 z0l
theorem z2T(hf:IsM K "PrimeField" "lessened" "PrimeField.lessened" z0K)(f_prime:qC K ["PrimeField"] "prime"):MCal P w K mg base "PrimeField" "lessened" 1 zD:=by
 obtain⟨C,f,fd,kC,cl,me,F⟩:=hf
 have nd:=sc_PrimeField_lessened.nd
 exact⟨C,f,fd,["self","one","other"],kC,cl,me,fnD F sc_PrimeField_lessened rfl (fun _ _ _ _ _ _ hr=>(zh (zG (de_op dmod_int (de_op zW (dv 1).w (dv 2).w).w (z0f (cs:=["PrimeField"]) f_prime (dv 0).w).w)))),F.binds fun _ _ _ _ _ _ us hl=>by obtain⟨a0,a1,a2,rfl⟩:=len3 hl;rfl⟩
theorem sc_PrimeField_multiplied:FnScope ["self","one","other"] ["self","one","other"] (defScope z0y):=qS (by decide +kernel)
def z0a:GS:=(sRet (f2 gModI (f2 gMulI (fVar 1) (fVar 2)) (f1 (gFld ["PrimeField"] "prime") (fVar 0))))
def zy:GF:=mkFn 3 0 z0a
theorem z2y(hf:IsM K "PrimeField" "multiplied" "PrimeField.multiplied" z0y)(f_prime:qC K ["PrimeField"] "prime"):MCal P w K mg base "PrimeField" "multiplied" 1 zy:=by
 obtain⟨C,f,fd,kC,cl,me,F⟩:=hf
 have nd:=sc_PrimeField_multiplied.nd
 exact⟨C,f,fd,["self","one","other"],kC,cl,me,fnD F sc_PrimeField_multiplied rfl (fun _ _ _ _ _ _ hr=>(zh (zG (de_op dmod_int (de_op dmul_int (dv 1).w (dv 2).w).w (z0f (cs:=["PrimeField"]) f_prime (dv 0).w).w)))),F.binds fun _ _ _ _ _ _ us hl=>by obtain⟨a0,a1,a2,rfl⟩:=len3 hl;rfl⟩
theorem sc_inverse_by:FnScope ["prime","one","high","low","far","near","often"] ["prime","one"] (defScope z30):=qS (by decide +kernel)
def z3v:GS:=sWhile (asT (fVar 3)) (sSeq (sSet 6 (f2 gDivI (fVar 2) (fVar 3)))
 (sSeq (sPar 2 3 (aCons (fVar 3) (aCons (f2 gSubI (fVar 2) (f2 gMulI (fVar 6) (fVar 3))) aNil)))
 (sPar 4 5 (aCons (fVar 5) (aCons (f2 gSubI (fVar 4) (f2 gMulI (fVar 6) (fVar 5))) aNil)))))
def z2d:GS:=(sSeq (sPar 2 3 (aCons (fVar 0) (aCons (fVar 1) aNil)))
 (sSeq (sUnp (.tup [4,5]) (eTup (aCons (fC (.int 0)) (aCons (fC (.int 1)) aNil))))
 (sSeq z3v
 (sRet (f2 gModI (fVar 4) (fVar 0))))))
def z1C:GF:=mkFn 2 5 z2d
theorem z6u(hf:Is K mg "inverse_by" z30):Cal P w K mg base "inverse_by" ["prime","one"] 1 z1C:=by
 obtain⟨f,fd,F,hm⟩:=hf
 have nd:=sc_inverse_by.nd
 exact⟨f,fd,fnD F sc_inverse_by rfl (fun _ _ _ _ _ _ hr=>(dss_cons (z8B (i:=2) (j:=3) nd (by decide) (z8 (dv 0) (z8 (dv 1) zj)) (by rfl))
   (dss_cons (zar (z2x (z8 de_int (z8 de_int zj))) (z40 (zX (i:=4) nd (zX (i:=5) nd z2E))))
   (dss_cons (z2D (z20 (dv 3).w (fun _=>rfl)) (dss_cons (ds_set (i:=6) nd (de_op z3k (dv 2).w (dv 3).w))
   (dss_cons (z8B (i:=2) (j:=3) nd (by decide) (z8 (dv 3) (z8 (de_op zW (dv 2).w (de_op dmul_int (dv 6).w (dv 3).w).w) zj)) (by rfl))
   (zh (z8B (i:=4) (j:=5) nd (by decide) (z8 (dv 5) (z8 (de_op zW (dv 4).w (de_op dmul_int (dv 6).w (dv 5).w).w) zj)) (by rfl))))))
   (zh (zG (de_op dmod_int (dv 4).w (dv 0).w))))))),hm,F.kp,F.binds fun _ _ _ _ _ _ us hl=>by obtain⟨a0,a1,rfl⟩:=len2 hl;rfl⟩
theorem sc_PrimeField_divided:FnScope ["self","one","other"] ["self","one","other"] (defScope z0W):=qS (by decide +kernel)
def z0s:GS:=(sRet (f2 gModI (f2 gMulI (fVar 1) (fCall z1C (aCons (f1 (gFld ["PrimeField"] "prime") (fVar 0)) (aCons (fVar 2) aNil)))) (f1 (gFld ["PrimeField"] "prime") (fVar 0))))
def zw:GF:=mkFn 3 0 z0s
theorem z35(hf:IsM K "PrimeField" "divided" "PrimeField.divided" z0W)(z3g:Cal P w K mg base "inverse_by" ["prime","one"] 1 z1C)(f_prime:qC K ["PrimeField"] "prime"):MCal P w K mg base "PrimeField" "divided" 2 zw:=by
 obtain⟨C,f,fd,kC,cl,me,F⟩:=hf
 have nd:=sc_PrimeField_divided.nd
 exact⟨C,f,fd,["self","one","other"],kC,cl,me,fnD F sc_PrimeField_divided rfl (fun _ _ _ _ _ _ hr=>(zh (zG (de_op dmod_int (de_op dmul_int (dv 1).w (zH z3g hr (z8 (z0f (cs:=["PrimeField"]) f_prime (dv 0).w) (z8 (dv 2) zj))).w).w (z0f (cs:=["PrimeField"]) f_prime (dv 0).w).w)))),F.binds fun _ _ _ _ _ _ us hl=>by obtain⟨a0,a1,a2,rfl⟩:=len3 hl;rfl⟩
theorem sc_PrimeField_simplest:FnScope ["self","numbers"] ["self","numbers"] (defScope z0L):=qS (by decide +kernel)
def z1D:GS:=(sRet (f1 gTuple (fVar 1)))
def zL:GF:=mkFn 2 0 z1D
theorem z2U(hf:IsM K "PrimeField" "simplest" "PrimeField.simplest" z0L)(zP:mg "tuple"=none):MCal P w K mg base "PrimeField" "simplest" 1 zL:=by
 obtain⟨C,f,fd,kC,cl,me,F⟩:=hf
 have nd:=sc_PrimeField_simplest.nd
 exact⟨C,f,fd,["self","numbers"],kC,cl,me,fnD F sc_PrimeField_simplest rfl (fun _ _ _ _ _ _ hr=>(zh (zG (z4I z2C rfl zP (dv 1).w)))),F.binds fun _ _ _ _ _ _ us hl=>by obtain⟨a0,a1,rfl⟩:=len2 hl;rfl⟩
theorem sc_Mender_height:FnScope ["self"] ["self"] (defScope z22):=qS (by decide +kernel)
def z36:GS:=(sRet (f2 gIx (f2 gIx (f1 (gFld ["Mender"] "rises") (fVar 0)) (f1 gNeg (fC (.int 1)))) (fC (.int 1))))
def zu:GF:=mkFn 1 0 z36
theorem z4J(hf:IsM K "Mender" "height" "Mender.height" z22)(f_rises:qC K ["Mender"] "rises"):MCal P w K mg base "Mender" "height" 1 zu:=by
 obtain⟨C,f,fd,kC,cl,me,F⟩:=hf
 have nd:=sc_Mender_height.nd
 exact⟨C,f,fd,["self"],kC,cl,me,fnD F sc_Mender_height rfl (fun _ _ _ _ _ _ hr=>(zh (zG (z0c (z0c (z0f (cs:=["Mender"]) f_rises (dv 0).w).w (z2X (de_int).w).w (fun _ _=>rfl)).w (de_int).w (fun _ _=>rfl))))),F.binds fun _ _ _ _ _ _ us hl=>by obtain⟨a0,rfl⟩:=len1 hl;rfl⟩
theorem sc_number_at:FnScope ["field","row","place"] ["field","row","place"] (defScope z3G):=qS (by decide +kernel)
def z1t:GS:=(sSeq (sIf (asB (fChain gLe gLt (fC (.int 0)) (fVar 2) (f1 gLen (fVar 1)))) (sRet (f2 gIx (fVar 1) (fVar 2))) sNext)
 (sRet (f1 (gFld ["PrimeField"] "nought") (fVar 0))))
def z24:GF:=mkFn 3 0 z1t
theorem z7i(hf:Is K mg "number_at" z3G)(zN:mg "len"=none)(f_nought:qC K ["PrimeField"] "nought"):Cal P w K mg base "number_at" ["field","row","place"] 1 z24:=by
 obtain⟨f,fd,F,hm⟩:=hf
 have nd:=sc_number_at.nd
 exact⟨f,fd,fnD F sc_number_at rfl (fun _ _ _ _ _ _ hr=>(dss_cons (z1U (z8H dle dlt (de_int).w (dv 2).w (z0v z05 rfl zN (dv 1).w).w) (zh (zG (z0c (dv 1).w (dv 2).w (fun _ _=>rfl)))) z08)
   (zh (zG (z0f (cs:=["PrimeField"]) f_nought (dv 0).w))))),hm,F.kp,F.binds fun _ _ _ _ _ _ us hl=>by obtain⟨a0,a1,a2,rfl⟩:=len3 hl;rfl⟩
theorem sc_weighed:FnScope ["field","weights","row","place","total","step","weight"] ["field","weights","row","place"] (defScope z5l):=qS (by decide +kernel)
def z5m:GS:=(sSet 4 (fMeth [("PrimeField",zF)] "added" (fVar 0) (aCons (fVar 4) (aCons (fMeth [("PrimeField",zy)] "multiplied" (fVar 0) (aCons (fVar 6) (aCons (fCall z24 (aCons (fVar 0) (aCons (fVar 2) (aCons (f2 gSubI (fVar 3) (fVar 5)) aNil)))) aNil))) aNil))))
def z3K:GS:=sFor (iEnumF (fVar 1)) (.tup [5,6]) z5m
def z44:GS:=(sSeq (sSet 4 (f1 (gFld ["PrimeField"] "nought") (fVar 0)))
 (sSeq z3K
 (sRet (fVar 4))))
def z1E:GF:=mkFn 4 3 z44
theorem z9r(hf:Is K mg "weighed" z5l)(z3Q:Cal P w K mg base "number_at" ["field","row","place"] 1 z24)(z0q:mg "enumerate"=none)(f_nought:qC K ["PrimeField"] "nought")(m_added:qM P w K mg base [("PrimeField",zF)] 1 "added")(m_multiplied:qM P w K mg base [("PrimeField",zy)] 1 "multiplied"):Cal P w K mg base "weighed" ["field","weights","row","place"] 2 z1E:=by
 obtain⟨f,fd,F,hm⟩:=hf
 have nd:=sc_weighed.nd
 exact⟨f,fd,fnD F sc_weighed rfl (fun _ _ _ _ _ _ hr=>(dss_cons (ds_set (i:=4) nd (z0f (cs:=["PrimeField"]) f_nought (dv 0).w))
   (dss_cons (z2M (z6q z0q (dv 1)) (z40 (zX (i:=5) nd (zX (i:=6) nd z2E))) (zh (ds_set (i:=4) nd (z2n (tab:=[("PrimeField",zF)]) m_added (hr.mono (by decide)) (dv 0) (z8 (dv 4) (z8 (z2n (tab:=[("PrimeField",zy)]) m_multiplied (hr.mono (by decide)) (dv 0) (z8 (dv 6) (z8 (zH z3Q hr (z8 (dv 0) (z8 (dv 2) (z8 (de_op zW (dv 3).w (dv 5).w) zj)))) zj))) zj))))))
   (zh (zG (dv 4)))))),hm,F.kp,F.binds fun _ _ _ _ _ _ us hl=>by obtain⟨a0,a1,a2,a3,rfl⟩:=len4 hl;rfl⟩
theorem sc_trimmed:FnScope ["nought","row","many"] ["nought","row"] (defScope z5k):=qS (by decide +kernel)
def z5n:GS:=sWhile (tAndF (asB (f2 gGt (fVar 2) (fC (.int 0)))) (asB (f2 gEq (f2 gIx (fVar 1) (f2 gSubI (fVar 2) (fC (.int 1)))) (fVar 0)))) (sAug 2 gSubI (fC (.int 1)))
def z45:GS:=(sSeq (sSet 2 (f1 gLen (fVar 1)))
 (sSeq z5n
 (sRet (f1 gTuple (fSl (fVar 1) pNo (pInt (fVar 2)))))))
def z1f:GF:=mkFn 2 1 z45
theorem z9s(hf:Is K mg "trimmed" z5k)(zN:mg "len"=none)(zP:mg "tuple"=none):Cal P w K mg base "trimmed" ["nought","row"] 1 z1f:=by
 obtain⟨f,fd,F,hm⟩:=hf
 have nd:=sc_trimmed.nd
 exact⟨f,fd,fnD F sc_trimmed rfl (fun _ _ _ _ _ _ hr=>(dss_cons (ds_set (i:=2) nd (z0v z05 rfl zN (dv 1).w))
   (dss_cons (z2D (z76 (z04 dgt (dv 2).w (de_int).w (nomark _)) (z5d (z04 (deq hr.units) (z0c (dv 1).w (de_op zW (dv 2).w (de_int).w).w (fun _ _=>rfl)).w (dv 0).w (nomark _)))).t (zh (zcM (i:=2) nd zeI de_int)))
   (zh (zG (z4I z2C rfl zP (z2b (dv 1) z7c (z4C (dv 2).w)).w)))))),hm,F.kp,F.binds fun _ _ _ _ _ _ us hl=>by obtain⟨a0,a1,rfl⟩:=len2 hl;rfl⟩
theorem sc_product_in:FnScope ["field","one","other","row","high","left","low","right"] ["field","one","other"] (defScope z31):=qS (by decide +kernel)
def z3w:GS:=(sPut 3 (f2 gAdd (fVar 4) (fVar 6)) (fMeth [("PrimeField",zF)] "added" (fVar 0) (aCons (f2 gIx (fVarW 3) (f2 gAdd (fVar 4) (fVar 6))) (aCons (fMeth [("PrimeField",zy)] "multiplied" (fVar 0) (aCons (fVar 5) (aCons (fVar 7) aNil))) aNil))))
def z3x:GS:=sFor (iEnumF (fVar 2)) (.tup [6,7]) z3w
def z2q:GS:=z3x
def z2r:GS:=sFor (iEnumF (fVar 1)) (.tup [4,5]) z2q
def z2e:GS:=(sSeq (sSetO 3 (o2 lRep (eLst (aCons (f1 (gFld ["PrimeField"] "nought") (fVar 0)) aNil)) (f2 gSubI (f2 gAdd (f1 gLen (fVar 1)) (f1 gLen (fVar 2))) (fC (.int 1)))))
 (sSeq z2r
 (sSeq (sFrz 3) (sRet (fCall z1f (aCons (f1 (gFld ["PrimeField"] "nought") (fVar 0)) (aCons (fVar 3) aNil)))))))
def z02:GF:=mkFn 3 5 z2e
theorem z6v(hf:Is K mg "product_in" z31)(z1q:Cal P w K mg base "trimmed" ["nought","row"] 1 z1f)(z0q:mg "enumerate"=none)(zN:mg "len"=none)(f_nought:qC K ["PrimeField"] "nought")(m_added:qM P w K mg base [("PrimeField",zF)] 1 "added")(m_multiplied:qM P w K mg base [("PrimeField",zy)] 1 "multiplied"):Cal P w K mg base "product_in" ["field","one","other"] 2 z02:=by
 obtain⟨f,fd,F,hm⟩:=hf
 have nd:=sc_product_in.nd
 exact⟨f,fd,fnD F sc_product_in rfl (fun _ _ _ _ _ _ hr=>(dss_cons (z3F (i:=3) nd (zcL (z1A (z8 (z0f (cs:=["PrimeField"]) f_nought (dv 0).w) zj)).w (de_op zW (de_op dadd (z0v z05 rfl zN (dv 1).w).w (z0v z05 rfl zN (dv 2).w).w).w (de_int).w).w))
   (dss_cons (z2M (z6q z0q (dv 1)) (z40 (zX (i:=4) nd (zX (i:=5) nd z2E))) (zh (z2M (z6q z0q (dv 2)) (z40 (zX (i:=6) nd (zX (i:=7) nd z2E))) (zh (z7e (i:=3) (pv 3) (de_op dadd (dv 4).w (dv 6).w).w (z2n (tab:=[("PrimeField",zF)]) m_added (hr.mono (by decide)) (dv 0) (z8 (z0c (dvw 3) (de_op dadd (dv 4).w (dv 6).w).w (fun _ _=>rfl)) (z8 (z2n (tab:=[("PrimeField",zy)]) m_multiplied (hr.mono (by decide)) (dv 0) (z8 (dv 5) (z8 (dv 7) zj))) zj))))))))
   (zh (z7d 3 (zG (zH z1q hr (z8 (z0f (cs:=["PrimeField"]) f_nought (dv 0).w) (z8 (dv 3) zj))))))))),hm,F.kp,F.binds fun _ _ _ _ _ _ us hl=>by obtain⟨a0,a1,a2,rfl⟩:=len3 hl;rfl⟩
theorem sc_paired:FnScope ["field","one","other","many","left","right"] ["field","one","other"] (defScope z6t):=qS (by decide +kernel)
def z4Y:GS:=(sSeq (sSet 3 (f2 gMax (f1 gLen (fVar 1)) (f1 gLen (fVar 2))))
 (sSeq (sSet 4 (f2 gAdd (f1 gList (fVar 1)) (f2 gMulA (eLst (aCons (f1 (gFld ["PrimeField"] "nought") (fVar 0)) aNil)) (f2 gSubI (fVar 3) (f1 gLen (fVar 1))))))
 (sSeq (sSet 5 (f2 gAdd (f1 gList (fVar 2)) (f2 gMulA (eLst (aCons (f1 (gFld ["PrimeField"] "nought") (fVar 0)) aNil)) (f2 gSubI (fVar 3) (f1 gLen (fVar 2))))))
 (sRet (asL (oZip (fVar 4) (fVar 5)))))))
def z3n:GF:=mkFn 3 3 z4Y
theorem zaC(hf:Is K mg "paired" z6t)(zN:mg "len"=none)(z0J:mg "list"=none)(z9J:mg "max"=none)(z8r:mg "zip"=none)(f_nought:qC K ["PrimeField"] "nought"):Cal P w K mg base "paired" ["field","one","other"] 1 z3n:=by
 obtain⟨f,fd,F,hm⟩:=hf
 have nd:=sc_paired.nd
 exact⟨f,fd,fnD F sc_paired rfl (fun _ _ _ _ _ _ hr=>(dss_cons (ds_set (i:=3) nd (zbJ (zcH rfl) rfl z9J (z0v z05 rfl zN (dv 1).w).w (z0v z05 rfl zN (dv 2).w).w))
   (dss_cons (ds_set (i:=4) nd (de_op dadd (z4I z7S rfl z0J (dv 1).w).w (de_op dmula (z1A (z8 (z0f (cs:=["PrimeField"]) f_nought (dv 0).w) zj)).w (de_op zW (dv 3).w (z0v z05 rfl zN (dv 1).w).w).w).w))
   (dss_cons (ds_set (i:=5) nd (de_op dadd (z4I z7S rfl z0J (dv 2).w).w (de_op dmula (z1A (z8 (z0f (cs:=["PrimeField"]) f_nought (dv 0).w) zj)).w (de_op zW (dv 3).w (z0v z05 rfl zN (dv 2).w).w).w).w))
   (zh (zG (DF.de (zdx rfl z0J z8r (dv 4).w (dv 5).w)))))))),hm,F.kp,F.binds fun _ _ _ _ _ _ us hl=>by obtain⟨a0,a1,a2,rfl⟩:=len3 hl;rfl⟩
theorem sc_less_in:FnScope ["field","one","other"] ["field","one","other"] (defScope z43):=qS (by decide +kernel)
def z5o:FO:=fComp 2 [0] (iSeq (fCall z3n (aCons (fVar 0) (aCons (fVar 1) (aCons (fVar 2) aNil))))) (.tup [0,1]) fTrue (fMeth [("PrimeField",zD)] "lessened" (fVar 2) (aCons (fVar 0) (aCons (fVar 1) aNil)))
def z7j:GS:=(sRet (fCall z1f (aCons (f1 (gFld ["PrimeField"] "nought") (fVar 0)) (aCons (asL z5o) aNil))))
def z25:GF:=mkFn 3 0 z7j
theorem z9t(hf:Is K mg "less_in" z43)(z1q:Cal P w K mg base "trimmed" ["nought","row"] 1 z1f)(z6M:Cal P w K mg base "paired" ["field","one","other"] 1 z3n)(f_nought:qC K ["PrimeField"] "nought")(m_lessened:qM P w K mg base [("PrimeField",zD)] 1 "lessened"):Cal P w K mg base "less_in" ["field","one","other"] 2 z25:=by
 obtain⟨f,fd,F,hm⟩:=hf
 have nd:=sc_less_in.nd
 exact⟨f,fd,fnD F sc_less_in rfl (fun _ _ _ _ _ _ hr=>(zh (zG (zH z1q hr (z8 (z0f (cs:=["PrimeField"]) f_nought (dv 0).w) (z8 (DF.de (z1I (N:=["left","right","field"]) (k:=2) (fr:=[0]) (compOkC (sc:=defScope z43) (N0:=["field","one","other"]) (by rfl) (by rfl) (by decide +kernel) (fun _ h=>z0r h)) (by decide) (z66 (zH z6M hr (z8 (dv 0) (z8 (dv 1) (z8 (dv 2) zj))))) (fun _ _ _ _=>by exact(z40 (zX (i:=0) (show List.Nodup (α:=Str) ["left","right","field"] by decide +kernel) (zX (i:=1) (show List.Nodup (α:=Str) ["left","right","field"] by decide +kernel) z2E)))) (fun _ _ _ _=>z0G) (fun _ _ _ _=>by exact(z2n (tab:=[("PrimeField",zD)]) m_lessened (hr.mono (by decide)) (dv 2) (z8 (dv 0) (z8 (dv 1) zj)))))) zj)))))),hm,F.kp,F.binds fun _ _ _ _ _ _ us hl=>by obtain⟨a0,a1,a2,rfl⟩:=len3 hl;rfl⟩
theorem sc_Mender_mended:FnScope ["self","fault","field","moved","here"] ["self","fault"] (defScope z23):=qS (by decide +kernel)
def z1g:GS:=(sSeq (sSet 2 (f1 (gFld ["Mender"] "field") (fVar 0)))
 (sSeq (sSet 3 (f2 gAddA (f2 gMulTA (eTup (aCons (f1 (gFld ["PrimeField"] "nought") (fVar 2)) aNil)) (f1 (gFld ["Mender"] "since") (fVar 0))) (f1 (gFld ["Mender"] "failed") (fVar 0))))
 (sSeq (sSet 4 (fCall z02 (aCons (fVar 2) (aCons (eLst (aCons (f1 (gFld ["Mender"] "fault") (fVar 0)) aNil)) (aCons (f1 (gFld ["Mender"] "below") (fVar 0)) aNil)))))
 (sRet (fMeth [("PrimeField",zL)] "simplest" (fVar 2) (aCons (fCall z25 (aCons (fVar 2) (aCons (fVar 4) (aCons (fCall z02 (aCons (fVar 2) (aCons (eLst (aCons (fVar 1) aNil)) (aCons (fVar 3) aNil)))) aNil)))) aNil))))))
def z03:GF:=mkFn 2 3 z1g
theorem z4K(hf:IsM K "Mender" "mended" "Mender.mended" z23)(z2l:Cal P w K mg base "product_in" ["field","one","other"] 2 z02)(z5L:Cal P w K mg base "less_in" ["field","one","other"] 2 z25)(f_below:qC K ["Mender"] "below")(f_failed:qC K ["Mender"] "failed")(f_fault:qC K ["Mender"] "fault")(f_field:qC K ["Mender"] "field")(f_nought:qC K ["PrimeField"] "nought")(f_since:qC K ["Mender"] "since")(m_simplest:qM P w K mg base [("PrimeField",zL)] 1 "simplest"):MCal P w K mg base "Mender" "mended" 3 z03:=by
 obtain⟨C,f,fd,kC,cl,me,F⟩:=hf
 have nd:=sc_Mender_mended.nd
 exact⟨C,f,fd,["self","fault"],kC,cl,me,fnD F sc_Mender_mended rfl (fun _ _ _ _ _ _ hr=>(dss_cons (ds_set (i:=2) nd (z0f (cs:=["Mender"]) f_field (dv 0).w))
   (dss_cons (ds_set (i:=3) nd (de_op dadda (de_op dmulTA (z2x (z8 (z0f (cs:=["PrimeField"]) f_nought (dv 2).w) zj)).w (z0f (cs:=["Mender"]) f_since (dv 0).w).w).w (z0f (cs:=["Mender"]) f_failed (dv 0).w).w))
   (dss_cons (ds_set (i:=4) nd (zH z2l hr (z8 (dv 2) (z8 (z1A (z8 (z0f (cs:=["Mender"]) f_fault (dv 0).w) zj)) (z8 (z0f (cs:=["Mender"]) f_below (dv 0).w) zj)))))
   (zh (zG (z2n (tab:=[("PrimeField",zL)]) m_simplest (hr.mono (by decide)) (dv 2) (z8 (zH z5L hr (z8 (dv 2) (z8 (dv 4) (z8 (zH z2l hr (z8 (dv 2) (z8 (z1A (z8 (dv 1) zj)) (z8 (dv 3) zj)))) zj)))) zj)))))))),F.binds fun _ _ _ _ _ _ us hl=>by obtain⟨a0,a1,rfl⟩:=len2 hl;rfl⟩
def z46:GF:=fun _ _=>none
theorem z5P(hf:IsM K "Mender" "grow" "Mender.grow" z1V):MCal P w K mg base "Mender" "grow" 1 z46:=by
 obtain⟨C,f,fd,kC,cl,me,F⟩:=hf
 exact⟨C,f,fd,["self","row"],kC,cl,me,⟨fun _ _ _ _ h=>(z4V h).elim,fun _ _ _ _ _ _ _ _ _ _ _ _ _ h=>(z4V h).elim⟩,F.binds fun _ _ _ _ _ _ us hl=>by obtain⟨a0,a1,rfl⟩:=len2 hl;rfl⟩
theorem sc_Mender_is_sure:FnScope ["self","places"] ["self","places"] (defScope z1L):=qS (by decide +kernel)
def z2O:GS:=(sRet (f2 gGe (fVar 1) (f2 gAdd (f2 gAdd (f2 gMulI (fC (.int 2)) (fMeth [("Mender",zu)] "height" (fVar 0) aNil)) (f1 (gFld ["Mender"] "off") (fVar 0))) (fC (.int 1)))))
def zR:GF:=mkFn 2 0 z2O
theorem z4j(hf:IsM K "Mender" "is_sure" "Mender.is_sure" z1L)(f_off:qC K ["Mender"] "off")(m_height:qM P w K mg base [("Mender",zu)] 1 "height"):MCal P w K mg base "Mender" "is_sure" 2 zR:=by
 obtain⟨C,f,fd,kC,cl,me,F⟩:=hf
 have nd:=sc_Mender_is_sure.nd
 exact⟨C,f,fd,["self","places"],kC,cl,me,fnD F sc_Mender_is_sure rfl (fun _ _ _ _ _ _ hr=>(zh (zG (z2a dge (dv 1).w (de_op dadd (de_op dadd (de_op dmul_int (de_int).w (z4X (tab:=[("Mender",zu)]) m_height (hr.mono (by decide)) (dv 0)).w).w (z0f (cs:=["Mender"]) f_off (dv 0).w).w).w (de_int).w).w (nomark _))))),F.binds fun _ _ _ _ _ _ us hl=>by obtain⟨a0,a1,rfl⟩:=len2 hl;rfl⟩
theorem sc_top_with:FnScope ["field","below","row","many"] ["field","below","row","many"] (defScope z3m):=qS (by decide +kernel)
def z4E:FO:=fComp 1 [0,1,2] (iRange1 (fVar 3)) (.one 0) fTrue (fCall z1E (aCons (fVar 1) (aCons (fVar 2) (aCons (fVar 3) (aCons (fVar 0) aNil)))))
def z6a:GS:=(sRet (fCall z1f (aCons (f1 (gFld ["PrimeField"] "nought") (fVar 0)) (aCons (asL z4E) aNil))))
def z2z:GF:=mkFn 4 0 z6a
theorem z82(hf:Is K mg "top_with" z3m)(z2B:Cal P w K mg base "weighed" ["field","weights","row","place"] 2 z1E)(z1q:Cal P w K mg base "trimmed" ["nought","row"] 1 z1f)(zI:mg "range"=none)(f_nought:qC K ["PrimeField"] "nought"):Cal P w K mg base "top_with" ["field","below","row","many"] 3 z2z:=by
 obtain⟨f,fd,F,hm⟩:=hf
 have nd:=sc_top_with.nd
 exact⟨f,fd,fnD F sc_top_with rfl (fun _ _ _ _ _ _ hr=>(zh (zG (zH z1q hr (z8 (z0f (cs:=["PrimeField"]) f_nought (dv 0).w) (z8 (DF.de (z1I (N:=["place","field","below","row"]) (k:=1) (fr:=[0,1,2]) (compOkC (sc:=defScope z3m) (N0:=["field","below","row","many"]) (by rfl) (by rfl) (by decide +kernel) (fun _ h=>z0r h)) (by decide) (z0B zI (dv 3)) (fun _ _ _ _=>by exact(z0o (i:=0) (show List.Nodup (α:=Str) ["place","field","below","row"] by decide +kernel))) (fun _ _ _ _=>z0G) (fun _ _ _ _=>by exact(zH z2B hr (z8 (dv 1) (z8 (dv 2) (z8 (dv 3) (z8 (dv 0) zj)))))))) zj)))))),hm,F.kp,F.binds fun _ _ _ _ _ _ us hl=>by obtain⟨a0,a1,a2,a3,rfl⟩:=len4 hl;rfl⟩
theorem sc_settled_by:FnScope ["field","top","below","ahead","least"] ["field","top","below"] (defScope z1B):=qS (by decide +kernel)
def z3y:GS:=sWhile (asB (f2 gEq (f2 gIx (fVar 2) (fVar 3)) (f1 (gFld ["PrimeField"] "nought") (fVar 0)))) (sAug 3 gAddI (fC (.int 1)))
def z3z:FO:=fComp 1 [4,0] (iSeq (fSl (fVar 1) (pInt (fVar 3)) pNo)) (.one 0) fTrue (fMeth [("PrimeField",zw)] "divided" (fVar 2) (aCons (fVar 0) (aCons (fVar 1) aNil)))
def z3A:FO:=fComp 1 [4,0] (iSeq (fSl (fVar 2) (pInt (fVar 3)) pNo)) (.one 0) fTrue (fMeth [("PrimeField",zw)] "divided" (fVar 2) (aCons (fVar 0) (aCons (fVar 1) aNil)))
def z2f:GS:=(sSeq (sSet 3 (fC (.int 0)))
 (sSeq z3y
 (sSeq (sSet 4 (f2 gIx (fVar 2) (fVar 3)))
 (sRet (eTup (aCons (f1 gTuple (asL z3z)) (aCons (f1 gTuple (asL z3A)) aNil)))))))
def z18:GF:=mkFn 3 2 z2f
theorem z6w(hf:Is K mg "settled_by" z1B)(zP:mg "tuple"=none)(f_nought:qC K ["PrimeField"] "nought")(m_divided:qM P w K mg base [("PrimeField",zw)] 2 "divided"):Cal P w K mg base "settled_by" ["field","top","below"] 3 z18:=by
 obtain⟨f,fd,F,hm⟩:=hf
 have nd:=sc_settled_by.nd
 exact⟨f,fd,fnD F sc_settled_by rfl (fun _ _ _ _ _ _ hr=>(dss_cons (ds_set (i:=3) nd de_int)
   (dss_cons (z2D (z04 (deq hr.units) (z0c (dv 2).w (dv 3).w (fun _ _=>rfl)).w (z0f (cs:=["PrimeField"]) f_nought (dv 0).w).w (nomark _)) (zh (zcM (i:=3) nd zeH de_int)))
   (dss_cons (ds_set (i:=4) nd (z0c (dv 2).w (dv 3).w (fun _ _=>rfl)))
   (zh (zG (z2x (z8 (z4I z2C rfl zP (DF.de (z1I (N:=["each","least","field"]) (k:=1) (fr:=[4,0]) (compOkC (sc:=defScope z1B) (N0:=["field","top","below","ahead","least"]) (by rfl) (by rfl) (by decide +kernel) (fun _ h=>z0r h)) (by decide) (z66 (z2b (dv 1) (z4C (dv 3).w) z7c)) (fun _ _ _ _=>by exact(z0o (i:=0) (show List.Nodup (α:=Str) ["each","least","field"] by decide +kernel))) (fun _ _ _ _=>z0G) (fun _ _ _ _=>by exact(z2n (tab:=[("PrimeField",zw)]) m_divided (hr.mono (by decide)) (dv 2) (z8 (dv 0) (z8 (dv 1) zj)))))).w) (z8 (z4I z2C rfl zP (DF.de (z1I (N:=["each","least","field"]) (k:=1) (fr:=[4,0]) (compOkC (sc:=defScope z1B) (N0:=["field","top","below","ahead","least"]) (by rfl) (by rfl) (by decide +kernel) (fun _ h=>z0r h)) (by decide) (z66 (z2b (dv 2) (z4C (dv 3).w) z7c)) (fun _ _ _ _=>by exact(z0o (i:=0) (show List.Nodup (α:=Str) ["each","least","field"] by decide +kernel))) (fun _ _ _ _=>z0G) (fun _ _ _ _=>by exact(z2n (tab:=[("PrimeField",zw)]) m_divided (hr.mono (by decide)) (dv 2) (z8 (dv 0) (z8 (dv 1) zj)))))).w) zj))))))))),hm,F.kp,F.binds fun _ _ _ _ _ _ us hl=>by obtain⟨a0,a1,a2,rfl⟩:=len3 hl;rfl⟩
theorem z47:FnScope ["self","field","off"] ["self","field","off"] (defScope z0t):=qS (by decide +kernel)
inductive MakeM(P:Program)(w:World)(K:PySem.W.Frag)(mg:Str->Option Value)(base:Heap)(C:Addr):Prop
 | mk (f:Addr) (fd:FuncData) (h0:mg "Mender"=some (.ref C)) (h1:Mk K C f) (h2:FnOk P w K mg base CX0 1 f fd ["self","field","off"] (spIM K C)) (h3:Binds K fd ["self","field","off"] [])
theorem z9u{C:Addr}(kC:PySem.W.nsIn K mainGlobals "Mender"=some (some (.ref C)))(hf:IsI K mg "Mender" "Mender.__init__" z0t ["field","off","rises","below","failed","fault","since"])(f_unit:qC K ["PrimeField"] "unit"):MakeM P w K mg base C:=by
 obtain⟨C',f,fd,kC',hm,M,cl,na,F⟩:=hf
 rw[kC]at kC'
 cases kC'
 refine⟨f,fd,hm,M,F.ok z47 (fun vs H Q E h=>?_) (fun cdv A outer s H vs Q E hr h=>?_),F.binds fun _ _ _ _ _ _ us hl=>by obtain⟨a0,a1,a2,rfl⟩:=len3 hl;rfl⟩
 ·obtain⟨Z,A,p,dx,wf,wo,df,dq,u,s,rfl,_⟩:=h
  rfl
 ·obtain⟨Z,A0,p,dx,wf,wo,df,dq,u,s0,rfl,hp,zp,hA,S,rf,ro,eu,q⟩:=h
  refine⟨tInit K,?_,z9q cl na (f_unit _ (by simp)) hp zp hA S rf ro eu q⟩
  exact zK (z3T (pv 0) (pv 1) rfl) (zK (z3T (pv 0) (pv 2) rfl) (zK (z3T (pv 0) (za2 (zS (z6T (zS z2t (zS z2t z0U))) z0U)) rfl)
   (zK (z3T (pv 0) (z6T (zS (z5Z (pv 1) rfl) z0U)) rfl) (zK (z3T (pv 0) (z6T (zS (z5Z (pv 1) rfl) z0U)) rfl) (zK (z3T (pv 0) (z5Z (pv 1) rfl) rfl) (z2m (z3T (pv 0) z2t rfl)))))))
theorem sc_Mender_grow:FnScope ["self","row","place","fault","newer","risen"] ["self","row"] (defScope z1V):=qS (by decide +kernel)
def z83:FE:=f2 gSubI (f1 gLen (fVar 1)) (fC (.int 1))
def z84:FT:=asB (f2 gLe (fVar 2) (f1 (gFld ["Mender"] "off") (fVar 0)))
def z85:FE:=fCall z1E (aCons (f1 (gFld ["Mender"] "field") (fVar 0)) (aCons (f1 (gFld ["Mender"] "below") (fVar 0)) (aCons (fVar 1) (aCons (fVar 2) aNil))))
def z86:FT:=asB (f2 gEq (fVar 3) (f1 (gFld ["PrimeField"] "nought") (f1 (gFld ["Mender"] "field") (fVar 0))))
def z87:FE:=fMeth [("Mender",z03)] "mended" (fVar 0) (aCons (fVar 3) aNil)
def z88:FE:=f2 gSubI (f2 gSubI (fVar 2) (f1 (gFld ["Mender"] "off") (fVar 0))) (fMeth [("Mender",zu)] "height" (fVar 0) aNil)
def z89:FT:=asB (f2 gGt (fVar 5) (fMeth [("Mender",zu)] "height" (fVar 0) aNil))
def zaD:FE:=eTup (aCons (f2 gAdd (fVar 2) (fC (.int 1))) (aCons (fVar 5) aNil))
def z7k:Men->D->Sx->Option (Men × Sx):=gGrow z83 z84 z85 z86 z87 z88 z89 zaD
inductive GrowM(P:Program)(w:World)(K:PySem.W.Frag)(mg:Str->Option Value)(base:Heap)(C:Addr):Prop
 | mk (f:Addr) (fd:FuncData) (h0:Cls K C) (h1:Meth K C "grow" f) (h2:FnOk P w K mg base CX0 4 f fd ["self","row"] (spG K C z7k)) (h3:Binds K fd ["self","row"] [])
theorem z9v{C:Addr}(kC:PySem.W.nsIn K mainGlobals "Mender"=some (some (.ref C)))(hf:IsM K "Mender" "grow" "Mender.grow" z1V)(hi:IsI K mg "Mender" "Mender.__init__" z0t ["field","off","rises","below","failed","fault","since"])
  (z2B:Cal P w K mg base "weighed" ["field","weights","row","place"] 2 z1E) (zN:mg "len"=none) (f_below:qC K ["Mender"] "below") (f_field:qC K ["Mender"] "field") (f_nought:qC K ["PrimeField"] "nought") (f_off:qC K ["Mender"] "off")
  (m_height:qM P w K mg base [("Mender",zu)] 1 "height") (m_mended:qM P w K mg base [("Mender",z03)] 3 "mended"):GrowM P w K mg base C:=by
 obtain⟨C',f,fd,kC',cl,me,F⟩:=hf
 rw[kC]at kC'
 cases kC'
 obtain⟨C',f2,fd2,kC',hm,M,cl2,na,F2⟩:=hi
 rw[kC]at kC'
 cases kC'
 have nd:=sc_Mender_grow.nd
 refine⟨f,fd,cl,me,F.ok (k:=3) sc_Mender_grow (fun vs H Q E h=>?_) (fun cdv A outer s H vs Q E hr h=>?_),F.binds fun _ _ _ _ _ _ us hl=>by obtain⟨a0,a1,rfl⟩:=len2 hl;rfl⟩
 ·obtain⟨Z,A,p,q,dx,w,m,rd,s,m',s',rfl,_⟩:=h
  rfl
 ·obtain⟨Z,A0,p,q,dx,w,m,rd,s0,m',s',rfl,M0,np,nq,zp,zq,rw0,hA,S,e,hQ⟩:=h
  refine⟨tGrow K Z A0 z83 z84 z85 z86 z87 z88 z89 zaD,?_,z9p (E:=E) cl na kC M0 np nq zp zq rw0 hA S e hQ⟩
  exact zK (z2u (i:=2) nd rfl (by first | exact Or.inl rfl | exact Or.inr rfl) ((de_op zW (z0v z05 rfl zN (dv 1).w).w (de_int).w).go Z A0))
   (zK (z9Q ((z04 dle (dv 2).w (z0f (cs:=["Mender"]) f_off (dv 0).w).w (nomark _)).go Z A0) (z2m z9P) z54)
   (zK (z2u (i:=3) nd rfl (by first | exact Or.inl rfl | exact Or.inr rfl) ((zH z2B hr (z8 (z0f (cs:=["Mender"]) f_field (dv 0).w) (z8 (z0f (cs:=["Mender"]) f_below (dv 0).w) (z8 (dv 1) (z8 (dv 2) zj))))).go Z A0))
   (zK (z9Q ((z04 (deq hr.units) (dv 3).w (z0f (cs:=["PrimeField"]) f_nought (z0f (cs:=["Mender"]) f_field (dv 0).w).w).w (nomark _)).go Z A0) (zK (z6S (pv 0) z2t zcz) (z2m z9P)) z54)
   (zK (z2u (i:=4) nd rfl (by first | exact Or.inl rfl | exact Or.inr rfl) ((z2n (tab:=[("Mender",z03)]) m_mended (hr.mono (by decide)) (dv 0) (z8 (dv 3) zj)).go Z A0))
   (zK (z2u (i:=5) nd rfl (by first | exact Or.inl rfl | exact Or.inr rfl) ((de_op zW (de_op zW (dv 2).w (z0f (cs:=["Mender"]) f_off (dv 0).w).w).w (z4X (tab:=[("Mender",zu)]) m_height (hr.mono (by decide)) (dv 0)).w).go Z A0))
   (zK (z9Q ((z04 dgt (dv 5).w (z4X (tab:=[("Mender",zu)]) m_height (hr.mono (by decide)) (dv 0)).w (nomark _)).go Z A0)
    (zK (z6d (zer PySem.F.plainAttrs_list PySem.F.slot_list_append PySem.F.type_list_append z6Z (z5Z (pv 0) rfl) (zS ((z2x (z8 (de_op dadd (dv 2).w (de_int).w) (z8 (dv 5) zj))).go Z A0) z0U)))
     (z2m (z8u (z6T (zS (z5Z (pv 0) rfl) (zS (pv 3) (zS z2t z0U)))) (z9R rfl (z3j (zaA (pv 0)) (z3j (zaA (pv 0)) (z3j (zaA (pv 0)) z7I)))))))
    (z2m (z6S (pv 0) z2t zcz)))
   (z2m (z3T (pv 0) (pv 4) rfl))))))))
theorem sc_shortest_by:FnScope ["p","row","field","mender","places","n"] ["p","row"] (defScope z2G):=qS (by decide +kernel)
def z1W:GS:=sGrown 3 4 (aCons (fVar 2) (aCons (f1 gNeg (fC (.int 1))) aNil)) (aCons (fC (.int 1)) (aCons (f2 gAdd (f1 gLen (fVar 1)) (fC (.int 1))) aNil)) (aCons (fSl (fVar 1) pNo (pInt (fVar 4))) aNil) z7k
def z1h:GS:=(sSeq (sSet 2 (fMake "PrimeField" ["prime","nought","unit"] z0k (aCons (fVar 0) aNil)))
 (sSeq z1W
 (sSeq (sSet 5 (fMeth [("Mender",zu)] "height" (fVar 3) aNil))
 (sSeq (sIf (tNotF (asT (fMeth [("Mender",zR)] "is_sure" (fVar 3) (aCons (f1 gLen (fVar 1)) aNil)))) (sRet (eTup (aCons (fVar 5) (aCons (fC .none) aNil)))) sNext)
 (sRet (eTup (aCons (fVar 5) (aCons (fCall z18 (aCons (fVar 2) (aCons (fCall z2z (aCons (fVar 2) (aCons (f1 (gFld ["Mender"] "below") (fVar 3)) (aCons (fVar 1) (aCons (fVar 5) aNil))))) (aCons (f1 (gFld ["Mender"] "below") (fVar 3)) aNil)))) aNil))))))))
def z01:GF:=mkFn 2 4 z1h
theorem z5Q{C:Addr}(kC:PySem.W.nsIn K mainGlobals "Mender"=some (some (.ref C)))(hI:MakeM P w K mg base C)(hG:GrowM P w K mg base C)(hf:Is K mg "shortest_by" z2G)(z4t:Cal P w K mg base "top_with" ["field","below","row","many"] 3 z2z)(z3h:Cal P w K mg base "settled_by" ["field","top","below"] 3 z18)(zN:mg "len"=none)(zI:mg "range"=none)(f_below:qC K ["Mender"] "below")
  (m_height:qM P w K mg base [("Mender",zu)] 1 "height") (m_is_sure:qM P w K mg base [("Mender",zR)] 2 "is_sure") (k_PrimeField:KCal P w K mg base "PrimeField" 1 ["prime","nought","unit"] z0k):Cal P w K mg base "shortest_by" ["p","row"] 5 z01:=by
 obtain⟨f,fd,F,hm⟩:=hf
 obtain⟨fI,dI,mI,MI,oI,bI⟩:=hI
 obtain⟨fG,dG,cG,eG,oG,bG⟩:=hG
 have nd:=sc_shortest_by.nd
 exact⟨f,fd,fnD (k:=4) F sc_shortest_by rfl (fun _ _ _ _ _ _ hr=>(dss_cons (ds_set (i:=2) nd (zdt k_PrimeField hr (z8 (dv 0) zj)))
   (zaB (by decide) kC (fun Z A=>z2u (i:=3) nd rfl (by first | exact Or.inl rfl | exact Or.inr rfl) (za5 (E:=E0) MI oI (hr.mono (by decide)) rfl mI bI .nil pass0 ((z8 (dv 2) (z8 (z2X (de_int).w) zj)).go Z A)))
    (fun Z A=>zcx PassesOwn.never rfl (z6R rfl zI ((z8 de_int (z8 (de_op dadd (z0v z05 rfl zN (dv 1).w).w (de_int).w) zj)).go Z A)) (z6e (i:=4) nd rfl (by first | exact Or.inl rfl | exact Or.inr rfl))
     (z2m (z6d (za4 (E:=E0) (pv 3) cG eG oG (hr.mono (by decide)) bG .nil pass0 ((z8 (z2b (dv 1) z7c (z4C (dv 4).w)) zj).go Z A)))))
   (dss_cons (ds_set (i:=5) nd (z4X (tab:=[("Mender",zu)]) m_height (hr.mono (by decide)) (dv 3)))
   (dss_cons (z1U (z3Y (z20 (z2n (tab:=[("Mender",zR)]) m_is_sure (hr.mono (by decide)) (dv 3) (z8 (z0v z05 rfl zN (dv 1).w) zj)).w (fun _=>rfl))) (zh (zG (z2x (z8 (dv 5) (z8 z75 zj))))) z08)
   (zh (zG (z2x (z8 (dv 5) (z8 (zH z3h hr (z8 (dv 2) (z8 (zH z4t hr (z8 (dv 2) (z8 (z0f (cs:=["Mender"]) f_below (dv 3).w) (z8 (dv 1) (z8 (dv 5) zj))))) (z8 (z0f (cs:=["Mender"]) f_below (dv 3).w) zj)))) zj)))))))))),hm,F.kp,F.binds fun _ _ _ _ _ _ us hl=>by obtain⟨a0,a1,rfl⟩:=len2 hl;rfl⟩
theorem sc__law_begin:FnScope ["_law_script","_law_cells"] ["_law_script"] (defScope z32):=qS (by decide +kernel)
theorem z6x(hf:Is K mg "_law_begin" z32)(z0J:mg "list"=none):∃ f fd,FnOk P w K mg base CX0 1 f fd ["_law_script"] (spBegin K)/\mg "_law_begin"=some (.ref f)/\PySem.W.keepIn K (.ref f)=true/\Binds K fd ["_law_script"] []:=by
 obtain⟨f,fd,F,hm⟩:=hf
 refine⟨f,fd,?_,hm,F.kp,F.binds fun _ _ _ _ _ _ us hl=>by obtain⟨a0,rfl⟩:=len1 hl;rfl⟩
 have nd:=sc__law_begin.nd
 refine F.ok sc__law_begin (fun vs H Q E zgo=>by obtain⟨a,ns,e,_⟩:=zgo;subst e;rfl) (fun cdv A outer s H vs Q E hr zgp=>?_)
 obtain⟨a,ns,e,sq,hl,q⟩:=zgp
 subst e
 refine⟨_,zK (z2u (i:=1) nd rfl (Or.inl rfl) (z57 z2W rfl z0J rfl (zS (z8w sl_list (pv 0) za8 (za9 z2t)) z0U)))
  (zK (DS.at0 (z1U (z04 (deq hr.units) (dv 1).w (z1A zj).w (nomark _)) (zh (ds_set (i:=1) nd (z1A (z8 de_int zj)))) z08:DS _ _ z7V))
  (z2m (z8t (zdg (z8y z4v (pv 1) (z8y z4v z2t zdf)) rfl rfl (by simp) (by decide))))),?_⟩
 refine⟨_,rfl,63,rfl,a,_,rfl,sq,fun p hp=>⟨p,_,rfl,.inl (SqL.of ze),fun l hl2=>?_⟩⟩
 have ecut:cutV (ns.map V.int) none (some 63)=ns.map V.int:=by
  have e63:HT.sIx (ns.map V.int).length (ns.map V.int).length (some ((63:Nat):Int))=min 63 (ns.map V.int).length:=HT.sIx_nat _ _ _
  unfold cutV
  rw[show(some (63:Int))=some ((63:Nat):Int) from rfl,e63,HT.sIx_none,List.drop_zero]
  exact List.take_of_length_le (by rw[List.length_map];omega)
 rw[ecut]at hl2 ⊢
 have hpl:p≠l:=fun z=>by rw[<- z,ze]at hl2;cases hl2
 have hHl:H l=none:=by rw[zd (Ne.symm hpl)]at hl2;exact hl2
 generalize hH1:upd (upd H p (.lst (ns.map V.int))) l (.lst (ns.map V.int))=H1
 have X1:Ext none H H1:=fun b o eb nb=>by rw[<- hH1,zd (zf eb hHl),zd (zf eb hp)];exact eb
 have L1:H1 l=some (.lst (ns.map V.int)):=by rw[<- hH1];exact ze
 refine⟨[],[.non,.val (.list (ns.map PyData.int))],([],0),_,_,Al.repS (.non (.val (.lst L1 (fun z=>nomatch z) (fun a c z=>nomatch z) (z7a _ _ _ _ ns)) .nil)) (fun q hq=>nomatch hq) X1,(fun a c h=>nomatch h),zaw ns _ _,fun ow' σ' H2 R' S' fr=>?_⟩
 ·obtain⟨v,hv,rv⟩:=R'.val 1 _ rfl
  cases rv with
  | @lst c vs _ hc n1 n2 rs =>
   have evs:=z4B rs
   subst evs
   intro d hd
   refine⟨_,hv,(show(upd H2 d (.dK [])) d=some (.dK []) from ze),[(Sum.inr ("cells":Str),V.ref c),(Sum.inr ("turn":Str),V.int 0)],rfl,(by show 2<=15;decide),?_⟩
   have X2:∀ b o,H b=some o->H2 b=some o:=fun b o eb=>R'.ext b o eb (fun a c z=>nomatch z)
   have hHd:H d=none:=by
    cases e9:H d with
    | none=>rfl
    | some o=>rw[X2 d o e9]at hd;cases hd
   refine q d c _ (fun b o eb=>?_) ?_ ?_
   ·rw[zd (zf eb hHd),zd (zf eb hHd)];exact X2 b o eb
   ·rw[ze];rfl
   ·rw[zd (zf hc hd),zd (zf hc hd)];exact hc
theorem z8K{ds:List D}{st:Sx}{r:D × Sx}(e:zg ds st=some r):∃ many,ds=[.dict [],.int many]/\takeOk st many=true/\takeF st many=r:=by
 unfold zg at e
 split at e
 ·split at e
  ·next h=>exact⟨_,rfl,h,Option.some.inj e⟩
  ·cases e
 ·cases e
theorem zdB{Z:Zt}{H:Hp}{A:List Addr}{v:V}{d:D}(r:Rep K Z H A v d):∀ {n:Int},d=.int n->v=.int n:=by
 cases r <;> intro n e <;> cases e
 rfl
theorem zeM{Z:Zt}{H:Hp}{A:List Addr}{v:V}{d:D}(r:Rep K Z H A v d):d=.dict []->∃ a c,v=.ref a/\Z=some (a,c):=by
 cases r <;> intro e <;> cases e
 exact⟨_,_,rfl,by assumption⟩
theorem zdC{Z:Zt}{H:Hp}{A:List Addr}{vs:List V}{many:Int}(r:Reps K Z H A vs [.dict [],.int many]):∃ a c,vs=[.ref a,.int many]/\Z=some (a,c):=by
 obtain⟨v0,v1,rfl⟩:=len2 (show vs.length=2 from r.length)
 obtain⟨a,c,rfl,hZ⟩:=zeM r.head rfl
 cases r with
 | cons _ r=>cases zdB r.head rfl;exact⟨a,c,rfl,hZ⟩
section
variable {u A:TS} {E:Ends} {σ:L2.St} {H:Hp} {a c:Addr} {t:Int}
theorem zdD(h0:σ[0]?=some (some (.ref a)))(hA:H a=some (.dK (stDict c t)))(q:u E (σ.set 2 (some (.int (t + 1)))) H) :
  tSeq (tAsg (tOp (rI0 fun i j=>.int (i + j)) (tDGet (tVar 0) (tC (.str "turn"))) (tC (.int 1))) (gName 2)) u E σ H :=
 ⟨_,h0,a,_,rfl,(zat c t ▸ DGet.k (k:=Sum.inr "turn") hA),_,_,rfl,rfl,q⟩
theorem zeN{v:Int}(h0:σ[0]?=some (some (.ref a)))(h2:σ[2]?=some (some (.int v)))(hA:H a=some (.dK (stDict c t)))(q:u E σ (upd H a (.dK (stDict c v)))) :
  tSeq (sDPut (tVar 0) (tC (.str "turn")) (tVar 2)) u E σ H :=
 ⟨_,h2,_,h0,a,_,rfl,zeA c t v ▸ DPut.k (k:=Sum.inr "turn") hA (small1000 (by show 2<=1000;decide)),q⟩
theorem zbV{v:Int}{xs:List V}(h0:σ[0]?=some (some (.ref a)))(h2:σ[2]?=some (some (.int v)))(hA:H a=some (.dK (stDict c t)))(hc:H c=some (.lst xs))(hn:(xs.length:Int)≠0)(q:u E (σ.set 3 (some (.int (v.fmod xs.length)))) H) :
  tSeq (tAsg (tOp (rI (fun _ j=>j≠0) fun i j=>.int (i.fmod j)) (tVar 2) (tCB (fun xs H Q=>∃ p ys,xs=[.ref p]/\(SqL K H p ys\/SqT K H p ys)/\Q (.int ys.length) H) (tCons (tDGet (tVar 0) (tC (.str "cells"))) tNil))) (gName 3)) u E σ H :=
 ⟨_,h2,_,h0,a,_,rfl,(z6m c t ▸ DGet.k (k:=Sum.inr "cells") hA),c,_,rfl,.inl (SqL.of hc),_,_,rfl,rfl,hn,q⟩
theorem zdE{v:Int}{xs:List V}{x:V}(h0:σ[0]?=some (some (.ref a)))(h3:σ[3]?=some (some (.int v)))(hA:H a=some (.dK (stDict c t)))(hc:H c=some (.lst xs))(hx:atI xs v=some x)(q:u E (σ.set 4 (some x)) H) :
  tSeq (tAsg (tOp (rIxL K) (tDGet (tVar 0) (tC (.str "cells"))) (tVar 3)) (gName 4)) u E σ H :=
 ⟨_,h0,a,_,rfl,(z6m c t ▸ DGet.k (k:=Sum.inr "cells") hA),_,h3,c,_,_,x,rfl,rfl,SqL.of hc,hx,q⟩
theorem ten18:((10:Int) ^ (18:Int).toNat)=1000000000000000000:=by decide
theorem zgT{x:Int}(h4:σ[4]?=some (some (.int x)))(q1:1000000000000000000<=x->A {E with nx:=u E} σ H)(q2:¬ 1000000000000000000<=x->u E σ H) :
  tSeq (tIfS (tTest (tOp (rI0 fun i j=>.bl (decide (j<=i))) (tVar 4) (tOp (rI CPow fun i j=>.int (i ^ j.toNat)) (tC (.int 10)) (tC (.int 18))))) A tNext) u E σ H :=
 ⟨_,h4,_,_,rfl,rfl,⟨by decide,by decide,by decide⟩,_,_,rfl,rfl,_,rfl,ite2 (fun h=>q1 (ten18 ▸ of_decide_eq_true h)) (fun h=>q2 fun z=>h (decide_eq_true (ten18.symm ▸ z)))⟩
theorem zbW{x m v:Int}{xs:List V}{j:Nat}(h0:σ[0]?=some (some (.ref a)))(h1:σ[1]?=some (some (.int m)))(h3:σ[3]?=some (some (.int v)))(h4:σ[4]?=some (some (.int x)))(h5:5 < σ.length)(hA:H a=some (.dK (stDict c t)))(hc:H c=some (.lst xs))(hd:divOk x m=true)(hj:ixN xs.length v=some j)
  (q:∀ p,H p=none->E.rt (.int (x.fmod m)) (upd (upd H p (.tup [.int (x.fdiv m),.int (x.fmod m)])) c (.lst (xs.set j (.int (x.fdiv m)))))) :
  tSeq (tAsg (tCB (fun xs H Q=>∃ i j,xs=[.int i,.int j]/\divOk i j=true/\∀ p,H p=none->Q (.ref p) (upd H p (.tup [.int (i.fdiv j),.int (i.fmod j)]))) (tCons (tVar 4) (tCons (tVar 1) tNil))) (gTup K 2 (gCons (gSub (tDGet (tVar 0) (tC (.str "cells"))) (tVar 3) rSetL) (gCons (gName 5) gNil)))) (tRet (tVar 5)) E σ H :=
 ⟨_,h4,_,h1,_,_,rfl,hd,fun p hp=>⟨p,_,rfl,SqT.of ze,rfl,_,_,rfl,_,h0,a,_,rfl,(z6m c t ▸ DGet.k (k:=Sum.inr "cells") (by rw[zd (zf hA hp)];exact hA)),_,h3,c,_,_,j,rfl,rfl,(by rw[zd (zf hc hp)];exact hc),hj,_,_,rfl,rfl,_,List.getElem?_set_self h5,q p hp⟩⟩
end
theorem sc__law_take:FnScope ["_law_state","_law_many","_law_turn","_law_place","_law_cell","_law_digit","_law_mixed"] ["_law_state","_law_many"] (defScope z3H):=qS (by decide +kernel)
theorem z7l(hf:Is K mg "_law_take" z3H)(zN:mg "len"=none)(z6P:mg "divmod"=none):Cal P w K mg base "_law_take" ["_law_state","_law_many"] 1 zg:=by
  obtain⟨f,fd,F,hm⟩:=hf
  refine⟨f,fd,?_,hm,F.kp,F.binds fun _ _ _ _ _ _ us hl=>by obtain⟨a0,a1,rfl⟩:=len2 hl;rfl⟩
  have nd:=sc__law_take.nd
  refine F.ok sc__law_take (fun vs H Q E zgq=>?_) (fun cdv A outer s H vs Q E hr zgr=>?_)
  · obtain⟨Z,A0,ds,st,d,st',r,_,_,e,_⟩:=zgq
    obtain⟨m,rfl,_⟩:=z8K e
    exact r.length
  · obtain⟨Z,A0,ds,st,d,st',r,hA,S,e,q⟩:=zgr
    obtain⟨many,rfl,hok,e⟩:=z8K e
    obtain⟨a,c,rfl,hZ⟩:=zdC r
    obtain⟨cells,turn⟩:=st
    obtain⟨S1,S2⟩:=S a c hZ
    have ac:a≠c:=ze4 S1 S2 (by intro z;cases z)
    simp only[takeOk,Bool.and_eq_true,decide_eq_true_eq]at hok
    obtain⟨⟨⟨⟨⟨k1,k2⟩,k3⟩,k4⟩,k5⟩,k6⟩:=hok
    have hu:=zgP hr
    have pl0:0<=(turn + 1).fmod (cells.length:Int):=by rw[Int.fmod_eq_emod_of_nonneg _ (by omega)];exact Int.emod_nonneg _ (by omega)
    have pl1:(turn + 1).fmod (cells.length:Int) < (cells.length:Int):=by rw[Int.fmod_eq_emod_of_nonneg _ (by omega)];exact Int.emod_lt_of_pos _ (by omega)
    have plc:plcOf (cells,turn) < cells.length:=by unfold plcOf;dsimp only;omega
    have ecell:cells[plcOf (cells,turn)]?=some (celOf (cells,turn)):=by
      unfold celOf
      rw[List.getD_eq_getElem?_getD,List.getElem?_eq_getElem plc];rfl
    refine⟨_,zK (z2u (i:=2) nd rfl (Or.inl rfl) (zbq zcy (z6i hu (pv 0) z4v (fun _ _=>rfl)) z2t))
      (zK (zde hu (pv 0) z4v (pv 2) rfl)
      (zK (z2u (i:=3) nd rfl (Or.inl rfl) (zbq z9W (pv 2) (z3U z4w rfl zN PySem.boot_len (zS (z6i hu (pv 0) z4v (fun _ _=>rfl)) z0U))))
      (zK (z2u (i:=4) nd rfl (Or.inl rfl) (zeo ix_list (z6i hu (pv 0) z4v (fun _ _=>rfl)) (pv 3) (fun _ _=>rfl)))
      (zK (z9Q (zd7 zej (pv 4) (zbq zeg z2t z2t) (nomark _))
        (zK (z8u (z3U z79 rfl z6P rfl (zS (pv 4) (zS (pv 1) z0U))) (z9R rfl (z3j (zcw (z6i hu (pv 0) z4v (fun _ _=>rfl)) (pv 3) z8x) (z3j (z6e (i:=5) nd rfl (Or.inl rfl)) z7I))))
        (z2m (z8t (pv 5)))) z54)
      ((dss_cons (ds_set (i := 6) nd (de_op dmod_int (de_op dmul_int (de_op dadd_int (de_op dadd_int (de_op dmod_int (dv 4).w de_int.w).w (de_op dmul_int (de_op dmul_int (dv 2).w (dv 2).w).w de_int.w).w).w de_int.w).w de_int.w).w de_int.w))
        (dss_cons (ds_set (i:=6) nd (de_op dmod_int (de_op dmul_int (dv 6).w (dv 6).w).w de_int.w))
        (zh (zG (de_op dmod_int (de_op z3k (de_op dmod_int (de_op dmul_int (de_op dadd_int (dv 6).w (de_op dmul_int (dv 2).w de_int.w).w).w de_int.w).w de_int.w).w de_int.w).w (dv 1).w)))):DSs _ _ z7T) Z A0))))),?_⟩
    refine zdD rfl S1 ?_
    refine zeN rfl rfl S1 ?_
    have A1:(upd H a (.dK (stDict c (turn + 1)))) a=some (.dK (stDict c (turn + 1))):=ze
    have A2:(upd H a (.dK (stDict c (turn + 1)))) c=some (.lst (cells.map V.int)):=by rw[zd (Ne.symm ac)];exact S2
    have X1:Ext Z H (upd H a (.dK (stDict c (turn + 1)))):=fun b o eb nb=>by rw[zd (nb a c hZ).1];exact eb
    generalize upd H a (.dK (stDict c (turn + 1)))=H1 at *
    have el:((cells.map V.int).length:Int)=cells.length:=by rw[List.length_map]
    refine zbV (xs:=cells.map V.int) rfl rfl A1 A2 (by omega) ?_
    refine zdE (x:=.int (celOf (cells,turn))) rfl rfl A1 A2 ?_ ?_
    rotate_left
    refine zgT rfl (fun hc=>?_) (fun hc=>?_)
    rotate_left 2
    · rw[el,show(turn + 1).fmod (cells.length:Int)=((plcOf (cells,turn):Nat):Int) from by unfold plcOf;dsimp only;omega]
      exact atI_nat (by rw[List.getElem?_map,ecell];rfl)
    · have et:takeF (cells,turn) many=(.int ((celOf (cells,turn)).fmod many),(cells.set (plcOf (cells,turn)) ((celOf (cells,turn)).fdiv many),turn + 1)):=by unfold takeF;rw[if_pos hc]
      rw[et]at e
      cases e
      refine zbW (j:=plcOf (cells,turn)) rfl rfl rfl rfl (Nat.le_of_ble_eq_true rfl) A1 A2 (by unfold divOk;simp only[Bool.and_eq_true,decide_eq_true_eq];exact⟨by omega,k2⟩) ?_ fun p hp=>q _ _ (fun b o eb nb=>?_) (fun a' c' h'=>?_) (.int _)
      · rw[List.length_map]
        unfold ixN plcOf
        rw[if_pos pl0,if_pos pl1]
      · have eb1:=X1 b o eb nb
        rw[zd (nb a c hZ).2,zd (zf eb1 hp)];exact eb1
      · rw[hZ]at h'
        cases h'
        refine⟨?_,?_⟩
        · rw[zd ac,zd (zf A1 hp)];exact A1
        · rw[ze,List.map_set]
    · have et:takeF (cells,turn) many=(.int (mix (celOf (cells,turn)) (turn + 1) many),(cells,turn + 1)):=by unfold takeF;rw[if_neg hc]
      rw[et]at e
      cases e
      refine⟨[],[.non,qI many,qI (turn + 1),.non,qI (celOf (cells,turn)),.non,.non],(cells,turn + 1),.ret (.int (mix (celOf (cells,turn)) (turn + 1) many)),(cells,turn + 1),?_,fun a' c' h'=>by rw[hZ]at h';cases h';exact⟨A1,A2⟩,zav (by omega) (by omega) k1,fun v H' x1 S1 r=>q v H' x1 S1 r⟩
      exact Al.repS (.non (.val (.int _) (.val (.int _) (.non (.val (.int _) (.non (.non .nil))))))) (fun q hq=>⟨let ⟨o,ho⟩:=(hA q hq).1;⟨o,X1 q o ho (hA q hq).2⟩,(hA q hq).2⟩) X1
theorem sc__law_same:FnScope ["_law_found","_law_due"] ["_law_found","_law_due"] (defScope z3I):=qS (by decide +kernel)
def z5p(g__law_same:GF):GS:=(sSeq (sIf (asB (f2 gIs (fVar 1) (fC .none))) (sRet (f2 gIs (fVar 0) (fC .none))) sNext)
 (sSeq (sIf (tOrF (asT (f1 (gInst "list") (fVar 1))) (asT (f1 (gInst "tuple") (fVar 1)))) (sSeq (sIf (asB (f2 gNe (f1 (gInst "list") (fVar 0)) (f1 (gInst "list") (fVar 1)))) (sRet (fC (.bool false))) sNext)
 (sSeq (sIf (tOrF (asB (f2 gNe (f1 (gInst "tuple") (fVar 0)) (f1 (gInst "tuple") (fVar 1)))) (asB (f2 gNe (f1 gLen (fVar 0)) (f1 gLen (fVar 1))))) (sRet (fC (.bool false))) sNext)
 (sRet (f1 gAll (asL (fComp 2 [] (iZipF (fVar 0) (fVar 1)) (.tup [0,1]) fTrue (fCall g__law_same (aCons (fVar 0) (aCons (fVar 1) aNil))))))))) sNext)
 (sSeq (sIf (asT (f1 (gInst "str") (fVar 1))) (sRet (eAnd (f1 (gInst "str") (fVar 0)) (f2 gEq (fVar 0) (fVar 1)))) sNext)
 (sRet (eAnd (f1 (gInst "int") (fVar 0)) (eAnd (f1 gNot (f1 (gInst "bool") (fVar 0))) (f2 gEq (fVar 0) (fVar 1))))))))
def z26:Nat->GF
 | 0=>fun _ _=>none
 | n + 1=>mkFn 2 0 (z5p (z26 n))
theorem z48(hf:Is K mg "_law_same" z3I)(z8q:mg "all"=none)(z5M:mg "bool"=none)(z4u:mg "int"=none)(zA:mg "isinstance"=none)(zN:mg "len"=none)(z0J:mg "list"=none)(zbm:mg "str"=none)(zP:mg "tuple"=none)(z8r:mg "zip"=none):∀ n,Cal P w K mg base "_law_same" ["_law_found","_law_due"] (1 + n) (z26 n)
 | 0=>by
  obtain⟨f,fd,F,hm⟩:=hf
  exact⟨f,fd,⟨fun _ _ _ _ h=>(z4V h).elim,fun _ _ _ _ _ _ _ _ _ _ _ _ _ h=>(z4V h).elim⟩,hm,F.kp,F.binds fun _ _ _ _ _ _ us hl=>by obtain⟨a0,a1,rfl⟩:=len2 hl;rfl⟩
 | n + 1=>by
  have ih:=z48 hf z8q z5M z4u zA zN z0J zbm zP z8r n
  obtain⟨f,fd,F,hm⟩:=hf
  have nd:=sc__law_same.nd
  exact⟨f,fd,fnD (k:=1 + n) F sc__law_same rfl (fun _ _ _ _ _ _ hr=>(dss_cons (z1U (z04 dis (dv 1).w (z75).w (nomark _)) (zh (zG (z2a dis (dv 0).w (z75).w (nomark _)))) z08)
   (dss_cons (z1U (z6l (z20 (z15 (T:="list") (by decide) rfl zA z0J (dv 1).w).w (fun _=>rfl)) (z5e (z20 (z15 (T:="tuple") (by decide) rfl zA zP (dv 1).w).w (fun _=>rfl)))).t (dss_cons (z1U (z04 (dne hr.units) (z15 (T:="list") (by decide) rfl zA z0J (dv 0).w).w (z15 (T:="list") (by decide) rfl zA z0J (dv 1).w).w (nomark _)) (zh (zG z5c)) z08)
   (dss_cons (z1U (z6l (z04 (dne hr.units) (z15 (T:="tuple") (by decide) rfl zA zP (dv 0).w).w (z15 (T:="tuple") (by decide) rfl zA zP (dv 1).w).w (nomark _)) (z5e (z04 (dne hr.units) (z0v z05 rfl zN (dv 0).w).w (z0v z05 rfl zN (dv 1).w).w (nomark _)))).t (zh (zG z5c)) z08)
   (zh (zG (z0v (zcJ rfl) rfl z8q (DF.de (z1I (N:=["_law_one","_law_other"]) (k:=2) (fr:=[]) (compOk0 rfl (by decide +kernel) (by decide +kernel) (by decide +kernel) rfl) (by decide) (zez z8r (dv 0) (dv 1)) (fun _ _ _ _=>by exact(z40 (zX (i:=0) (show List.Nodup (α:=Str) ["_law_one","_law_other"] by decide +kernel) (zX (i:=1) (show List.Nodup (α:=Str) ["_law_one","_law_other"] by decide +kernel) z2E)))) (fun _ _ _ _=>z0G) (fun _ _ _ _=>by exact(zH ih hr (z8 (dv 0) (z8 (dv 1) zj)) (Nat.le_refl _))))).w))))) z08)
   (dss_cons (z1U (z20 (z15 (T:="str") (by decide) rfl zA zbm (dv 1).w).w (fun _=>rfl)) (zh (zG (z4z (z15 (T:="str") (by decide) rfl zA zbm (dv 0).w) (z77 (z2a (deq hr.units) (dv 0).w (dv 1).w (nomark _)))))) z08)
   (zh (zG (z4z (z15 (T:="int") (by decide) rfl zA z4u (dv 0).w) (z4z (zcF (z15 (T:="bool") (by decide) rfl zA z5M (dv 0).w)) (z77 (z2a (deq hr.units) (dv 0).w (dv 1).w (nomark _))))))))))),hm,F.kp,F.binds fun _ _ _ _ _ _ us hl=>by obtain⟨a0,a1,rfl⟩:=len2 hl;rfl⟩
def g__law_same:GF:=z26 6
theorem sc__law_prime:FnScope ["_law_state"] ["_law_state"] (defScope z33):=qS (by decide +kernel)
def z2g:GS:=(sRet (f2 gIx (fC (.list [(.int 2),(.int 3),(.int 5),(.int 7),(.int 11),(.int 13),(.int 101),(.int 997)])) (fCall zg (aCons (fVar 0) (aCons (fC (.int 8)) aNil)))))
def z1F:GF:=mkFn 1 0 z2g
theorem z6y(hf:Is K mg "_law_prime" z33)(zC:Cal P w K mg base "_law_take" ["_law_state","_law_many"] 1 zg):Cal P w K mg base "_law_prime" ["_law_state"] 2 z1F:=by
 obtain⟨f,fd,F,hm⟩:=hf
 have nd:=sc__law_prime.nd
 exact⟨f,fd,fnD F sc__law_prime rfl (fun _ _ _ _ _ _ hr=>(zh (zG (z0c (zcN (.lst (by decide) (.cons .int (.cons .int (.cons .int (.cons .int (.cons .int (.cons .int (.cons .int (.cons .int .nil)))))))))).w (zH zC hr (z8 (dv 0) (z8 de_int zj))).w (fun _ _=>rfl))))),hm,F.kp,F.binds fun _ _ _ _ _ _ us hl=>by obtain⟨a0,rfl⟩:=len1 hl;rfl⟩
theorem sc__law_inverse:FnScope ["_law_p","_law_one","_law_found","_law_base","_law_left"] ["_law_p","_law_one"] (defScope z2o):=qS (by decide +kernel)
def z4L:GS:=sWhile (asB (f2 gGt (fVar 4) (fC (.int 0)))) (sSeq (sIf (asB (f2 gEq (f2 gModI (fVar 4) (fC (.int 2))) (fC (.int 1)))) (sSet 2 (f2 gModI (f2 gMulI (fVar 2) (fVar 3)) (fVar 0))) sNext)
 (sSeq (sSet 3 (f2 gModI (f2 gMulI (fVar 3) (fVar 3)) (fVar 0)))
 (sSet 4 (f2 gDivI (fVar 4) (fC (.int 2))))))
def z3B:GS:=(sSeq (sPar3 2 3 4 (aCons (fC (.int 1)) (aCons (f2 gModI (fVar 1) (fVar 0)) (aCons (f2 gSubI (fVar 0) (fC (.int 2))) aNil))))
 (sSeq z4L
 (sRet (fVar 2))))
def zO:GF:=mkFn 2 3 z3B
theorem z5q(hf:Is K mg "_law_inverse" z2o):Cal P w K mg base "_law_inverse" ["_law_p","_law_one"] 1 zO:=by
 obtain⟨f,fd,F,hm⟩:=hf
 have nd:=sc__law_inverse.nd
 exact⟨f,fd,fnD F sc__law_inverse rfl (fun _ _ _ _ _ _ hr=>(dss_cons (zdw (i:=2) (j:=3) (k:=4) nd (by decide) (by decide) (by decide) (z8 de_int (z8 (de_op dmod_int (dv 1).w (dv 0).w) (z8 (de_op zW (dv 0).w (de_int).w) zj))) (by rfl))
   (dss_cons (z2D (z04 dgt (dv 4).w (de_int).w (nomark _)) (dss_cons (z1U (z04 (deq hr.units) (de_op dmod_int (dv 4).w (de_int).w).w (de_int).w (nomark _)) (zh (ds_set (i:=2) nd (de_op dmod_int (de_op dmul_int (dv 2).w (dv 3).w).w (dv 0).w))) z08)
   (dss_cons (ds_set (i:=3) nd (de_op dmod_int (de_op dmul_int (dv 3).w (dv 3).w).w (dv 0).w))
   (zh (ds_set (i:=4) nd (de_op z3k (dv 4).w (de_int).w))))))
   (zh (zG (dv 2)))))),hm,F.kp,F.binds fun _ _ _ _ _ _ us hl=>by obtain⟨a0,a1,rfl⟩:=len2 hl;rfl⟩
theorem sc__law_cut:FnScope ["_law_numbers","_law_found"] ["_law_numbers"] (defScope z4i):=qS (by decide +kernel)
def z4F:GS:=sWhile (tAndF (asB (f2 gNe (fVarW 1) (eLst aNil))) (asB (f2 gEq (f2 gIx (fVarW 1) (f1 gNeg (fC (.int 1)))) (fC (.int 0))))) (sPop 1)
def z3o:GS:=(sSeq (sSetO 1 (oList (fVar 0)))
 (sSeq z4F
 (sRet (f1 gTuple (fVarW 1)))))
def z0R:GF:=mkFn 1 1 z3o
theorem z8a(hf:Is K mg "_law_cut" z4i)(z0J:mg "list"=none)(zP:mg "tuple"=none):Cal P w K mg base "_law_cut" ["_law_numbers"] 1 z0R:=by
 obtain⟨f,fd,F,hm⟩:=hf
 have nd:=sc__law_cut.nd
 exact⟨f,fd,fnD F sc__law_cut rfl (fun _ _ _ _ _ _ hr=>(dss_cons (z3F (i:=1) nd (z7X rfl z0J (dv 0).w))
   (dss_cons (z2D (z76 (z04 (dne hr.units) (dvw 1) (z1A zj).w (nomark _)) (z5d (z04 (deq hr.units) (z0c (dvw 1) (z2X (de_int).w).w (fun _ _=>rfl)).w (de_int).w (nomark _)))).t (zh (zeG (i:=1) (pv 1))))
   (zh (zG (z4I z2C rfl zP (dvw 1))))))),hm,F.kp,F.binds fun _ _ _ _ _ _ us hl=>by obtain⟨a0,rfl⟩:=len1 hl;rfl⟩
theorem sc__law_left_by:FnScope ["_law_p","_law_one","_law_other","_law_found","_law_share","_law_k"] ["_law_p","_law_one","_law_other"] (defScope z2p):=qS (by decide +kernel)
def z2P:GS:=(sPut 3 (f1 gNeg (fVar 5)) (f2 gModI (f2 gSubI (f2 gIx (fVarW 3) (f1 gNeg (fVar 5))) (f2 gMulI (fVar 4) (f2 gIx (fVar 2) (f1 gNeg (fVar 5))))) (fVar 0)))
def z0C:GS:=sFor (iRange2 (fC (.int 1)) (f2 gAdd (f1 gLen (fVar 2)) (fC (.int 1)))) (.one 5) z2P
def z4M:GS:=sWhile (asB (f2 gGe (f1 gLen (fVarW 3)) (f1 gLen (fVar 2)))) (sSeq (sSet 4 (f2 gModI (f2 gMulI (f2 gIx (fVarW 3) (f1 gNeg (fC (.int 1)))) (fCall zO (aCons (fVar 0) (aCons (f2 gIx (fVar 2) (f1 gNeg (fC (.int 1)))) aNil)))) (fVar 0)))
 (sSeq z0C
 (sSeq (sFrz 3) (sSetO 3 (oList (fCall z0R (aCons (fSl (fVar 3) pNo (pInt (f1 gNeg (fC (.int 1))))) aNil)))))))
def z3C:GS:=(sSeq (sSetO 3 (oList (fVar 1)))
 (sSeq z4M
 (sRet (f1 gTuple (fVarW 3)))))
def z0p:GF:=mkFn 3 3 z3C
theorem z5r(hf:Is K mg "_law_left_by" z2p)(z0E:Cal P w K mg base "_law_inverse" ["_law_p","_law_one"] 1 zO)(z1Y:Cal P w K mg base "_law_cut" ["_law_numbers"] 1 z0R)(zN:mg "len"=none)(z0J:mg "list"=none)(zI:mg "range"=none)(zP:mg "tuple"=none):Cal P w K mg base "_law_left_by" ["_law_p","_law_one","_law_other"] 2 z0p:=by
 obtain⟨f,fd,F,hm⟩:=hf
 have nd:=sc__law_left_by.nd
 exact⟨f,fd,fnD F sc__law_left_by rfl (fun _ _ _ _ _ _ hr=>(dss_cons (z3F (i:=3) nd (z7X rfl z0J (dv 1).w))
   (dss_cons (z2D (z04 dge (z0v z05 rfl zN (dvw 3)).w (z0v z05 rfl zN (dv 2).w).w (nomark _)) (dss_cons (ds_set (i:=4) nd (de_op dmod_int (de_op dmul_int (z0c (dvw 3) (z2X (de_int).w).w (fun _ _=>rfl)).w (zH z0E hr (z8 (dv 0) (z8 (z0c (dv 2).w (z2X (de_int).w).w (fun _ _=>rfl)) zj))).w).w (dv 0).w))
   (dss_cons (z2M (z3Z zI de_int (de_op dadd (z0v z05 rfl zN (dv 2).w).w (de_int).w)) (z0o (i:=5) nd) (zh (z7e (i:=3) (pv 3) (z2X (dv 5).w).w (de_op dmod_int (de_op zW (z0c (dvw 3) (z2X (dv 5).w).w (fun _ _=>rfl)).w (de_op dmul_int (dv 4).w (z0c (dv 2).w (z2X (dv 5).w).w (fun _ _=>rfl)).w).w).w (dv 0).w))))
   (zh (z7d 3 (z3F (i:=3) nd (z7X rfl z0J (zH z1Y hr (z8 (z2b (dv 3) z7c (z4C (z2X (de_int).w).w)) zj)).w)))))))
   (zh (zG (z4I z2C rfl zP (dvw 3))))))),hm,F.kp,F.binds fun _ _ _ _ _ _ us hl=>by obtain⟨a0,a1,a2,rfl⟩:=len3 hl;rfl⟩
theorem sc__law_factor_by:FnScope ["_law_p","_law_one","_law_other"] ["_law_p","_law_one","_law_other"] (defScope z1J):=qS (by decide +kernel)
def z49:GS:=sWhile (asB (f2 gNe (fVar 2) (eTup aNil))) (sPar 1 2 (aCons (fVar 2) (aCons (fCall z0p (aCons (fVar 0) (aCons (fVar 1) (aCons (fVar 2) aNil)))) aNil)))
def z2Q:GS:=(sSeq z49
 (sRet (fVar 1)))
def z0D:GF:=mkFn 3 0 z2Q
theorem z4k(hf:Is K mg "_law_factor_by" z1J)(z2s:Cal P w K mg base "_law_left_by" ["_law_p","_law_one","_law_other"] 2 z0p):Cal P w K mg base "_law_factor_by" ["_law_p","_law_one","_law_other"] 3 z0D:=by
 obtain⟨f,fd,F,hm⟩:=hf
 have nd:=sc__law_factor_by.nd
 exact⟨f,fd,fnD F sc__law_factor_by rfl (fun _ _ _ _ _ _ hr=>(dss_cons (z2D (z04 (dne hr.units) (dv 2).w (z2x zj).w (nomark _)) (zh (z8B (i:=1) (j:=2) nd (by decide) (z8 (dv 2) (z8 (zH z2s hr (z8 (dv 0) (z8 (dv 1) (z8 (dv 2) zj)))) zj)) (by rfl))))
   (zh (zG (dv 1))))),hm,F.kp,F.binds fun _ _ _ _ _ _ us hl=>by obtain⟨a0,a1,a2,rfl⟩:=len3 hl;rfl⟩
theorem sc__law_series_by:FnScope ["_law_p","_law_one","_law_many","_law_found","_law_i","_law_here","_law_j"] ["_law_p","_law_one","_law_many"] (defScope z1K):=qS (by decide +kernel)
def z2h:GS:=(sSet 5 (f2 gSubI (fVar 5) (f2 gMulI (f2 gIx (f2 gIx (fVar 1) (fC (.int 1))) (fVar 6)) (f2 gIx (fVarW 3) (f2 gSubI (fVar 4) (fVar 6))))))
def z1i:GS:=sFor (iRange2 (fC (.int 1)) (f2 gMin (f2 gAdd (fVar 4) (fC (.int 1))) (f1 gLen (f2 gIx (fVar 1) (fC (.int 1)))))) (.one 6) z2h
def z1j:GS:=(sSeq (sSet 5 (eIf (asB (f2 gLt (fVar 4) (f1 gLen (f2 gIx (fVar 1) (fC (.int 0)))))) (f2 gIx (f2 gIx (fVar 1) (fC (.int 0))) (fVar 4)) (fC (.int 0))))
 (sSeq z1i
 (sApp 3 (f2 gModI (fVar 5) (fVar 0)))))
def z1k:GS:=sFor (iRange1 (fVar 2)) (.one 4) z1j
def z11:GS:=(sSeq (sSetO 3 (oLst aNil))
 (sSeq z1k
 (sRetO 3)))
def zY:GC:=mkFnC 3 4 z11
def z1M:GF:=gOf zY
theorem z4l(hf:Is K mg "_law_series_by" z1K)(zN:mg "len"=none)(z6Q:mg "min"=none)(zI:mg "range"=none):CalC P w K mg base "_law_series_by" ["_law_p","_law_one","_law_many"] 1 zY:=by
 obtain⟨f,fd,F,hm⟩:=hf
 have nd:=sc__law_series_by.nd
 exact⟨f,fd,fnC F sc__law_series_by rfl (fun _ _ _ _ _ _ hr=>(dss_cons (z3F (i:=3) nd (zdr zj))
   (dss_cons (z2M (z0B zI (dv 2)) (z0o (i:=4) nd) (dss_cons (ds_set (i:=5) nd (zex (z04 dlt (dv 4).w (z0v z05 rfl zN (z0c (dv 1).w (de_int).w (fun _ _=>rfl)).w).w (nomark _)) (z0c (z0c (dv 1).w (de_int).w (fun _ _=>rfl)).w (dv 4).w (fun _ _=>rfl)) de_int))
   (dss_cons (z2M (z3Z zI de_int (zbJ (zcI rfl) rfl z6Q (de_op dadd (dv 4).w (de_int).w).w (z0v z05 rfl zN (z0c (dv 1).w (de_int).w (fun _ _=>rfl)).w).w)) (z0o (i:=6) nd) (zh (ds_set (i:=5) nd (de_op zW (dv 5).w (de_op dmul_int (z0c (z0c (dv 1).w (de_int).w (fun _ _=>rfl)).w (dv 6).w (fun _ _=>rfl)).w (z0c (dvw 3) (de_op zW (dv 4).w (dv 6).w).w (fun _ _=>rfl)).w).w))))
   (zh (zeF (i:=3) (pv 3) (de_op dmod_int (dv 5).w (dv 0).w))))))
   (zh (zdv (i:=3) (pv 3)))))),hm,F.kp,F.binds fun _ _ _ _ _ _ us hl=>by obtain⟨a0,a1,a2,rfl⟩:=len3 hl;rfl⟩
theorem sc__law_poly_by:FnScope ["_law_state","_law_p","_law_most","_law_sparse","_law_numbers"] ["_law_state","_law_p","_law_most"] (defScope z0Y):=qS (by decide +kernel)
def z1N:FO:=fComp 1 [0,1] (iRange1 (fCall zg (aCons (fVar 0) (aCons (f2 gAdd (fVar 2) (fC (.int 2))) aNil)))) (.one 0) fTrue (fCall zg (aCons (fVar 1) (aCons (fVar 2) aNil)))
def z1O:FO:=fComp 1 [0] (iSeq (fVar 4)) (.one 0) fTrue (f2 gMulI (fVar 0) (f1 gInt (f2 gEq (fCall zg (aCons (fVar 1) (aCons (fC (.int 3)) aNil))) (fC (.int 0)))))
def z1w:GS:=(sSeq (sSet 3 (f2 gEq (fCall zg (aCons (fVar 0) (aCons (fC (.int 3)) aNil))) (fC (.int 0))))
 (sSeq (sSetL 4 z1N)
 (sSeq (sIf (asT (fVar 3)) (sSetL 4 z1O) sNext)
 (sRet (fCall z0R (aCons (fVar 4) aNil))))))
def z0b:GF:=mkFn 3 2 z1w
theorem z5s(hf:Is K mg "_law_poly_by" z0Y)(zC:Cal P w K mg base "_law_take" ["_law_state","_law_many"] 1 zg)(z1Y:Cal P w K mg base "_law_cut" ["_law_numbers"] 1 z0R)(z4u:mg "int"=none)(zI:mg "range"=none):Cal P w K mg base "_law_poly_by" ["_law_state","_law_p","_law_most"] 2 z0b:=by
 obtain⟨f,fd,F,hm⟩:=hf
 have nd:=sc__law_poly_by.nd
 exact⟨f,fd,fnD F sc__law_poly_by rfl (fun _ _ _ _ _ _ hr=>(dss_cons (ds_set (i:=3) nd (z2a (deq hr.units) (zH zC hr (z8 (dv 0) (z8 de_int zj))).w (de_int).w (nomark _)))
   (dss_cons (zas (i:=4) nd (N:=["_law_k","_law_state","_law_p"]) (k:=1) (fr:=[0,1]) (compOkC (sc:=defScope z0Y) (N0:=["_law_state","_law_p","_law_most","_law_sparse","_law_numbers"]) (by rfl) (by rfl) (by decide +kernel) (fun _ h=>z0r h)) (by decide) (z0B zI (zH zC hr (z8 (dv 0) (z8 (de_op dadd (dv 2).w (de_int).w) zj)))) (fun _ _ _ _=>by exact(z0o (i:=0) (show List.Nodup (α:=Str) ["_law_k","_law_state","_law_p"] by decide +kernel))) (fun _ _ _ _=>z0G) (fun _ _ _ _=>by exact(zH zC hr (z8 (dv 1) (z8 (dv 2) zj)))) (by rfl))
   (dss_cons (z1U (z20 (dv 3).w (fun _=>rfl)) (zh (zas (i:=4) nd (N:=["_law_one","_law_state"]) (k:=1) (fr:=[0]) (compOkC (sc:=defScope z0Y) (N0:=["_law_state","_law_p","_law_most","_law_sparse","_law_numbers"]) (by rfl) (by rfl) (by decide +kernel) (fun _ h=>z0r h)) (by decide) (z66 (dv 4)) (fun _ _ _ _=>by exact(z0o (i:=0) (show List.Nodup (α:=Str) ["_law_one","_law_state"] by decide +kernel))) (fun _ _ _ _=>z0G) (fun _ _ _ _=>by exact(de_op dmul_int (dv 0).w (z4I zcG rfl z4u (z2a (deq hr.units) (zH zC hr (z8 (dv 1) (z8 de_int zj))).w (de_int).w (nomark _)).w).w)) (by rfl))) z08)
   (zh (zG (zH z1Y hr (z8 (dv 4) zj)))))))),hm,F.kp,F.binds fun _ _ _ _ _ _ us hl=>by obtain⟨a0,a1,a2,rfl⟩:=len3 hl;rfl⟩
theorem sc__law_is_quotient_by:FnScope ["_law_p","_law_thing","_law_one"] ["_law_p","_law_thing"] (defScope z0i):=qS (by decide +kernel)
def z1l:FO:=fComp 1 [0] (iSeq (fVar 2)) (.one 0) fTrue (eAnd (f1 (gInst "int") (fVar 0)) (eAnd (f1 gNot (f1 (gInst "bool") (fVar 0))) (fChain gLe gLt (fC (.int 0)) (fVar 0) (fVar 1))))
def z1m:GS:=(sSeq (sIf (tOrF (tNotF (asT (f1 (gInst "tuple") (fVar 2)))) (tAndF (asB (f2 gNe (fVar 2) (eTup aNil))) (asB (f2 gEq (f2 gIx (fVar 2) (f1 gNeg (fC (.int 1)))) (fC (.int 0)))))) (sRet (fC (.bool false))) sNext)
 (sIf (tNotF (asT (f1 gAll (asL z1l)))) (sRet (fC (.bool false))) sNext))
def z2H:GS:=sFor (iSeq (fVar 1)) (.one 2) z1m
def z1G:GS:=(sSeq (sIf (tOrF (tNotF (asT (f1 (gInst "tuple") (fVar 1)))) (asB (f2 gNe (f1 gLen (fVar 1)) (fC (.int 2))))) (sRet (fC (.bool false))) sNext)
 (sSeq z2H
 (sRet (eAnd (f2 gNe (f2 gIx (fVar 1) (fC (.int 1))) (eTup aNil)) (eAnd (f2 gEq (f2 gIx (f2 gIx (fVar 1) (fC (.int 1))) (fC (.int 0))) (fC (.int 1))) (f2 gEq (f1 gLen (fCall z0D (aCons (fVar 0) (aCons (f2 gIx (fVar 1) (fC (.int 1))) (aCons (f2 gIx (fVar 1) (fC (.int 0))) aNil))))) (fC (.int 1))))))))
def zV:GF:=mkFn 2 1 z1G
theorem z2V(hf:Is K mg "_law_is_quotient_by" z0i)(z1R:Cal P w K mg base "_law_factor_by" ["_law_p","_law_one","_law_other"] 3 z0D)(z8q:mg "all"=none)(z5M:mg "bool"=none)(z4u:mg "int"=none)(zA:mg "isinstance"=none)(zN:mg "len"=none)(zP:mg "tuple"=none):Cal P w K mg base "_law_is_quotient_by" ["_law_p","_law_thing"] 4 zV:=by
 obtain⟨f,fd,F,hm⟩:=hf
 have nd:=sc__law_is_quotient_by.nd
 exact⟨f,fd,fnD F sc__law_is_quotient_by rfl (fun _ _ _ _ _ _ hr=>(dss_cons (z1U (z6l (z3Y (z20 (z15 (T:="tuple") (by decide) rfl zA zP (dv 1).w).w (fun _=>rfl))) (z5e (z04 (dne hr.units) (z0v z05 rfl zN (dv 1).w).w (de_int).w (nomark _)))).t (zh (zG z5c)) z08)
   (dss_cons (z2M (z66 (dv 1)) (z0o (i:=2) nd) (dss_cons (z1U (z6l (z3Y (z20 (z15 (T:="tuple") (by decide) rfl zA zP (dv 2).w).w (fun _=>rfl))) (z5e (z76 (z04 (dne hr.units) (dv 2).w (z2x zj).w (nomark _)) (z5d (z04 (deq hr.units) (z0c (dv 2).w (z2X (de_int).w).w (fun _ _=>rfl)).w (de_int).w (nomark _)))).t)).t (zh (zG z5c)) z08)
   (zh (z1U (z3Y (z20 (z0v (zcJ rfl) rfl z8q (DF.de (z1I (N:=["_law_k","_law_p"]) (k:=1) (fr:=[0]) (compOkC (sc:=defScope z0i) (N0:=["_law_p","_law_thing","_law_one"]) (by rfl) (by rfl) (by decide +kernel) (fun _ h=>z0r h)) (by decide) (z66 (dv 2)) (fun _ _ _ _=>by exact(z0o (i:=0) (show List.Nodup (α:=Str) ["_law_k","_law_p"] by decide +kernel))) (fun _ _ _ _=>z0G) (fun _ _ _ _=>by exact(z4z (z15 (T:="int") (by decide) rfl zA z4u (dv 0).w) (z4z (zcF (z15 (T:="bool") (by decide) rfl zA z5M (dv 0).w)) (z77 (zbP dle dlt (de_int).w (dv 0).w (dv 1).w))))))).w).w (fun _=>rfl))) (zh (zG z5c)) z08))))
   (zh (zG (z4z (z2a (dne hr.units) (z0c (dv 1).w (de_int).w (fun _ _=>rfl)).w (z2x zj).w (nomark _)) (z4z (z2a (deq hr.units) (z0c (z0c (dv 1).w (de_int).w (fun _ _=>rfl)).w (de_int).w (fun _ _=>rfl)).w (de_int).w (nomark _)) (z77 (z2a (deq hr.units) (z0v z05 rfl zN (zH z1R hr (z8 (dv 0) (z8 (z0c (dv 1).w (de_int).w (fun _ _=>rfl)) (z8 (z0c (dv 1).w (de_int).w (fun _ _=>rfl)) zj)))).w).w (de_int).w (nomark _)))))))))),hm,F.kp,F.binds fun _ _ _ _ _ _ us hl=>by obtain⟨a0,a1,rfl⟩:=len2 hl;rfl⟩
theorem sc__law_agreed_by:FnScope ["_law_p","_law_row","_law_one","_law_own"] ["_law_p","_law_row","_law_one"] (defScope z0Z):=qS (by decide +kernel)
def z2i:FO:=fComp 1 [3,1] (iRange1 (f1 gLen (fVar 1))) (.one 0) (asB (f2 gNe (f2 gIx (fVar 1) (fVar 0)) (f2 gIx (fVar 2) (fVar 0)))) (fVar 0)
def z12:GS:=(sSeq (sSet 3 (fCall z1M (aCons (fVar 0) (aCons (fVar 2) (aCons (f1 gLen (fVar 1)) aNil)))))
 (sRet (f1 gMinL (f2 gAdd (asL z2i) (eLst (aCons (f1 gLen (fVar 1)) aNil))))))
def z0g:GF:=mkFn 3 1 z12
theorem z4m(hf:Is K mg "_law_agreed_by" z0Z)(z1T:Cal P w K mg base "_law_series_by" ["_law_p","_law_one","_law_many"] 1 z1M)(zN:mg "len"=none)(z6Q:mg "min"=none)(zI:mg "range"=none):Cal P w K mg base "_law_agreed_by" ["_law_p","_law_row","_law_one"] 2 z0g:=by
 obtain⟨f,fd,F,hm⟩:=hf
 have nd:=sc__law_agreed_by.nd
 exact⟨f,fd,fnD F sc__law_agreed_by rfl (fun _ _ _ _ _ _ hr=>(dss_cons (ds_set (i:=3) nd (zH z1T hr (z8 (dv 0) (z8 (dv 2) (z8 (z0v z05 rfl zN (dv 1).w) zj)))))
   (zh (zG (z0v (zdy rfl) rfl z6Q (de_op dadd (DF.de (z1I (N:=["_law_k","_law_own","_law_row"]) (k:=1) (fr:=[3,1]) (compOkC (sc:=defScope z0Z) (N0:=["_law_p","_law_row","_law_one","_law_own"]) (by rfl) (by rfl) (by decide +kernel) (fun _ h=>z0r h)) (by decide) (z0B zI (z0v z05 rfl zN (dv 1).w)) (fun _ _ _ _=>by exact(z0o (i:=0) (show List.Nodup (α:=Str) ["_law_k","_law_own","_law_row"] by decide +kernel))) (fun _ _ _ _=>by exact zbL (z04 (dne hr.units) (z0c (dv 1).w (dv 0).w (fun _ _=>rfl)).w (z0c (dv 2).w (dv 0).w (fun _ _=>rfl)).w (nomark _))) (fun _ _ _ _=>by exact(dv 0)))).w (z1A (z8 (z0v z05 rfl zN (dv 1).w) zj)).w).w))))),hm,F.kp,F.binds fun _ _ _ _ _ _ us hl=>by obtain⟨a0,a1,a2,rfl⟩:=len3 hl;rfl⟩
theorem sc__law_row_by:FnScope ["_law_state","_law_p","_law_many","_law_way","_law_ahead","_law_row","_law_turn","_law_below","_law_spot"] ["_law_state","_law_p","_law_many"] (defScope z1d):=qS (by decide +kernel)
def z5t:FO:=fComp 1 [0,1] (iRange1 (fVar 2)) (.one 0) fTrue (fCall zg (aCons (fVar 1) (aCons (fVar 2) aNil)))
def z5u:FO:=fComp 1 [0,1] (iRange1 (f2 gSubI (fVar 2) (fVar 4))) (.one 0) fTrue (fCall zg (aCons (fVar 1) (aCons (fVar 2) aNil)))
def z37:GS:=(sPut 5 (fCall zg (aCons (fVar 0) (aCons (fVar 2) aNil))) (fCall zg (aCons (fVar 0) (aCons (fVar 1) aNil))))
def z38:GS:=sFor (iRange1 (fCall zg (aCons (fVar 0) (aCons (fC (.int 4)) aNil)))) (.one 6) z37
def z0m:GS:=(sSeq (sSet 3 (fCall zg (aCons (fVar 0) (aCons (fC (.int 6)) aNil))))
 (sSeq (sIf (asB (f2 gEq (fVar 3) (fC (.int 0)))) (sRet (asL z5t)) sNext)
 (sSeq (sIf (asB (f2 gEq (fVar 3) (fC (.int 1)))) (sSeq (sSet 4 (fCall zg (aCons (fVar 0) (aCons (f2 gAdd (fVar 2) (fC (.int 1))) aNil))))
 (sRet (f2 gAdd (f2 gMulA (eLst (aCons (fC (.int 0)) aNil)) (fVar 4)) (asL z5u)))) sNext)
 (sSeq (sIf (asB (f2 gEq (fVar 3) (fC (.int 2)))) (sSeq (sSetO 5 (o2 lRep (eLst (aCons (fC (.int 0)) aNil)) (fVar 2)))
 (sSeq z38
 (sSeq (sFrz 5) (sRet (fVar 5))))) sNext)
 (sSeq (sSet 7 (f2 gAddA (eTup (aCons (fC (.int 1)) aNil)) (fCall z0b (aCons (fVar 0) (aCons (fVar 1) (aCons (f2 gDivI (fVar 2) (fC (.int 3))) aNil))))))
 (sSeq (sSetC 5 (fCallC zY (aCons (fVar 1) (aCons (eTup (aCons (fCall z0b (aCons (fVar 0) (aCons (fVar 1) (aCons (f2 gDivI (fVar 2) (fC (.int 2))) aNil)))) (aCons (fVar 7) aNil))) (aCons (fVar 2) aNil)))))
 (sSeq (sIf (asB (f2 gGt (fVar 3) (fC (.int 4)))) (sSeq (sSet 8 (fCall zg (aCons (fVar 0) (aCons (fVar 2) aNil))))
 (sPut 5 (fVar 8) (f2 gModI (f2 gAdd (f2 gIx (fVarW 5) (fVar 8)) (fC (.int 1))) (fVar 1)))) sNext)
 (sSeq (sFrz 5) (sRet (fVar 5))))))))))
def z1n:GF:=mkFn 3 6 z0m
theorem z5R(hf:Is K mg "_law_row_by" z1d)(zC:Cal P w K mg base "_law_take" ["_law_state","_law_many"] 1 zg)(z1z:Cal P w K mg base "_law_poly_by" ["_law_state","_law_p","_law_most"] 2 z0b)(hC__law_series_by:CalC P w K mg base "_law_series_by" ["_law_p","_law_one","_law_many"] 1 zY)(zI:mg "range"=none):Cal P w K mg base "_law_row_by" ["_law_state","_law_p","_law_many"] 3 z1n:=by
 obtain⟨f,fd,F,hm⟩:=hf
 have nd:=sc__law_row_by.nd
 exact⟨f,fd,fnD F sc__law_row_by rfl (fun _ _ _ _ _ _ hr=>(dss_cons (ds_set (i:=3) nd (zH zC hr (z8 (dv 0) (z8 de_int zj))))
   (dss_cons (z1U (z04 (deq hr.units) (dv 3).w (de_int).w (nomark _)) (zh (zG (DF.de (z1I (N:=["_law_k","_law_state","_law_p"]) (k:=1) (fr:=[0,1]) (compOkC (sc:=defScope z1d) (N0:=["_law_state","_law_p","_law_many","_law_way","_law_ahead","_law_row","_law_turn","_law_below","_law_spot"]) (by rfl) (by rfl) (by decide +kernel) (fun _ h=>z0r h)) (by decide) (z0B zI (dv 2)) (fun _ _ _ _=>by exact(z0o (i:=0) (show List.Nodup (α:=Str) ["_law_k","_law_state","_law_p"] by decide +kernel))) (fun _ _ _ _=>z0G) (fun _ _ _ _=>by exact(zH zC hr (z8 (dv 1) (z8 (dv 2) zj)))))))) z08)
   (dss_cons (z1U (z04 (deq hr.units) (dv 3).w (de_int).w (nomark _)) (dss_cons (ds_set (i:=4) nd (zH zC hr (z8 (dv 0) (z8 (de_op dadd (dv 2).w (de_int).w) zj))))
   (zh (zG (de_op dadd (de_op dmula (z1A (z8 de_int zj)).w (dv 4).w).w (DF.de (z1I (N:=["_law_k","_law_state","_law_p"]) (k:=1) (fr:=[0,1]) (compOkC (sc:=defScope z1d) (N0:=["_law_state","_law_p","_law_many","_law_way","_law_ahead","_law_row","_law_turn","_law_below","_law_spot"]) (by rfl) (by rfl) (by decide +kernel) (fun _ h=>z0r h)) (by decide) (z0B zI (de_op zW (dv 2).w (dv 4).w)) (fun _ _ _ _=>by exact(z0o (i:=0) (show List.Nodup (α:=Str) ["_law_k","_law_state","_law_p"] by decide +kernel))) (fun _ _ _ _=>z0G) (fun _ _ _ _=>by exact(zH zC hr (z8 (dv 1) (z8 (dv 2) zj)))))).w)))) z08)
   (dss_cons (z1U (z04 (deq hr.units) (dv 3).w (de_int).w (nomark _)) (dss_cons (z3F (i:=5) nd (zcL (z1A (z8 de_int zj)).w (dv 2).w))
   (dss_cons (z2M (z0B zI (zH zC hr (z8 (dv 0) (z8 de_int zj)))) (z0o (i:=6) nd) (zh (z7e (i:=5) (pv 5) (zH zC hr (z8 (dv 0) (z8 (dv 2) zj))).w (zH zC hr (z8 (dv 0) (z8 (dv 1) zj))))))
   (zh (z7d 5 (zG (dv 5)))))) z08)
   (dss_cons (ds_set (i:=7) nd (de_op dadda (z2x (z8 de_int zj)).w (zH z1z hr (z8 (dv 0) (z8 (dv 1) (z8 (de_op z3k (dv 2).w (de_int).w) zj)))).w))
   (dss_cons (zdu (i:=5) nd (zeL hC__law_series_by hr (z8 (dv 1) (z8 (z2x (z8 (zH z1z hr (z8 (dv 0) (z8 (dv 1) (z8 (de_op z3k (dv 2).w (de_int).w) zj)))) (z8 (dv 7) zj))) (z8 (dv 2) zj)))))
   (dss_cons (z1U (z04 dgt (dv 3).w (de_int).w (nomark _)) (dss_cons (ds_set (i:=8) nd (zH zC hr (z8 (dv 0) (z8 (dv 2) zj))))
   (zh (z7e (i:=5) (pv 5) (dv 8).w (de_op dmod_int (de_op dadd (z0c (dvw 5) (dv 8).w (fun _ _=>rfl)).w (de_int).w).w (dv 1).w)))) z08)
   (zh (z7d 5 (zG (dv 5)))))))))))),hm,F.kp,F.binds fun _ _ _ _ _ _ us hl=>by obtain⟨a0,a1,a2,rfl⟩:=len3 hl;rfl⟩
theorem sc__law_length_by:FnScope ["_law_p","_law_row","_law_below","_law_ahead","_law_last","_law_since","_law_length","_law_k","_law_gap","_law_made","_law_share","_law_j","_law_part"] ["_law_p","_law_row"] (defScope z10):=qS (by decide +kernel)
def z1o:FO:=fComp 1 [2,1,7] (iRange1 (f2 gMin (f1 gLen (fVar 2)) (f2 gAdd (fVar 7) (fC (.int 1))))) (.one 0) fTrue (f2 gMulI (f2 gIx (fVar 1) (fVar 0)) (f2 gIx (fVar 2) (f2 gSubI (fVar 3) (fVar 0))))
def z2j:GS:=(sPut 9 (f2 gAdd (fVar 11) (fVar 5)) (f2 gModI (f2 gSubI (f2 gIx (fVarW 9) (f2 gAdd (fVar 11) (fVar 5))) (f2 gMulI (fVar 10) (fVar 12))) (fVar 0)))
def z0I:GS:=sFor (iEnumF (fVar 3)) (.tup [11,12]) z2j
def z06:GS:=(sSeq (sSet 8 (f2 gModI (f1 gSum (asL z1o)) (fVar 0)))
 (sSeq (sSet 9 (fVar 2))
 (sSeq (sIf (asB (f2 gNe (fVar 8) (fC (.int 0)))) (sSeq (sSet 10 (f2 gMulI (fVar 8) (fCall zO (aCons (fVar 0) (aCons (fVar 4) aNil)))))
 (sSeq (sSetO 9 (o2 lCat (fVar 2) (f2 gMulA (eLst (aCons (fC (.int 0)) aNil)) (f2 gMax (fC (.int 0)) (f2 gSubI (f2 gAdd (fVar 5) (f1 gLen (fVar 3))) (f1 gLen (fVar 2)))))))
 z0I)) sNext)
 (sSeq (sSet 5 (f2 gAdd (fVar 5) (fC (.int 1))))
 (sSeq (sIf (tAndF (asB (f2 gNe (fVar 8) (fC (.int 0)))) (asB (f2 gLe (f2 gMulI (fC (.int 2)) (fVar 6)) (fVar 7)))) (sUnp (.tup [3,4,5,6]) (eTup (aCons (fVar 2) (aCons (fVar 8) (aCons (fC (.int 1)) (aCons (f2 gSubI (f2 gAdd (fVar 7) (fC (.int 1))) (fVar 6)) aNil)))))) sNext)
 (sSeq (sFrz 9) (sSet 2 (fVar 9))))))))
def z1p:GS:=sFor (iRange1 (f1 gLen (fVar 1))) (.one 7) z06
def z1P:GS:=(sSeq (sUnp (.tup [2,3,4,5,6]) (fC (.tuple [(.list [(.int 1)]),(.list [(.int 1)]),(.int 1),(.int 1),(.int 0)])))
 (sSeq z1p
 (sRet (fVar 6))))
def z0h:GF:=mkFn 2 11 z1P
theorem z4n(hf:Is K mg "_law_length_by" z10)(z0E:Cal P w K mg base "_law_inverse" ["_law_p","_law_one"] 1 zO)(z0q:mg "enumerate"=none)(zN:mg "len"=none)(z9J:mg "max"=none)(z6Q:mg "min"=none)(zI:mg "range"=none)(z9K:mg "sum"=none):Cal P w K mg base "_law_length_by" ["_law_p","_law_row"] 2 z0h:=by
 obtain⟨f,fd,F,hm⟩:=hf
 have nd:=sc__law_length_by.nd
 exact⟨f,fd,fnD F sc__law_length_by rfl (fun _ _ _ _ _ _ hr=>(dss_cons (zar (zcN (.tup (by decide) (.cons (.lst (by decide) (.cons .int .nil)) (.cons (.lst (by decide) (.cons .int .nil)) (.cons .int (.cons .int (.cons .int .nil))))))) (z40 (zX (i:=2) nd (zX (i:=3) nd (zX (i:=4) nd (zX (i:=5) nd (zX (i:=6) nd z2E)))))))
   (dss_cons (z2M (z0B zI (z0v z05 rfl zN (dv 1).w)) (z0o (i:=7) nd) (dss_cons (ds_set (i:=8) nd (de_op dmod_int (z0v (zcQ rfl) rfl z9K (DF.de (z1I (N:=["_law_j","_law_below","_law_row","_law_k"]) (k:=1) (fr:=[2,1,7]) (compOkC (sc:=defScope z10) (N0:=["_law_p","_law_row","_law_below","_law_ahead","_law_last","_law_since","_law_length","_law_k","_law_gap","_law_made","_law_share","_law_j","_law_part"]) (by rfl) (by rfl) (by decide +kernel) (fun _ h=>z0r h)) (by decide) (z0B zI (zbJ (zcI rfl) rfl z6Q (z0v z05 rfl zN (dv 2).w).w (de_op dadd (dv 7).w (de_int).w).w)) (fun _ _ _ _=>by exact(z0o (i:=0) (show List.Nodup (α:=Str) ["_law_j","_law_below","_law_row","_law_k"] by decide +kernel))) (fun _ _ _ _=>z0G) (fun _ _ _ _=>by exact(de_op dmul_int (z0c (dv 1).w (dv 0).w (fun _ _=>rfl)).w (z0c (dv 2).w (de_op zW (dv 3).w (dv 0).w).w (fun _ _=>rfl)).w)))).w).w (dv 0).w))
   (dss_cons (ds_set (i:=9) nd (dv 2))
   (dss_cons (z1U (z04 (dne hr.units) (dv 8).w (de_int).w (nomark _)) (dss_cons (ds_set (i:=10) nd (de_op dmul_int (dv 8).w (zH z0E hr (z8 (dv 0) (z8 (dv 4) zj))).w))
   (dss_cons (z3F (i:=9) nd (zeE (dv 2).w (de_op dmula (z1A (z8 de_int zj)).w (zbJ (zcH rfl) rfl z9J (de_int).w (de_op zW (de_op dadd (dv 5).w (z0v z05 rfl zN (dv 3).w).w).w (z0v z05 rfl zN (dv 2).w).w).w).w).w))
   (zh (z2M (z6q z0q (dv 3)) (z40 (zX (i:=11) nd (zX (i:=12) nd z2E))) (zh (z7e (i:=9) (pv 9) (de_op dadd (dv 11).w (dv 5).w).w (de_op dmod_int (de_op zW (z0c (dvw 9) (de_op dadd (dv 11).w (dv 5).w).w (fun _ _=>rfl)).w (de_op dmul_int (dv 10).w (dv 12).w).w).w (dv 0).w))))))) z08)
   (dss_cons (ds_set (i:=5) nd (de_op dadd (dv 5).w (de_int).w))
   (dss_cons (z1U (z76 (z04 (dne hr.units) (dv 8).w (de_int).w (nomark _)) (z5d (z04 dle (de_op dmul_int (de_int).w (dv 6).w).w (dv 7).w (nomark _)))).t (zh (zar (z2x (z8 (dv 2) (z8 (dv 8) (z8 de_int (z8 (de_op zW (de_op dadd (dv 7).w (de_int).w).w (dv 6).w) zj))))) (z40 (zX (i:=3) nd (zX (i:=4) nd (zX (i:=5) nd (zX (i:=6) nd z2E))))))) z08)
   (zh (z7d 9 (ds_set (i:=2) nd (dv 9))))))))))
   (zh (zG (dv 6)))))),hm,F.kp,F.binds fun _ _ _ _ _ _ us hl=>by obtain⟨a0,a1,rfl⟩:=len2 hl;rfl⟩
theorem sc__law_some_shorter:FnScope ["_law_p","_law_row","_law_n","_law_k","_law_below","_law_sums"] ["_law_p","_law_row","_law_n"] (defScope zU):=qS (by decide +kernel)
def z0M:FO:=fComp 1 [0,3] (iRange1 (f2 gSubI (fVar 2) (fC (.int 1)))) (.one 0) fTrue (f2 gModI (f2 gDivI (fVar 2) (f2 gIx (eLst (aCons (fC (.int 1)) (aCons (fVar 1) (aCons (f2 gMulI (fVar 1) (fVar 1)) aNil)))) (fVar 0))) (fVar 1))
def z0N:FO:=fComp 1 [2,3,0] (iRange1 (fVar 4)) (.one 0) fTrue (f2 gMulI (f2 gIx (fVar 1) (fVar 0)) (f2 gIx (fVar 2) (f2 gSubI (fVar 3) (fVar 0))))
def z1H:FO:=fComp 1 [0,4,1,2] (iRange2 (f2 gSubI (fVar 2) (fC (.int 1))) (f1 gLen (fVar 1))) (.one 0) fTrue (f2 gModI (f1 gSum (asL z0N)) (fVar 1))
def z0O:GS:=(sSeq (sSet 4 (f2 gAdd (eLst (aCons (fC (.int 1)) aNil)) (asL z0M)))
 (sSeq (sSetL 5 z1H)
 (sIf (tNotF (asT (f1 gAnyI (fVar 5)))) (sRet (fC (.bool true))) sNext)))
def z0P:GS:=sFor (iRange1 (eIf (tAndF (asB (f2 gLt (fVar 0) (fC (.int 4)))) (asB (fChain gLt gLt (fC (.int 0)) (fVar 2) (fC (.int 5))))) (f2 gIx (eLst (aCons (fC (.int 1)) (aCons (fVar 0) (aCons (f2 gMulI (fVar 0) (fVar 0)) (aCons (f2 gMulI (f2 gMulI (fVar 0) (fVar 0)) (fVar 0)) aNil))))) (f2 gSubI (fVar 2) (fC (.int 1)))) (fC (.int 0)))) (.one 3) z0O
def zZ:GS:=(sSeq z0P
 (sRet (fC (.bool false))))
def z00:GF:=mkFn 3 3 zZ
theorem z3s(hf:Is K mg "_law_some_shorter" zU)(zdZ:mg "any"=none)(zN:mg "len"=none)(zI:mg "range"=none)(z9K:mg "sum"=none):Cal P w K mg base "_law_some_shorter" ["_law_p","_law_row","_law_n"] 1 z00:=by
 obtain⟨f,fd,F,hm⟩:=hf
 have nd:=sc__law_some_shorter.nd
 exact⟨f,fd,fnD F sc__law_some_shorter rfl (fun _ _ _ _ _ _ hr=>(dss_cons (z2M (z0B zI (zex (z76 (z04 dlt (dv 0).w (de_int).w (nomark _)) (z5d (z8H dlt dlt (de_int).w (dv 2).w (de_int).w))).t (z0c (z1A (z8 de_int (z8 (dv 0) (z8 (de_op dmul_int (dv 0).w (dv 0).w) (z8 (de_op dmul_int (de_op dmul_int (dv 0).w (dv 0).w).w (dv 0).w) zj))))).w (de_op zW (dv 2).w (de_int).w).w (fun _ _=>rfl)) de_int)) (z0o (i:=3) nd) (dss_cons (ds_set (i:=4) nd (de_op dadd (z1A (z8 de_int zj)).w (DF.de (z1I (N:=["_law_j","_law_p","_law_k"]) (k:=1) (fr:=[0,3]) (compOkC (sc:=defScope zU) (N0:=["_law_p","_law_row","_law_n","_law_k","_law_below","_law_sums"]) (by rfl) (by rfl) (by decide +kernel) (fun _ h=>z0r h)) (by decide) (z0B zI (de_op zW (dv 2).w (de_int).w)) (fun _ _ _ _=>by exact(z0o (i:=0) (show List.Nodup (α:=Str) ["_law_j","_law_p","_law_k"] by decide +kernel))) (fun _ _ _ _=>z0G) (fun _ _ _ _=>by exact(de_op dmod_int (de_op z3k (dv 2).w (z0c (z1A (z8 de_int (z8 (dv 1) (z8 (de_op dmul_int (dv 1).w (dv 1).w) zj)))).w (dv 0).w (fun _ _=>rfl)).w).w (dv 1).w)))).w))
   (dss_cons (zbT (i:=5) nd (N:=["_law_i","_law_p","_law_below","_law_row","_law_n"]) (k:=1) (fr:=[0,4,1,2]) (compOkC1 (sc:=defScope zU) (N0:=["_law_p","_law_row","_law_n","_law_k","_law_below","_law_sums"]) (N:=["_law_i","_law_p","_law_below","_law_row","_law_n"]) (k:=1) (fr:=[0,4,1,2]) (x0:="_law_i") (fun _ _=>rfl) (fun _=>rfl) (by rfl) (by rfl) (by decide +kernel) (fun _ h=>z0r h)) (by decide) (z3Z zI (de_op zW (dv 2).w (de_int).w) (z0v z05 rfl zN (dv 1).w)) (fun _ _ _ _=>by exact(z0o (i:=0) (show List.Nodup (α:=Str) ["_law_i","_law_p","_law_below","_law_row","_law_n"] by decide +kernel))) (fun _ _ _ _=>z0G) (fun _ _ _ _=>by exact(de_op dmod_int (z0v (zcQ rfl) rfl z9K (DF.de (z1I (N:=["_law_j","_law_below","_law_row","_law_i"]) (k:=1) (fr:=[2,3,0]) (by exact(compOkC2 (sc0:=defScope zU) (compOkC1 (sc:=defScope zU) (N0:=["_law_p","_law_row","_law_n","_law_k","_law_below","_law_sums"]) (N:=["_law_i","_law_p","_law_below","_law_row","_law_n"]) (k:=1) (fr:=[0,4,1,2]) (x0:="_law_i") (fun _ _=>rfl) (fun _=>rfl) (by rfl) (by rfl) (by decide +kernel) (fun _ h=>z0r h)) (by rfl) (by decide +kernel))) (by decide) (z0B zI (dv 4)) (fun _ _ _ _=>by exact(z0o (i:=0) (show List.Nodup (α:=Str) ["_law_j","_law_below","_law_row","_law_i"] by decide +kernel))) (fun _ _ _ _=>z0G) (fun _ _ _ _=>by exact(de_op dmul_int (z0c (dv 1).w (dv 0).w (fun _ _=>rfl)).w (z0c (dv 2).w (de_op zW (dv 3).w (dv 0).w).w (fun _ _=>rfl)).w)))).w).w (dv 1).w)) (by rfl))
   (zh (z1U (z3Y (z20 (z0v (zdA rfl) rfl zdZ (dv 5).w).w (fun _=>rfl))) (zh (zG z5c)) z08)))))
   (zh (zG z5c)))),hm,F.kp,F.binds fun _ _ _ _ _ _ us hl=>by obtain⟨a0,a1,a2,rfl⟩:=len3 hl;rfl⟩
theorem sc__law_right:FnScope ["_law_p","_law_row","_law_found","_law_n"] ["_law_p","_law_row"] (defScope z34):=qS (by decide +kernel)
def z2k:GS:=(sSeq (sSet 2 (fCall z01 (aCons (fVar 0) (aCons (fVar 1) aNil))))
 (sSeq (sSet 3 (fCall z0h (aCons (fVar 0) (aCons (fVar 1) aNil))))
 (sSeq (sIf (tOrF (tNotF (asT (f1 (gInst "tuple") (fVar 2)))) (tOrF (asB (f2 gNe (f1 gLen (fVar 2)) (fC (.int 2)))) (tOrF (tNotF (asT (fCall g__law_same (aCons (f2 gIx (fVar 2) (fC (.int 0))) (aCons (fVar 3) aNil))))) (asT (fCall z00 (aCons (fVar 0) (aCons (fVar 1) (aCons (fVar 3) aNil)))))))) (sRet (fC (.bool false))) sNext)
 (sSeq (sIf (asB (f2 gGt (f2 gMulI (fC (.int 2)) (fVar 3)) (f1 gLen (fVar 1)))) (sRet (f2 gIs (f2 gIx (fVar 2) (fC (.int 1))) (fC .none))) sNext)
 (sSeq (sIf (tOrF (tNotF (asT (fCall zV (aCons (fVar 0) (aCons (f2 gIx (fVar 2) (fC (.int 1))) aNil))))) (asB (f2 gLt (fCall z0g (aCons (fVar 0) (aCons (fVar 1) (aCons (f2 gIx (fVar 2) (fC (.int 1))) aNil)))) (f1 gLen (fVar 1))))) (sRet (fC (.bool false))) sNext)
 (sRet (eAnd (f2 gLe (f1 gLen (f2 gIx (f2 gIx (fVar 2) (fC (.int 1))) (fC (.int 0)))) (fVar 3)) (f2 gLe (f1 gLen (f2 gIx (f2 gIx (fVar 2) (fC (.int 1))) (fC (.int 1)))) (f2 gAdd (fVar 3) (fC (.int 1)))))))))))
def z19:GF:=mkFn 2 2 z2k
theorem z6z(hf:Is K mg "_law_right" z34)(z0A:Cal P w K mg base "shortest_by" ["p","row"] 5 z01)(z3P:Cal P w K mg base "_law_same" ["_law_found","_law_due"] 7 g__law_same)(z0Q:Cal P w K mg base "_law_is_quotient_by" ["_law_p","_law_thing"] 4 zV)(z1Q:Cal P w K mg base "_law_agreed_by" ["_law_p","_law_row","_law_one"] 2 z0g)(z1S:Cal P w K mg base "_law_length_by" ["_law_p","_law_row"] 2 z0h)(z17:Cal P w K mg base "_law_some_shorter" ["_law_p","_law_row","_law_n"] 1 z00)(zA:mg "isinstance"=none)(zN:mg "len"=none)(zP:mg "tuple"=none):Cal P w K mg base "_law_right" ["_law_p","_law_row"] 8 z19:=by
 obtain⟨f,fd,F,hm⟩:=hf
 have nd:=sc__law_right.nd
 exact⟨f,fd,fnD F sc__law_right rfl (fun _ _ _ _ _ _ hr=>(dss_cons (ds_set (i:=2) nd (zH z0A hr (z8 (dv 0) (z8 (dv 1) zj))))
   (dss_cons (ds_set (i:=3) nd (zH z1S hr (z8 (dv 0) (z8 (dv 1) zj))))
   (dss_cons (z1U (z6l (z3Y (z20 (z15 (T:="tuple") (by decide) rfl zA zP (dv 2).w).w (fun _=>rfl))) (z6l (z04 (dne hr.units) (z0v z05 rfl zN (dv 2).w).w (de_int).w (nomark _)) (z6l (z3Y (z20 (zH z3P hr (z8 (z0c (dv 2).w (de_int).w (fun _ _=>rfl)) (z8 (dv 3) zj))).w (fun _=>rfl))) (z5e (z20 (zH z17 hr (z8 (dv 0) (z8 (dv 1) (z8 (dv 3) zj)))).w (fun _=>rfl)))))).t (zh (zG z5c)) z08)
   (dss_cons (z1U (z04 dgt (de_op dmul_int (de_int).w (dv 3).w).w (z0v z05 rfl zN (dv 1).w).w (nomark _)) (zh (zG (z2a dis (z0c (dv 2).w (de_int).w (fun _ _=>rfl)).w (z75).w (nomark _)))) z08)
   (dss_cons (z1U (z6l (z3Y (z20 (zH z0Q hr (z8 (dv 0) (z8 (z0c (dv 2).w (de_int).w (fun _ _=>rfl)) zj))).w (fun _=>rfl))) (z5e (z04 dlt (zH z1Q hr (z8 (dv 0) (z8 (dv 1) (z8 (z0c (dv 2).w (de_int).w (fun _ _=>rfl)) zj)))).w (z0v z05 rfl zN (dv 1).w).w (nomark _)))).t (zh (zG z5c)) z08)
   (zh (zG (z4z (z2a dle (z0v z05 rfl zN (z0c (z0c (dv 2).w (de_int).w (fun _ _=>rfl)).w (de_int).w (fun _ _=>rfl)).w).w (dv 3).w (nomark _)) (z77 (z2a dle (z0v z05 rfl zN (z0c (z0c (dv 2).w (de_int).w (fun _ _=>rfl)).w (de_int).w (fun _ _=>rfl)).w).w (de_op dadd (dv 3).w (de_int).w).w (nomark _)))))))))))),hm,F.kp,F.binds fun _ _ _ _ _ _ us hl=>by obtain⟨a0,a1,rfl⟩:=len2 hl;rfl⟩
theorem sc_law:FnScope ["_law_script","_law_state","_law_p","_law_row","_law_kept","_law_last","_law_many"] ["_law_script"] (defScope z81):=qS (by decide +kernel)
def z6A:GS:=(sSeq (sIf (tOrF (tNotF (asT (fCall z19 (aCons (fVar 2) (aCons (fSl (fVar 3) pNo (pInt (fVar 6))) aNil))))) (asB (f2 gLt (f2 gIx (fCall z01 (aCons (fVar 2) (aCons (f1 gTuple (fSl (fVar 3) pNo (pInt (fVar 6)))) aNil))) (fC (.int 0))) (fVar 5)))) (sRet (fC (.bool false))) sNext)
 (sSet 5 (f2 gIx (fCall z01 (aCons (fVar 2) (aCons (fSl (fVar 3) pNo (pInt (fVar 6))) aNil))) (fC (.int 0)))))
def zaE:GS:=sFor (iRange2 (fC (.int 1)) (f2 gAdd (f1 gLen (fVar 3)) (fC (.int 1)))) (.one 6) z6A
def zdF:Sl:=[.non,qD,.non,.non,.non,.non,.non]
def zbX:GS:=(sSeq (sSet 2 (fCall z1F (aCons (fVar 1) aNil)))
 (sSeq (sSet 3 (fCall z1n (aCons (fVar 1) (aCons (fVar 2) (aCons (f2 gIx (eLst (aCons (f2 gAdd (fC (.int 1)) (fCall zg (aCons (fVar 1) (aCons (fC (.int 12)) aNil)))) (aCons (f2 gAdd (fC (.int 13)) (fCall zg (aCons (fVar 1) (aCons (fC (.int 12)) aNil)))) aNil))) (f1 gInt (f2 gEq (fCall zg (aCons (fVar 1) (aCons (fC (.int 8)) aNil))) (fC (.int 0))))) aNil)))))
 (sSeq (sSet 4 (f1 gList (fVar 3)))
 (sSeq (sSet 5 (fC (.int 0)))
 (sSeq zaE
 (sRet (f2 gEq (fVar 3) (fVar 4))))))))
theorem draw{n:Nat}{s:Sx}(h:Good (n + 1) s)(many:Int)(h1:0 < many)(h2:many < 2 ^ 100):∃ r s',zg [.dict [],.int many] s=some (.int r,s')/\0<=r/\r < many/\Good n s':=zau h h1 h2
theorem zbY(n:Nat)(a:Int)(s:Sx):z26 (n + 1) [.int a,.int a] s=some (.bool true,s):=by
 simp[z26,mkFn,z5p,sSeq,sIf,asB,asT,tOrF,f1,f2,fVar,fC,gIs,sNext,gInst,tyN,tru,sRet,eAnd,gNot,z1b]
theorem z7m{z:Int}(h0:0<=z)(h1:z<=1000):rOk z=true:=by
 unfold rOk
 simp only[Bool.and_eq_true,decide_eq_true_eq]
 exact⟨by omega,by omega⟩
theorem zaF{z:Int}{d:D}(h0:0<=z)(h1:z<=1000):lRep (.list [d]) (.int z)=some (List.replicate z.toNat d):=by
 have e:[d].length * z.toNat<=sizeLine:=by
  have:[d].length * z.toNat<=1000:=by simp;omega
  exact Nat.le_trans this (by decide)
 have c:(decide (-(2 ^ 63)<=z) && decide (z < 2 ^ 63) && decide ([d].length * z.toNat<=sizeLine))=true:=by
  simp only[Bool.and_eq_true,decide_eq_true_eq];exact⟨⟨by omega,by omega⟩,e⟩
 unfold lRep
 simp only
 rw[if_pos c]
 simp
theorem zaG{g:D->D->Option (List D)}{Fa Fb:FE}{δ:Sl}{s s1 s2:Sx}{a b:D}{xs:List D}(h:Fa δ s=some (a,s1))(h':Fb δ s1=some (b,s2))(e:g a b=some xs):o2 g Fa Fb δ s=some (xs,s2):=by
 unfold o2;rw[h];simp only[Option.bind_some,h',Option.map_some,e]
theorem z27{i:Nat}{F:FO}{δ:Sl}{s s1:Sx}{xs:List D}(h:F δ s=some (xs,s1)):sSetO i F δ s=some (.next (δ.set i (.own xs)),s1):=by
 unfold sSetO;rw[h];rfl
theorem z0S{FL:FA}{δ:Sl}{s s1:Sx}{ds:List D}(h:FL δ s=some (ds,s1))(hs:small ds=true):eLst FL δ s=some (.list ds,s1):=by
 unfold eLst;rw[h];simp only[Option.bind_some,hs,if_true]
theorem zaH{n:Nat}{d:D}(h:n<=1000):lRep (.list [d]) (.int n)=some (List.replicate n d):=by
 have r:=zaF (z:=(n:Int)) (d:=d) (Int.natCast_nonneg _) (by omega)
 rwa [Int.toNat_natCast]at r
theorem zbZ{i:Nat}{F:FE}{δ:Sl}{s s1:Sx}{v:D}{xs:List D}(h:F δ s=some (v,s1))(hi:δ[i]?=some (.own xs))(hl:xs.length < 1000):sApp i F δ s=some (.next (δ.set i (.own (xs++[v]))),s1):=by
 unfold sApp
 rw[h]
 simp only[Option.bind_some,hi]
 rw[if_pos (decide_eq_true (Nat.lt_of_lt_of_le hl (by decide)))]
theorem zaI{F:FE}{δ:Sl}{s s':Sx}{z:Int}(e:F δ s=some (.int z,s'))(h0:0<=z)(h1:z<=1000):iRange1 F δ s=some (rng 0 z.toNat,s'):=by
 have r1:=z7m h0 h1
 unfold iRange1
 rw[e]
 simp only[Option.bind_some,r1,if_true]
theorem z07{F:FE}{δ:Sl}{s s':Sx}{n:Nat}(e:F δ s=some (.int n,s'))(h1:n<=1000):iRange1 F δ s=some (rng 0 n,s'):=by
 have:=zaI e (Int.natCast_nonneg _) (by omega)
 rwa [Int.toNat_natCast]at this
theorem z1u(n:Nat):(rng 0 n).length=n:=by simp[rng]
theorem zk{g:GF}{FL:FA}{δ:Sl}{s s1:Sx}{ds:List D}{r:Option (D × Sx)}(h:FL δ s=some (ds,s1))(e:g ds s1=r):fCall g FL δ s=r:=by
 unfold fCall;rw[h];exact e
theorem z0d{n m:Nat}{G:GS}{ds:List D}{s s':Sx}{d:D}(hl:ds.length=n)(h:G (ds.map .val++List.replicate m .non) s=some (.ret d,s')):mkFn n m G ds s=some (d,s'):=by
 unfold mkFn;rw[if_pos hl,h]
theorem catL{a b:List D}(h:a.length + b.length<=1000):gAdd (.list a) (.list b)=some (.list (a++b)):=by
 have sm:small (a++b)=true:=zQ (by rw[List.length_append];exact h)
 simp[gAdd,gAddI,gI,gCatL,sm]
theorem zc0{FL:FA}{δ:Sl}{s s1:Sx}{ds:List D}(h:FL δ s=some (ds,s1))(hs:small ds=true):oLst FL δ s=some (ds,s1):=by
 unfold oLst;rw[h];simp only[Option.bind_some,hs,if_true]
theorem z6B{m:Nat}{d:D}(h:m<=1000):gMulA (.list [d]) (.int m)=some (.list (List.replicate m d)):=by
 simp only[gMulA,gMulI,gI,zaH h,Option.map_some,Option.none_or]
theorem z2I(j:Nat):gAdd (.int j) (.int 1)=some (.int (j + 1:Nat)):=by simp[gAdd,gAddI,gI]
theorem z5v{n:Nat}(h:1<=n):gSubI (.int n) (.int 1)=some (.int (n - 1:Nat)):=by
 simp only[gSubI,gI,if_true];congr 2;omega
theorem z5w{Ft:FT}{G1 G2:GS}{δ:Sl}{s s':Sx}{r:Option (Out × Sx)}(h:Ft δ s=some (true,s'))(g:G1 δ s'=r):sIf Ft G1 G2 δ s=r:=by
 unfold sIf;rw[h];exact g
theorem zc1{Ft:FT}{G1 G2:GS}{δ:Sl}{s s':Sx}{r:Option (Out × Sx)}(h:Ft δ s=some (false,s'))(g:G2 δ s'=r):sIf Ft G1 G2 δ s=r:=by
 unfold sIf;rw[h];exact g
theorem z8b{n:Nat}{s:Sx}{M:Int}(h:Good (n + 1) s)(h1:0 < M)(h2:M<=1000):∃ r s',zg [.dict [],.int M] s=some (.int r,s')/\0<=r/\r < M/\Good n s':=draw h M h1 (by omega)
theorem z13{n m:Nat}{s:Sx}(h:Good (n + 1) s)(h1:0 < m)(h2:m<=1000):∃ (j:Nat) (s':Sx),zg [.dict [],.int m] s=some (.int j,s')/\j < m/\Good n s':=by
 obtain⟨r,s',e,r0,r1,g⟩:=z8b (M:=(m:Int)) h (by omega) (by omega)
 obtain⟨j,hj⟩:∃ j:Nat,r=(j:Int):=⟨r.toNat,by omega⟩
 subst hj
 exact⟨j,s',e,by omega,g⟩
theorem z8L{xs:List D}{j:Nat}{v:D}(h:j < xs.length):L3.putAt xs (.int j) v=some (xs.set j v):=by
 unfold L3.putAt ixN
 dsimp only
 rw[if_pos (by omega),if_pos (by omega)]
 simp
theorem zdG{n m:Nat}{G:GS}{ds:List D}{s s':Sx}{xs:List D}(hl:ds.length=n)(h:G (ds.map .val++List.replicate m .non) s=some (.own xs,s')):mkFnC n m G ds s=some (.own xs,s'):=by
 unfold mkFnC;rw[if_pos hl,h]
theorem zaJ{i:Nat}{F:FC}{δ:Sl}{s s1:Sx}{xs:List D}(h:F δ s=some (.own xs,s1)):sSetC i F δ s=some (.next (δ.set i (.own xs)),s1):=by
 unfold sSetC;rw[h];rfl
theorem z9w{g:GC}{FL:FA}{δ:Sl}{s s1:Sx}{ds:List D}{r:Option (Ce × Sx)}(h:FL δ s=some (ds,s1))(e:g ds s1=r):fCallC g FL δ s=r:=by
 unfold fCallC;rw[h];exact e
theorem zdH{g:GC}{ds xs:List D}{s s1:Sx}(h:g ds s=some (.own xs,s1)):gOf g ds s=some (.list xs,s1):=by
 unfold gOf;rw[h];rfl
theorem z5x{T:Tgt}{G:GS}{d:D}{ds:List D}{δ δ1 δ2:Sl}{s s1:Sx}{r:Option (Out × Sx)}(h:T.run d δ=some δ1)(g:G δ1 s=some (.next δ2,s1))(w:forD T G ds δ2 s1=r):forD T G (d::ds) δ s=r:=by
 show((T.run d δ).bind fun δ1=>_)=_
 rw[h]
 simp only[Option.bind_some,g]
 exact w
theorem zaK{m:Nat}:∀ d∈rng 0 m,∃ j:Nat,d=.int j/\j < m:=fun d hd=>by
 obtain⟨j,hj⟩:=List.getElem?_of_mem hd
 obtain⟨h,rfl⟩:=z6r hj
 exact⟨j,rfl,h⟩
theorem z16{Ft:FT}{G:GS}{δ δ':Sl}{s s':Sx}{k:Nat}{r:Option (Out × Sx)}(h:Ft δ s=some (true,s))(g:G δ s=some (.next δ',s'))(w:whileN Ft G k δ' s'=r):whileN Ft G (k + 1) δ s=r:=by
 rw[whileN.eq_2,h]
 simp only[Option.bind_some,if_true,g]
 exact w
theorem z0u{Ft:FT}{G:GS}{δ:Sl}{s:Sx}{k:Nat}(h:Ft δ s=some (false,s)):whileN Ft G (k + 1) δ s=some (.next δ,s):=by
 rw[whileN.eq_2,h];rfl
theorem z1x{FL:FA}{δ:Sl}{s s1:Sx}{ds:List D}(h:FL δ s=some (ds,s1))(hs:small ds=true):eTup FL δ s=some (.tuple ds,s1):=by
 unfold eTup;rw[h];simp only[Option.bind_some,hs,if_true]
theorem zc2(i:Int):gNe (.int i) (.int i)=some (.bool false):=by rw[z7W];simp
theorem z5y{a b:Nat}(ha:a < 100)(hb:b < 100):gMulI (.int a) (.int b)=some (.int (a * b:Nat)):=by
 have mk:mulOk (a:Int) (b:Int)=true:=Bt.ok (n:=7) (m:=7) (zeB (by omega) (by omega)) (zeB (by omega) (by omega)) (by decide)
 simp only[gMulI,gI,mk,if_true,Int.natCast_mul]
theorem z5z{Ga Gb:FT}{δ:Sl}{s s1:Sx}{r:Option (Bool × Sx)}(h:Ga δ s=some (false,s1))(g:Gb δ s1=r):tOrF Ga Gb δ s=r:=by
 unfold tOrF;rw[h];exact g
theorem z3L{Ga Gb:FT}{δ:Sl}{s s1:Sx}{r:Option (Bool × Sx)}(h:Ga δ s=some (true,s1))(g:Gb δ s1=r):tAndF Ga Gb δ s=r:=by
 unfold tAndF;rw[h];exact g
theorem z3M{Ga:FT}{δ:Sl}{s s1:Sx}{b:Bool}(h:Ga δ s=some (b,s1)):tNotF Ga δ s=some (!b,s1):=by
 unfold tNotF;rw[h];rfl
theorem z6C{F:FE}{δ:Sl}{s s1:Sx}{b:Bool}(h:F δ s=some (.bool b,s1)):asT F δ s=some (b,s1):=by
 unfold asT;rw[h];rfl
theorem z0F{F:FE}{δ:Sl}{s s1:Sx}{b:Bool}(h:F δ s=some (.bool b,s1)):asB F δ s=some (b,s1):=by
 unfold asB;rw[h];rfl
theorem z8c{g g':G2}{Fa Fb Fc:FE}{δ:Sl}{s s1 s2 s3:Sx}{a b c d:D}(h1:Fa δ s=some (a,s1))(h2:Fb δ s1=some (b,s2))(h3:g a b=some (.bool true))(h4:Fc δ s2=some (c,s3))(h5:g' b c=some d):fChain g g' Fa Fb Fc δ s=some (d,s3):=by
 unfold fChain
 rw[h1]
 simp only[Option.bind_some]
 rw[h2]
 simp only[Option.bind_some,h3,h4,h5,Option.map_some]
structure InvI(p a h l f n:Int):Prop where
 l0:0<=l
 lh:l < h
 hp:h<=p
 sg:∃ e:Int,(e=1\/e=-1)/\0<=n * e/\f * e<=0/\(n * e) * h - (f * e) * l=p
 cf:∃ k:Int,f * a=h + k * p
 cn:∃ k:Int,n * a=l + k * p
 gc:Int.gcd h l=Int.gcd p a
theorem InvI.step{p a h l f n:Int}(I:InvI p a h l f n)(hl:0 < l):InvI p a l (h - h.fdiv l * l) n (f - h.fdiv l * n) where
 l0:=by
  rw[Int.fdiv_eq_ediv_of_nonneg _ (by omega)]
  have:=Int.emod_nonneg h (show l≠0 by omega)
  rw[Int.emod_def,Int.mul_comm]at this
  omega
 lh:=by
  rw[Int.fdiv_eq_ediv_of_nonneg _ (by omega)]
  have:=Int.emod_lt_of_pos h hl
  rw[Int.emod_def,Int.mul_comm]at this
  omega
 hp:=by have:=I.lh;have:=I.hp;omega
 sg:=by
  obtain⟨e,he,h1,h2,h3⟩:=I.sg
  have q0:0<=h.fdiv l:=by
   rw[Int.fdiv_eq_ediv_of_nonneg _ (by omega)]
   exact Int.ediv_nonneg (by have:=I.lh;omega) (by omega)
  generalize h.fdiv l=q at q0
  have hq:0<=q * (n * e):=Int.mul_nonneg q0 h1
  refine⟨-e,by omega,?_,?_,?_⟩
  ·have:(f - q * n) * -e=-(f * e) + q * (n * e):=by grind
   omega
  ·have:n * -e=-(n * e):=by grind
   omega
  ·rw[<- h3];grind
 cf:=I.cn
 cn:=by
  obtain⟨k1,h1⟩:=I.cf
  obtain⟨k2,h2⟩:=I.cn
  generalize h.fdiv l=q
  refine⟨k1 - q * k2,?_⟩
  have:(f - q * n) * a=f * a - q * (n * a):=by grind
  rw[this,h1,h2];grind
 gc:=by
  rw[<- I.gc,Int.gcd_comm h l,Int.sub_eq_add_neg,<- Int.neg_mul,Int.gcd_add_mul_right_right]
theorem InvI.nb{p a h l f n:Int}(I:InvI p a h l f n)(hl:0 < l):n.natAbs<=p.natAbs:=by
 obtain⟨e,he,h1,h2,h3⟩:=I.sg
 have hh:1<=h:=by have:=I.lh;omega
 have t2:(f * e) * l<=0:=Int.mul_nonpos_of_nonpos_of_nonneg h2 (by omega)
 have t1:(n * e) * 1<=(n * e) * h:=Int.mul_le_mul_of_nonneg_left hh h1
 rcases he with rfl | rfl <;> omega
theorem zc3{p a:Int}(hp:p<=1000):∀ (k:Nat) (h l f n:Int) (c6:Ce),l.toNat<=k->InvI p a h l f n ->
  ∃ (h' f' n':Int) (c6':Ce),(∀ s,whileN (asT (fVar 3)) (sSeq (sSet 6 (f2 gDivI (fVar 2) (fVar 3))) (sSeq (sPar 2 3 (aCons (fVar 3) (aCons (f2 gSubI (fVar 2) (f2 gMulI (fVar 6) (fVar 3))) aNil))) (sPar 4 5 (aCons (fVar 5) (aCons (f2 gSubI (fVar 4) (f2 gMulI (fVar 6) (fVar 5))) aNil))))) (k + 1)
   [qI p,qI a,qI h,qI l,qI f,qI n,c6] s=some (.next [qI p,qI a,qI h',qI 0,qI f',qI n',c6'],s))/\InvI p a h' 0 f' n':=by
 have test:∀ (h l f n:Int) (c6:Ce) (s:Sx),asT (fVar 3) [qI p,qI a,qI h,qI l,qI f,qI n,c6] s=some (l != 0,s):=fun h l f n c6 s=>rfl
 intro k
 induction k with
 | zero =>
  intro h l f n c6 hk I
  have:l=0:=by have:=I.l0;omega
  subst this
  exact⟨h,f,n,c6,fun s=>z0u (test _ _ _ _ _ s),I⟩
 | succ k ih =>
  intro h l f n c6 hk I
  by_cases hl:l=0
  ·subst hl
   exact⟨h,f,n,c6,fun s=>z0u (test _ _ _ _ _ s),I⟩
  ·have l0:0 < l:=by have:=I.l0;omega
   have I2:=I.step l0
   have d:=I2.lh
   have hq:(h.fdiv l).natAbs<=1000:=Nat.le_trans (PySem.natAbs_fdiv_le h l) (by have:=I.lh;have:=I.hp;omega)
   have hn:=I.nb l0
   have bq:Bt 10 (h.fdiv l):=Nat.lt_of_le_of_lt hq (by decide)
   have bl:Bt 10 l:=Nat.lt_of_le_of_lt (show l.natAbs<=1000 by have:=I.lh;have:=I.hp;omega) (by decide)
   have bn:Bt 10 n:=Nat.lt_of_le_of_lt (show n.natAbs<=1000 by have:=I.lh;have:=I.hp;omega) (by decide)
   have m1:mulOk (h.fdiv l) l=true:=bq.ok bl (by decide)
   have m2:mulOk (h.fdiv l) n=true:=bq.ok bn (by decide)
   have dv:divOk h l=true:=bl.div hl (by decide)
   obtain⟨h',f',n',c6',e,I'⟩:=ih l (h - h.fdiv l * l) n (f - h.fdiv l * n) (.val (.int (h.fdiv l))) (by have:=I2.l0;omega) I2
   refine⟨h',f',n',c6',fun s=>z16 (by rw[test];simp[hl]) ?_ (e s),I'⟩
   have a1:sSet 6 (f2 gDivI (fVar 2) (fVar 3)) [qI p,qI a,qI h,qI l,qI f,qI n,c6] s=some (.next [qI p,qI a,qI h,qI l,qI f,qI n,qI (h.fdiv l)],s):=zE (z9 (a:=.int h) (b:=.int l) rfl rfl (by simp only[gDivI,gI,dv,if_true]))
   have a2:sPar 2 3 (aCons (fVar 3) (aCons (f2 gSubI (fVar 2) (f2 gMulI (fVar 6) (fVar 3))) aNil)) [qI p,qI a,qI h,qI l,qI f,qI n,qI (h.fdiv l)] s=some (.next [qI p,qI a,qI l,qI (h - h.fdiv l * l),qI f,qI n,qI (h.fdiv l)],s):=by
    unfold sPar
    rw[z7 (F:=fVar 3) rfl (z7 (FL:=aNil) (z9 (a:=.int h) (b:=.int (h.fdiv l * l)) (d:=.int (h - h.fdiv l * l)) rfl (z9 (a:=.int (h.fdiv l)) (b:=.int l) rfl rfl (by simp only[gMulI,gI,m1,if_true])) (by simp only[gSubI,gI,if_true])) rfl)]
    rfl
   have a3:sPar 4 5 (aCons (fVar 5) (aCons (f2 gSubI (fVar 4) (f2 gMulI (fVar 6) (fVar 5))) aNil)) [qI p,qI a,qI l,qI (h - h.fdiv l * l),qI f,qI n,qI (h.fdiv l)] s=some (.next [qI p,qI a,qI l,qI (h - h.fdiv l * l),qI n,qI (f - h.fdiv l * n),qI (h.fdiv l)],s):=by
    unfold sPar
    rw[z7 (F:=fVar 5) rfl (z7 (FL:=aNil) (z9 (a:=.int f) (b:=.int (h.fdiv l * n)) (d:=.int (f - h.fdiv l * n)) rfl (z9 (a:=.int (h.fdiv l)) (b:=.int n) rfl rfl (by simp only[gMulI,gI,m2,if_true])) (by simp only[gSubI,gI,if_true])) rfl)]
    rfl
   rw[zJ a1,zJ a2,a3]
theorem z4a(x p:Int)(h:0 < p):0<=x.fmod p/\x.fmod p < p/\∃ k:Int,x.fmod p=x + k * p:=by
 rw[Int.fmod_eq_emod_of_nonneg _ (by omega)]
 exact⟨Int.emod_nonneg _ (by omega),Int.emod_lt_of_pos _ h,-(x / p),by rw[Int.emod_def,Int.mul_comm,Int.neg_mul];omega⟩
theorem z8d{p a:Int}(hp:p<=1000)(h0:0 < a)(h1:a < p)(hg:Int.gcd p a=1) :
  ∃ r:Int,(∀ s,z1C [.int p,.int a] s=some (.int r,s))/\0<=r/\r < p/\∃ k:Int,r * a=1 + k * p:=by
 have I0:InvI p a p a 0 1:=⟨by omega,h1,Int.le_refl _,⟨1,.inl rfl,by decide,by decide,by omega⟩,⟨-1,by omega⟩,⟨0,by omega⟩,rfl⟩
 obtain⟨h',f',n',c6',e,I'⟩:=zc3 hp a.toNat p a 0 1 .non (Nat.le_refl _) I0
 have h1':h'=1:=by
  have h:=I'.gc
  rw[hg,Int.gcd_zero_right]at h
  have:=I'.lh
  omega
 subst h1'
 obtain⟨m0,m1,k1,m2⟩:=z4a f' p (by omega)
 obtain⟨k2,h2⟩:=I'.cf
 refine⟨f'.fmod p,fun s=>z0d (n:=2) (m:=5) (G:=z2d) rfl ?_,m0,m1,k2 + k1 * a,?_⟩
 ·show z2d [qI p,qI a,.non,.non,.non,.non,.non] s=_
  have a1:sPar 2 3 (aCons (fVar 0) (aCons (fVar 1) aNil)) [qI p,qI a,.non,.non,.non,.non,.non] s=some (.next [qI p,qI a,qI p,qI a,.non,.non,.non],s):=rfl
  have a2:sUnp (.tup [4,5]) (eTup (aCons (fC (.int 0)) (aCons (fC (.int 1)) aNil))) [qI p,qI a,qI p,qI a,.non,.non,.non] s=some (.next [qI p,qI a,qI p,qI a,qI 0,qI 1,.non],s):=by
   unfold sUnp
   rw[z1x (ds:=[.int 0,.int 1]) rfl (small2 _ _)];rfl
  have a3:z3v [qI p,qI a,qI p,qI a,qI 0,qI 1,.non] s=_:=z0x (e s) (by unfold fuel;omega)
  unfold z2d
  rw[zJ a1,zJ a2,zJ a3]
  unfold sRet
  exact congrArg (Option.map _) (z9 (a:=.int f') (b:=.int p) rfl rfl (by simp only[gModI,gI,decide_eq_true (show p≠0 by omega),if_true]))
 ·rw[m2,Int.add_mul,h2];grind
theorem z9x:∀ p∈([2,3,5,7,11,13,101,997]:List Nat),∀ a:Fin 1000,0 < a.val->a.val < p->Nat.gcd p a.val=1:=by decide +kernel
def Prm(p:Int):Prop:=∃ n∈([2,3,5,7,11,13,101,997]:List Nat),p=(n:Int)
theorem Prm.two{p:Int}(h:Prm p):2<=p/\p<=997:=by
 obtain⟨n,hn,rfl⟩:=h
 simp only[List.mem_cons,List.not_mem_nil,or_false]at hn
 omega
theorem Prm.gcd{p a:Int}(h:Prm p)(h0:0 < a)(h1:a < p):Int.gcd p a=1:=by
 have ht:=h.two
 obtain⟨n,hn,rfl⟩:=h
 have:=z9x n hn ⟨a.toNat,by omega⟩ (by show 0 < a.toNat;omega) (by show a.toNat < n;omega)
 unfold Int.gcd
 rw[show a.natAbs=a.toNat by omega]
 exact this
theorem Prm.dvd{p x b:Int}(h:Prm p)(hx:p∣x * b)(hb:¬ p∣b):p∣x:=by
 have ht:=h.two
 have hm:0 < b % p:=by
  have h1:=Int.emod_nonneg b (show p≠0 by omega)
  have:b % p≠0:=fun z=>hb (Int.dvd_of_emod_eq_zero z)
  omega
 have hg:Int.gcd p (b % p)=1:=h.gcd hm (Int.emod_lt_of_pos _ (by omega))
 have hg2:Nat.Coprime p.natAbs b.natAbs:=by
  rw[Int.emod_def,Int.gcd_sub_mul_left_right]at hg
  exact hg
 have hx2:p.natAbs∣x.natAbs * b.natAbs:=by rw[<- Int.natAbs_mul];exact Int.natAbs_dvd_natAbs.mpr hx
 exact Int.natAbs_dvd_natAbs.mp (Nat.Coprime.dvd_of_dvd_mul_right hg2 hx2)
def zc(l:List Int)(k:Nat):Int:=l.getD k 0
theorem zdI{l:List Int}{k:Nat}(h:k < l.length):zc l k=l[k]:=by unfold zc;rw[List.getD_eq_getElem?_getD,List.getElem?_eq_getElem h];rfl
theorem z0V{l:List Int}{k:Nat}(h:l.length<=k):zc l k=0:=by unfold zc;rw[List.getD_eq_getElem?_getD,List.getElem?_eq_none h];rfl
theorem z7n{l:List Int}{k:Nat}(h:k < l.length):(l.map PyData.int)[k]?=some (.int (zc l k)):=by rw[zdI h,List.getElem?_map,List.getElem?_eq_getElem h];rfl
theorem zaL{l:List Int}{j k:Nat}{v:Int}(h:j < l.length):zc (l.set j v) k=if k=j then v else zc l k:=by
 unfold zc
 rw[List.getD_eq_getElem?_getD,List.getD_eq_getElem?_getD,List.getElem?_set]
 by_cases hk:j=k
 ·subst hk;rw[if_pos rfl,if_pos h,if_pos rfl];rfl
 ·rw[if_neg hk,if_neg (Ne.symm hk)]
def Rs(p:Int)(l:List Int):Prop:=∀ x∈l,0<=x/\x < p
theorem Rs.zc{p:Int}{l:List Int}(h:Rs p l)(hp:0 < p)(k:Nat):0<=zc l k/\zc l k < p:=by
 by_cases hk:k < l.length
 ·rw[zdI hk];exact h _ (List.getElem_mem hk)
 ·rw[z0V (by omega)];omega
theorem Rs.set{p:Int}{l:List Int}{j:Nat}{v:Int}(h:Rs p l)(h0:0<=v)(h1:v < p):Rs p (l.set j v):=fun x hx=>by
 rcases List.mem_or_eq_of_mem_set hx with hx | rfl
 ·exact h x hx
 ·exact⟨h0,h1⟩
def fieldP(p:Int):D:=.dict [(.str "",.str "PrimeField"),(.str "prime",.int p),(.str "nought",.int 0),(.str "unit",.int 1)]
abbrev qF(p:Int):Ce:=.val (fieldP p)
theorem fldN(p:Int):gFld ["PrimeField"] "nought" (fieldP p)=some (.int 0):=by
 simp[gFld,fieldP,lookF]
 intro h
 exact absurd h (by decide)
theorem fldP(p:Int):gFld ["PrimeField"] "prime" (fieldP p)=some (.int p):=by simp[gFld,fieldP,lookF]
theorem makeP{F:FE}{δ:Sl}{s:Sx}{p:Int}(h:F δ s=some (.int p,s)):fMake "PrimeField" ["prime","nought","unit"] z0k (aCons F aNil) δ s=some (fieldP p,s):=by
 unfold fMake
 rw[z7 (FL:=aNil) h rfl];rfl
theorem methP{p:Int}{m:Str}{g:GF}{Fo:FE}{FL:FA}{δ:Sl}{s s1:Sx}{ds:List D}{r:Option (D × Sx)}(h0:Fo δ s=some (fieldP p,s))(h1:FL δ s=some (ds,s1))(e:g (fieldP p::ds) s1=r)
  (hm:lookF m [(.str "prime",.int p),(.str "nought",.int 0),(.str "unit",.int 1)]=none):fMeth [("PrimeField",g)] m Fo FL δ s=r:=by
 unfold fMeth
 rw[h0]
 simp only[Option.bind_some,fieldP]
 rw[if_pos (by rw[hm];rfl)]
 simp only[List.lookup,beq_self_eq_true,Option.bind_some,h1]
 exact e
theorem z3N{p:Int}(h:0 < p)(x:Int):gModI (.int x) (.int p)=some (.int (x.fmod p)):=by simp only[gModI,gI,decide_eq_true (show p≠0 by omega),if_true]
theorem subP{p a b:Int}(s:Sx)(h:0 < p):zD [fieldP p,.int a,.int b] s=some (.int ((a - b).fmod p),s):=by
 refine z0d (n:=3) (m:=0) (G:=z0l) rfl ?_
 show z0l [qF p,qI a,qI b] s=_
 unfold z0l sRet
 exact congrArg (Option.map _) (z9 (a:=.int (a - b)) (b:=.int p) (z9 (a:=.int a) (b:=.int b) rfl rfl (by simp only[gSubI,gI,if_true])) (zn (a:=fieldP p) rfl (fldP p)) (z3N h _))
theorem bt10{p a:Int}(hp:p<=1000)(h:0<=a/\a < p):Bt 10 a:=Nat.lt_of_lt_of_le (show a.natAbs < 1000 by omega) (by decide)
theorem mulP{p a b:Int}(s:Sx)(h:0 < p)(hp:p<=1000)(ha:0<=a/\a < p)(hb:0<=b/\b < p):zy [fieldP p,.int a,.int b] s=some (.int ((a * b).fmod p),s):=by
 have mk:mulOk a b=true:=(bt10 hp ha).ok (bt10 hp hb) (by decide)
 refine z0d (n:=3) (m:=0) (G:=z0a) rfl ?_
 show z0a [qF p,qI a,qI b] s=_
 unfold z0a sRet
 exact congrArg (Option.map _) (z9 (a:=.int (a * b)) (b:=.int p) (z9 (a:=.int a) (b:=.int b) rfl rfl (by simp only[gMulI,gI,mk,if_true])) (zn (a:=fieldP p) rfl (fldP p)) (z3N h _))
theorem divP{p a b:Int}(hp:Prm p)(ha:0<=a/\a < p)(hb:0 < b/\b < p):∃ q:Int,(∀ s,zw [fieldP p,.int a,.int b] s=some (.int q,s))/\(0<=q/\q < p)/\p∣q * b - a:=by
 have ht:=hp.two
 obtain⟨v,ev,v0,v1,k1,hv⟩:=z8d (p:=p) (by omega) hb.1 hb.2 (hp.gcd hb.1 hb.2)
 obtain⟨n0,n1,k2,n2⟩:=z4a (a * v) p (by omega)
 have mk:mulOk a v=true:=(bt10 (by omega) ha).ok (bt10 (p:=p) (by omega) ⟨v0,v1⟩) (by decide)
 refine⟨(a * v).fmod p,fun s=>z0d (n:=3) (m:=0) (G:=z0s) rfl ?_,⟨n0,n1⟩,a * k1 + k2 * b,?_⟩
 ·show z0s [qF p,qI a,qI b] s=_
  unfold z0s sRet
  exact congrArg (Option.map _) (z9 (a:=.int (a * v)) (b:=.int p) (z9 (a:=.int a) (b:=.int v) rfl (zk (ds:=[.int p,.int b]) (z7 (zn (a:=fieldP p) rfl (fldP p)) (z7 (F:=fVar 2) (FL:=aNil) rfl rfl)) (ev s)) (by simp only[gMulI,gI,mk,if_true])) (zn (a:=fieldP p) rfl (fldP p)) (z3N (by omega) _))
 ·rw[n2,show(a * v + k2 * p) * b - a=a * (v * b) + k2 * p * b - a by grind,hv];grind
def tzn(l:List Int):Nat->Nat
 | 0=>0
 | n + 1=>if zc l n=0 then tzn l n else n + 1
def tz(l:List Int):List Int:=l.take (tzn l l.length)
theorem z7o(l:List Int):∀ n,tzn l n<=n
 | 0=>Nat.le_refl _
 | n + 1=>by
  unfold tzn
  split
  ·exact Nat.le_succ_of_le (z7o l n)
  ·exact Nat.le_refl _
theorem z8M(l:List Int):∀ n k,tzn l n<=k->k < n->zc l k=0
 | 0,k,_,h=>absurd h (Nat.not_lt_zero _)
 | n + 1,k,h1,h2=>by
  unfold tzn at h1
  split at h1
  ·rename_i hz
   by_cases hk:k=n
   ·subst hk;exact hz
   ·exact z8M l n k h1 (by omega)
  ·omega
theorem z8N(l:List Int):∀ n,0 < tzn l n->zc l (tzn l n - 1)≠0
 | 0,h=>absurd h (Nat.lt_irrefl _)
 | n + 1,h=>by
  by_cases hz:zc l n=0
  ·rw[tzn,if_pos hz]at h ⊢
   exact z8N l n h
  ·rw[tzn,if_neg hz]
   exact hz
theorem zaM(l:List Int)(k:Nat):zc (tz l) k=zc l k:=by
 unfold tz
 have hle:=z7o l l.length
 by_cases h:k < tzn l l.length
 ·unfold zc
  rw[List.getD_eq_getElem?_getD,List.getD_eq_getElem?_getD,List.getElem?_take,if_pos h]
 ·rw[z0V (by rw[List.length_take];omega)]
  by_cases hk:k < l.length
  ·exact(z8M l _ k (by omega) hk).symm
  ·exact(z0V (by omega)).symm
theorem zaN(l:List Int):(tz l).length=tzn l l.length:=by unfold tz;rw[List.length_take];exact Nat.min_eq_left (z7o l _)
theorem zaO(l:List Int):(tz l).length<=l.length:=by rw[zaN];exact z7o l _
theorem z8e{l:List Int}(h:0 < (tz l).length):zc (tz l) ((tz l).length - 1)≠0:=by
 rw[zaM,zaN]
 rw[zaN]at h
 exact z8N l _ h
theorem Rs.tz{p:Int}{l:List Int}(h:Rs p l):Rs p (tz l):=fun x hx=>h x (List.mem_of_mem_take hx)
theorem z0X{d:D}{l:List Int}{k:Nat}(h:seqOf d=some (l.map .int))(hk:k < l.length):gIx d (.int k)=some (.int (zc l k)):=by
 rw[zay h]
 exact L3.atI_nat (z7n hk)
theorem z39{row:D}{l:List Int}(s:Sx)(hl:seqOf row=some (l.map .int))(hb:l.length<=1000):z1f [.int 0,row] s=some (.tuple ((tz l).map .int),s):=by
 have loop:∀ k:Nat,k<=l.length->whileN (tAndF (asB (f2 gGt (fVar 2) (fC (.int 0)))) (asB (f2 gEq (f2 gIx (fVar 1) (f2 gSubI (fVar 2) (fC (.int 1)))) (fVar 0)))) (sAug 2 gSubI (fC (.int 1))) (k + 1) [qI 0,.val row,qI k] s=some (.next [qI 0,.val row,qI (tzn l k:Int)],s):=by
  intro k
  induction k with
  | zero=>intro _;exact z0u rfl
  | succ k ih =>
   intro hk
   have t1:tAndF (asB (f2 gGt (fVar 2) (fC (.int 0)))) (asB (f2 gEq (f2 gIx (fVar 1) (f2 gSubI (fVar 2) (fC (.int 1)))) (fVar 0))) [qI 0,.val row,qI (k + 1:Nat)] s=some (decide (zc l k=0),s) :=
    z3L (z0F (b:=true) (z9 (a:=.int (k + 1:Nat)) (b:=.int 0) rfl rfl (by simp only[gGt,gI,if_true,decide_eq_true (show(0:Int) < ((k + 1:Nat):Int) by omega)]))) (z0F (z9 (a:=.int (zc l k)) (b:=.int 0) (z9 (a:=row) (b:=.int k) rfl (z9 (a:=.int (k + 1:Nat)) (b:=.int 1) rfl rfl (by rw[show(k:Int)=((k + 1:Nat):Int) - 1 by omega];simp only[gSubI,gI,if_true])) (z0X hl (by omega))) rfl (z1b _ _)))
   by_cases hz:zc l k=0
   ·rw[decide_eq_true hz]at t1
    rw[tzn,if_pos hz]
    refine z16 t1 ?_ (ih (by omega))
    unfold sAug
    show some (Out.next [qI 0,.val row,.val (.int (((k + 1:Nat):Int) - 1))],s)=_
    rw[show((k + 1:Nat):Int) - 1=(k:Int) by omega]
   ·rw[decide_eq_false hz]at t1
    rw[tzn,if_neg hz]
    exact z0u t1
 refine z0d (n:=2) (m:=1) (G:=z45) rfl ?_
 show z45 [qI 0,.val row,.non] s=_
 have e1:sSet 2 (f1 gLen (fVar 1)) [qI 0,.val row,.non] s=some (.next [qI 0,.val row,qI (l.length:Int)],s):=zE (zn (a:=row) rfl (by rw[z09 hl,List.length_map]))
 have e2:z5n [qI 0,.val row,qI (l.length:Int)] s=some (.next [qI 0,.val row,qI (tzn l l.length:Int)],s):=z0x (loop l.length (Nat.le_refl _)) (by unfold fuel;omega)
 have hc:L3.cutD (l.map PyData.int) none (some (tzn l l.length:Int))=(tz l).map .int:=by
  unfold L3.cutD tz
  rw[HT.sIx_nat,HT.sIx_none,List.drop_zero,Nat.sub_zero,List.length_map,Nat.min_eq_left (z7o l _),List.map_take]
 obtain⟨d,e3,e4⟩:∃ d,gSlD row none (some (tzn l l.length:Int))=some d/\gTuple d=some (qt (tz l)):=by
  cases row with
  | list xs=>cases hl;exact⟨.list ((tz l).map .int),by simp[gSlD,hc],rfl⟩
  | tuple xs=>cases hl;exact⟨.tuple ((tz l).map .int),by simp[gSlD,hc],rfl⟩
  | _=>cases hl
 unfold z45
 rw[zJ e1,zJ e2]
 unfold sRet
 refine congrArg (Option.map _) (zn (a:=d) (s1:=s) ?_ e4)
 unfold fSl
 show((gSlD row none (some (tzn l l.length:Int))).map _)=_
 rw[e3];rfl
theorem addP{p a b:Int}(s:Sx)(h:0 < p):zF [fieldP p,.int a,.int b] s=some (.int ((a + b).fmod p),s):=by
 refine z0d (n:=3) (m:=0) (G:=z0H) rfl ?_
 show z0H [qF p,qI a,qI b] s=_
 unfold z0H sRet
 exact congrArg (Option.map _) (z9 (a:=.int (a + b)) (b:=.int p) (z9 (a:=.int a) (b:=.int b) rfl rfl (by simp[gAdd,gAddI,gI])) (zn (a:=fieldP p) rfl (fldP p)) (z3N h _))
def shz(s:Nat)(b:Nat->Int)(k:Nat):Int:=if s<=k then b (k - s) else 0
def cvz(a b:Nat->Int)(k:Nat):Nat->Int
 | 0=>0
 | n + 1=>cvz a b k n + a n * shz n b k
theorem zaP{a b:Nat->Int}{k s:Nat}{w:Int}:∀ n,cvz (fun i=>if i=s then w else a i) b k n=cvz a b k n + (if s < n then (w - a s) * shz s b k else 0)
 | 0=>by simp[cvz]
 | n + 1=>by
  rw[cvz,cvz,zaP n]
  by_cases h:n=s
  ·subst h
   rw[if_pos rfl,if_neg (Nat.lt_irrefl _),if_pos (Nat.lt_succ_self _)];grind
  ·rw[if_neg h]
   by_cases h2:s < n
   ·rw[if_pos h2,if_pos (by omega)];grind
   ·rw[if_neg h2,if_neg (by omega)];grind
theorem z6D{a b:Nat->Int}{k m:Nat}:∀ n,m<=n->(∀ i,m<=i->i < n->a i=0)->cvz a b k n=cvz a b k m
  | 0, h, _ => by have : m = 0 := by omega
                  rw[this]
  | n + 1,h,hz=>by
    by_cases hm:m=n + 1
    · rw[hm]
    · rw[cvz,hz n (by omega) (Nat.lt_succ_self _),Int.zero_mul,Int.add_zero]
      exact z6D n (by omega) fun i h1 h2=>hz i h1 (by omega)
theorem z7p{a a' b:Nat->Int}{k:Nat}:∀ n,(∀ i,i < n->a i=a' i)->cvz a b k n=cvz a' b k n
 | 0,_=>rfl
 | n + 1,h=>by rw[cvz,cvz,z7p n fun i hi=>h i (by omega),h n (Nat.lt_succ_self _)]
theorem z0e{p x:Int}(h0:0<=x)(h1:x < p)(h:p∣x):x=0:=by
 obtain⟨k,hk⟩:=h
 rcases Int.lt_trichotomy k 0 with h2 | h2 | h2
 ·have:=Int.mul_le_mul_of_nonneg_left (show k<=-1 by omega) (show 0<=p by omega)
  omega
 ·rw[h2]at hk;omega
 ·have:=Int.mul_le_mul_of_nonneg_left (show 1<=k by omega) (show 0<=p by omega)
  omega
theorem z0T{p x:Int}(h:0 < p):p∣x.fmod p - x:=by
 obtain⟨_,_,k,hk⟩:=z4a x p h
 exact⟨k,by rw[hk];grind⟩
theorem z14{p x:Int}(h:0 < p):0<=x.fmod p/\x.fmod p < p:=⟨(z4a x p h).1,(z4a x p h).2.1⟩
theorem z3a{l:List Int}{j:Nat}{v:Int}:(l.map PyData.int).set j (.int v)=(l.set j v).map .int:=by rw[List.map_set]
theorem ixw{l:List Int}{i j:Nat}{δ:Sl}{s:Sx}{F:FE}(hi:δ[i]?=some (.own (l.map .int)))(hF:F δ s=some (.int j,s))(hj:j < l.length):f2 gIx (fVarW i) F δ s=some (.int (zc l j),s) :=
 z9 (a:=ql l) (b:=.int j) (by unfold fVarW;rw[hi]) hF (z0X (d:=ql l) rfl hj)
theorem z6E{d:D}{l:List Int}(h:seqOf d=some (l.map .int))(h0:0 < l.length):gIx d (.int (-1))=some (.int (zc l (l.length - 1))):=by
 rw[zay h]
 have e:=L3.atI_nat (z7n (l:=l) (k:=l.length - 1) (by omega))
 unfold L2.atI ixN at e ⊢
 rw[List.length_map]at e ⊢
 rw[if_pos (by omega),if_pos (by omega)]at e
 rw[if_neg (by decide),if_pos (by omega)]
 simp only[Option.bind_some]at e ⊢
 rw[show(-1 + (l.length:Int)).toNat=(((l.length - 1:Nat):Int)).toNat by omega]
 exact e
theorem Prm.unit{p:Int}{l:List Int}{k:Nat}(hp:Prm p)(h:Rs p l)(h0:zc l k≠0):0 < zc l k/\zc l k < p/\¬ p∣zc l k:=by
 have ht:=hp.two
 have hz:=h.zc (by omega) k
 exact⟨by omega,hz.2,fun z=>h0 (z0e hz.1 hz.2 z)⟩
def DvF(p:Int)(g f:Nat->Int):Prop:=∃ (N:Nat) (q:Nat->Int),∀ k,p∣f k - cvz q g k N
theorem z5A{a a' b:Nat->Int}{k:Nat}:∀ n,cvz (fun i=>a i + a' i) b k n=cvz a b k n + cvz a' b k n
 | 0=>rfl
 | n + 1=>by rw[cvz,cvz,cvz,z5A n];grind
theorem z2A{a b:Nat->Int}{k:Nat}{w:Int}:∀ n,cvz (fun i=>w * a i) b k n=w * cvz a b k n
 | 0=>by rw[cvz,cvz,Int.mul_zero]
 | n + 1=>by rw[cvz,cvz,z2A n];grind
theorem z5B{a b:Nat->Int}{k n m:Nat}(h:n<=m):cvz (fun i=>if i < n then a i else 0) b k m=cvz a b k n:=by
 rw[z6D m h fun i h1 h2=>if_neg (by omega)]
 exact z7p n fun i hi=>if_pos hi
theorem z4b{q g:Nat->Int}{s k:Nat}:∀ N,cvz (shz s q) g k (N + s)=shz s (fun k=>cvz q g k N) k
 | 0=>by
  have h0:cvz (shz s q) g k s=cvz (shz s q) g k 0:=z6D (m:=0) s (Nat.zero_le _) fun i _ h=>by unfold shz;rw[if_neg (by omega)]
  rw[Nat.zero_add,h0]
  unfold shz
  show(0:Int)=if s<=k then 0 else 0
  split <;> rfl
 | N + 1=>by
  rw[show N + 1 + s=N + s + 1 by omega,cvz,z4b N]
  have e:shz s q (N + s)=q N:=by unfold shz;rw[if_pos (by omega),Nat.add_sub_cancel]
  rw[e]
  show(if s<=k then cvz q g (k - s) N else 0) + q N * (if N + s<=k then g (k - (N + s)) else 0)=if s<=k then cvz q g (k - s) N + q N * (if N<=k - s then g (k - s - N) else 0) else 0
  by_cases h:s<=k
  ·rw[if_pos h,if_pos h]
   by_cases h2:N<=k - s
   ·rw[if_pos (by omega),if_pos h2,show k - (N + s)=k - s - N by omega]
   ·rw[if_neg (by omega),if_neg h2]
  ·rw[if_neg h,if_neg h,if_neg (by omega)];omega
theorem DvF.zero{p:Int}{g:Nat->Int}:DvF p g (fun _=>0):=⟨0,fun _=>0,fun k=>⟨0,by show(0:Int) - 0=p * 0;omega⟩⟩
theorem DvF.congr{p:Int}{g f f':Nat->Int}(h:DvF p g f)(e:∀ k,p∣f' k - f k):DvF p g f':=by
 obtain⟨N,q,h⟩:=h
 refine⟨N,q,fun k=>?_⟩
 obtain⟨a,ha⟩:=h k
 obtain⟨b,hb⟩:=e k
 exact⟨a + b,by grind⟩
theorem DvF.add{p:Int}{g f f':Nat->Int}(h:DvF p g f)(h':DvF p g f'):DvF p g (fun k=>f k + f' k):=by
 obtain⟨N,q,h⟩:=h
 obtain⟨M,r,h'⟩:=h'
 refine⟨N + M,fun i=>(if i < N then q i else 0) + (if i < M then r i else 0),fun k=>?_⟩
 rw[z5A,z5B (by omega),z5B (by omega)]
 obtain⟨a,ha⟩:=h k
 obtain⟨b,hb⟩:=h' k
 exact⟨a + b,by grind⟩
theorem DvF.shift{p w:Int}{g f:Nat->Int}(s:Nat)(h:DvF p g f):DvF p g (fun k=>w * shz s f k):=by
 obtain⟨N,q,h⟩:=h
 refine⟨N + s,fun i=>w * shz s q i,fun k=>?_⟩
 rw[z2A,z4b]
 show p∣w * (if s<=k then f (k - s) else 0) - w * (if s<=k then cvz q g (k - s) N else 0)
 by_cases hk:s<=k
 ·rw[if_pos hk,if_pos hk]
  obtain⟨a,ha⟩:=h (k - s)
  exact⟨w * a,by grind⟩
 ·rw[if_neg hk,if_neg hk];exact⟨0,by omega⟩
theorem DvF.conv{p:Int}{g f a:Nat->Int}(h:DvF p g f):∀ n,DvF p g (fun k=>cvz a f k n)
 | 0=>DvF.zero
 | n + 1=>(h.conv n).add (h.shift n)
theorem DvF.refl{p:Int}{g:Nat->Int}:DvF p g g:=⟨1,fun _=>1,fun k=>by
 rw[cvz,cvz]
 unfold shz
 rw[if_pos (Nat.zero_le _),Nat.sub_zero]
 exact⟨0,by omega⟩⟩
def Ends(l:List Int):Prop:=0 < l.length->zc l (l.length - 1)≠0
theorem z5C{p x:Int}(h0:0<=x)(h1:x < p)(h:x≠0):¬ p∣x:=fun z=>h (z0e h0 h1 z)
theorem z28{k:Nat}{fr:List Nat}{Fi:FI}{T:Tgt}{Ft:FT}{F:FE}{δ:Sl}{s s1 s2:Sx}{ds xs:List D}(h:Fi δ s=some (ds,s1))(hs:ds.length<=1000)(hc:compD T Ft F (compDl k fr δ) ds s1=some (xs,s2)):asL (fComp k fr Fi T Ft F) δ s=some (.list xs,s2):=by
 unfold asL fComp
 rw[h]
 simp only[Option.bind_some]
 rw[if_pos (zQ hs),hc];rfl
theorem zaQ{p b:Int}{Fm:FE}(hp:Prm p)(hb:0 < b/\b < p)(δc:Sl)(s:Sx)
  (step:∀ a:Int,∃ δ1,(Tgt.one 0).run (.int a) δc=some δ1/\Fm δ1 s=zw [fieldP p,.int a,.int b] s) :
  ∀ l:List Int,Rs p l->∃ m:List Int,compD (.one 0) fTrue Fm δc (l.map .int) s=some (m.map .int,s)/\Rs p m/\m.length=l.length/\∀ k,p∣zc m k * b - zc l k
 | [],_=>⟨[],rfl,(fun _ z=>nomatch z),rfl,fun k=>by rw[z0V (Nat.zero_le _)];exact⟨0,by omega⟩⟩
 | a::l,h=>by
  obtain⟨m,e,hm,hl,hd⟩:=zaQ hp hb δc s step l fun x hx=>h x (List.mem_cons_of_mem _ hx)
  obtain⟨q,eq,hq,hqd⟩:=divP hp (h a List.mem_cons_self) hb
  obtain⟨δ1,e1,e2⟩:=step a
  refine⟨q::m,?_,fun x hx=>?_,by simp[hl],fun k=>?_⟩
  ·show compD _ _ _ _ (.int a::l.map .int) s=_
   unfold compD
   rw[e1]
   simp only[Option.bind_some,fTrue,if_true,e2,eq,e,Option.map_some]
   rfl
  ·rcases List.mem_cons.mp hx with rfl | hx
   ·exact hq
   ·exact hm x hx
  ·cases k with
   | zero=>exact hqd
   | succ k=>exact hd k
theorem z0z{Ft:FT}{G:GS}{δ:Sl}{s:Sx}(h:Ft δ s=some (false,s)):sIf Ft G sNext δ s=some (.next δ,s):=by
 unfold sIf;rw[h];rfl
theorem z8f{a b:Nat->Int}{k:Nat}(h:∀ i,a i=0):∀ n,cvz a b k n=0
 | 0=>rfl
 | n + 1=>by rw[cvz,z8f h n,h];omega
theorem zaR{s k:Nat}{b b':Nat->Int}:shz s (fun i=>b i + b' i) k=shz s b k + shz s b' k:=by
 unfold shz;split
 ·rfl
 ·rfl
theorem z7q{s k:Nat}{b:Nat->Int}{w:Int}:shz s (fun i=>w * b i) k=w * shz s b k:=by
 unfold shz;split
 ·rfl
 ·rw[Int.mul_zero]
theorem zdJ{s t k:Nat}{b:Nat->Int}:shz s (shz t b) k=shz t (shz s b) k:=by
 unfold shz
 by_cases h1:s<=k <;> by_cases h2:t<=k
 ·rw[if_pos h1,if_pos h2]
  by_cases h3:t<=k - s
  ·rw[if_pos h3,if_pos (by omega),show k - s - t=k - t - s by omega]
  ·rw[if_neg h3,if_neg (by omega)]
 ·rw[if_pos h1,if_neg h2,if_neg (by omega)]
 ·rw[if_neg h1,if_pos h2,if_neg (by omega)]
 ·rw[if_neg h1,if_neg h2]
theorem z6F{a b b':Nat->Int}{k:Nat}:∀ n,cvz a (fun i=>b i + b' i) k n=cvz a b k n + cvz a b' k n
 | 0=>rfl
 | n + 1=>by rw[cvz,cvz,cvz,z6F n,zaR,Int.mul_add];omega
theorem z3p{a b:Nat->Int}{k:Nat}{w:Int}:∀ n,cvz a (fun i=>w * b i) k n=w * cvz a b k n
 | 0=>by rw[cvz,cvz,Int.mul_zero]
 | n + 1=>by rw[cvz,cvz,z3p n,z7q];grind
theorem z4o{a b:Nat->Int}{s k:Nat}:∀ n,cvz a (shz s b) k n=shz s (fun k=>cvz a b k n) k
 | 0=>by unfold shz;show(0:Int)=if s<=k then 0 else 0;split <;> rfl
 | n + 1=>by
  rw[cvz,z4o n,zdJ,<- z7q,<- zaR];rfl
def Pl(N:Nat)(f:Nat->Int):Prop:=∀ k,N<=k->f k=0
theorem z1y{a b:Nat->Int}{k N L:Nat}(h:Pl N a)(hl:N<=L):cvz a b k L=cvz a b k N:=z6D L hl fun i h1 _=>h i h1
theorem z7r{a b c:Nat->Int}{M k L:Nat}(hb:Pl M b):∀ N,N + M<=L->cvz a (fun k=>cvz b c k M) k N=cvz (fun k=>cvz a b k N) c k L
 | 0,_=>by rw[z8f (a:=fun k=>cvz a b k 0) (fun i=>rfl)];rfl
 | n + 1,h=>by
  have e:cvz (shz n b) c k L=shz n (fun k=>cvz b c k M) k:=by
   rw[z1y (N:=M + n) (fun i hi=>by unfold shz;rw[if_pos (by omega)];exact hb _ (by omega)) (by omega),z4b]
  show cvz a (fun k=>cvz b c k M) k n + a n * shz n (fun k=>cvz b c k M) k=cvz (fun k=>cvz a b k n + a n * shz n b k) c k L
  rw[z7r (L:=L) hb n (by omega),z5A,z2A,e]
def one1(i:Nat):Int:=if i=0 then 1 else 0
theorem zaS{b:Nat->Int}{k:Nat}:∀ n,cvz b one1 k n=if k < n then b k else 0
 | 0=>by rw[if_neg (Nat.not_lt_zero _)];rfl
 | n + 1=>by
  rw[cvz,zaS n]
  unfold shz one1
  by_cases h:n<=k
  ·rw[if_pos h,if_neg (by omega)]
   by_cases h2:k=n
   ·subst h2;rw[if_pos (by omega),if_pos (by omega)];omega
   ·rw[if_neg (by omega),if_neg (by omega)];omega
  ·rw[if_neg h,if_pos (by omega),if_pos (by omega)];omega
theorem zaT{a b:Nat->Int}{M k:Nat}(hb:Pl M b):∀ n,cvz a b k n=cvz b (fun i=>if i < n then a i else 0) k M
 | 0=>by
  have e:(fun i=>if i < 0 then a i else (0:Int))=fun i=>0 * a i:=funext fun i=>by rw[if_neg (Nat.not_lt_zero _),Int.zero_mul]
  rw[e,z3p,Int.zero_mul];rfl
 | n + 1=>by
  have e:(fun i=>if i < n + 1 then a i else (0:Int))=fun i=>(if i < n then a i else 0) + a n * shz n one1 i:=funext fun i=>by
   unfold shz one1
   by_cases h:i < n
   ·rw[if_pos (by omega),if_pos h,if_neg (by omega)];omega
   ·by_cases h2:i=n
    ·subst h2;rw[if_pos (by omega),if_neg h,if_pos (by omega),if_pos (by omega)];omega
    ·rw[if_neg (by omega),if_neg h,if_pos (by omega),if_neg (by omega)];omega
  have e1:(fun k=>cvz b one1 k M)=b:=funext fun k=>by
   rw[zaS]
   by_cases h:k < M
   ·rw[if_pos h]
   ·rw[if_neg h,hb k (by omega)]
  rw[e,z6F,<- zaT hb n,z3p,z4o,e1];rfl
theorem z6G{a b:Nat->Int}{N M k:Nat}(ha:Pl N a)(hb:Pl M b):cvz a b k N=cvz b a k M:=by
 rw[zaT hb N]
 congr 1
 funext i
 by_cases h:i < N
 ·rw[if_pos h]
 ·rw[if_neg h,ha i (by omega)]
theorem z5D{p:Int}{a a' b b':Nat->Int}{k:Nat}(ha:∀ i,p∣a i - a' i)(hb:∀ i,p∣b i - b' i):∀ n,p∣cvz a b k n - cvz a' b' k n
 | 0=>⟨0,by rw[cvz,cvz];omega⟩
 | n + 1=>by
  obtain⟨x,hx⟩:=z5D ha hb (k:=k) n
  obtain⟨y,hy⟩:=ha n
  obtain⟨z,hz⟩:p∣shz n b k - shz n b' k:=by
   unfold shz
   split
   ·exact hb _
   ·exact⟨0,by omega⟩
  rw[cvz,cvz]
  exact⟨x + y * shz n b k + a' n * z,by grind⟩
theorem z5S(l:List Int):Pl l.length (zc l):=fun _ h=>z0V h
theorem DvF.ends{p:Int}{g f:Nat->Int}(h:DvF p g f):∃ (N:Nat) (q:Nat->Int),Pl N q/\∀ k,p∣f k - cvz q g k N:=by
 obtain⟨N,q,h⟩:=h
 refine⟨N,fun i=>if i < N then q i else 0,fun k hk=>if_neg (by omega),fun k=>?_⟩
 rw[z5B (Nat.le_refl _)];exact h k
theorem z8g{a b:Nat->Int}{M n k:Nat}(hb:Pl (M + 1) b)(hk:n + M<=k):∀ j,j<=n->cvz a b k j=0
 | 0,_=>rfl
 | j + 1,h=>by
  rw[cvz,z8g hb hk j (by omega)]
  unfold shz
  rw[if_pos (by omega),hb (k - j) (by omega)];omega
theorem zc4{a b:Nat->Int}{N M:Nat}(hb:Pl (M + 1) b):cvz a b (N + M) (N + 1)=a N * b M:=by
 rw[cvz,z8g hb (Nat.le_refl _) N (Nat.le_refl _)]
 unfold shz
 rw[if_pos (by omega),Nat.add_sub_cancel_left];omega
theorem zm{G1 G2:GS}{δ δ1:Sl}{s s1:Sx}{r:Option (Out × Sx)}(h:G1 δ s=some (.next δ1,s1))(h2:G2 δ1 s1=r):sSeq G1 G2 δ s=r:=by
 rw[zJ h];exact h2
theorem mulQ{p a b:Int}(hp:p<=1000)(ha:0<=a/\a < p)(hb:0<=b/\b < p):gMulI (.int a) (.int b)=some (.int (a * b)):=by
 simp only[gMulI,gI,(bt10 hp ha).ok (bt10 hp hb) (by decide),if_true]
def pwN(p:Nat):Nat->Nat->Nat->Nat->Nat
 | 0,f,_,_=>f
 | n + 1,f,b,l=>if l=0 then f else pwN p n (if l % 2=1 then f * b % p else f) (b * b % p) (l / 2)
theorem zgU:∀ p∈([2,3,5,7,11,13,101,997]:List Nat),((List.range p).all fun a=>decide (a=0\/(pwN p 10 1 a (p - 2) * a % p=1/\pwN p 10 1 a (p - 2) < p)))=true:=by decide +kernel
theorem zdK{p:Nat}{one:D}(s:Sx)(h2:2<=p)(hp:p<=997):∀ (n f b l:Nat),l < 2 ^ n->f < p->b < p ->
  ∃ c,whileN (asB (f2 gGt (fVar 4) (fC (.int 0)))) (sSeq (sIf (asB (f2 gEq (f2 gModI (fVar 4) (fC (.int 2))) (fC (.int 1)))) (sSet 2 (f2 gModI (f2 gMulI (fVar 2) (fVar 3)) (fVar 0))) sNext) (sSeq (sSet 3 (f2 gModI (f2 gMulI (fVar 3) (fVar 3)) (fVar 0))) (sSet 4 (f2 gDivI (fVar 4) (fC (.int 2)))))) (n + 1)
   [qI p,.val one,qI f,qI b,qI l] s=some (.next [qI p,.val one,qI (pwN p n f b l:Int),c,qI 0],s):=by
 intro n
 induction n with
 | zero =>
  intro f b l hl _ _
  have:l=0:=by omega
  subst this
  exact⟨_,z0u (z0F (z9 rfl rfl rfl))⟩
 | succ n ih =>
  intro f b l hl hf hb
  by_cases h0:l=0
  ·subst h0
   rw[pwN,if_pos rfl]
   exact⟨_,z0u (z0F (z9 rfl rfl rfl))⟩
  ·have md:∀ x y:Nat,gModI (.int ((x:Int) * (y:Int))) (.int p)=some (.int (x * y % p:Nat)):=fun x y=>by
    rw[z3N (by omega),Int.fmod_eq_emod_of_nonneg _ (by omega)];rfl
   have m2:gModI (.int l) (.int 2)=some (.int (l % 2:Nat)):=by
    rw[z3N (by decide),Int.fmod_eq_emod_of_nonneg _ (by decide)];rfl
   have d2:gDivI (.int l) (.int 2)=some (.int (l / 2:Nat)):=by
    simp only[gDivI,gI,show divOk (l:Int) 2=true from rfl,if_true,Int.fdiv_eq_ediv_of_nonneg _ (show(0:Int)<=2 by decide)];rfl
   have gt:gGt (.int l) (.int 0)=some (.bool true):=by
    simp only[gGt,gI,if_true];rw[decide_eq_true (by omega)]
   obtain⟨c,e⟩:=ih (if l % 2=1 then f * b % p else f) (b * b % p) (l / 2) (by rw[Nat.pow_succ]at hl;omega) (by split;exact Nat.mod_lt _ (by omega);exact hf) (Nat.mod_lt _ (by omega))
   refine⟨c,z16 (z0F (z9 rfl rfl gt)) (zm (δ1:=[qI p,.val one,qI (if l % 2=1 then f * b % p else f:Nat),qI b,qI l]) (s1:=s) ?_ (zm (zE (z9 (z9 rfl rfl (mulQ (p:=(p:Int)) (by omega) ⟨by omega,by omega⟩ ⟨by omega,by omega⟩)) rfl (md b b))) (zE (z9 rfl rfl d2)))) ?_⟩
   ·by_cases h1:l % 2=1
    ·rw[if_pos h1]
     exact z5w (z0F (z9 (z9 rfl rfl m2) rfl (by rw[z1b,h1];rfl))) (zE (z9 (z9 rfl rfl (mulQ (p:=(p:Int)) (by omega) ⟨by omega,by omega⟩ ⟨by omega,by omega⟩)) rfl (md f b)))
    ·rw[if_neg h1]
     exact zc1 (z0F (z9 (z9 rfl rfl m2) rfl (by rw[z1b,decide_eq_false (by omega)]))) rfl
   ·rw[pwN,if_neg h0];exact e
theorem z8O{p b:Int}(s:Sx)(hp:Prm p)(hb:0 < b/\b < p):∃ v,zO [.int p,.int b] s=some (.int v,s)/\(0<=v/\v < p)/\p∣v * b - 1:=by
 have ht:=hp.two
 obtain⟨n,hn,rfl⟩:=hp
 obtain⟨a,rfl⟩:=Int.eq_ofNat_of_zero_le (show 0<=b by omega)
 have ok:=zgU n hn
 have oka:=of_decide_eq_true (List.all_eq_true.mp ok a (List.mem_range.mpr (by omega)))
 obtain⟨o1,o2⟩:=oka.resolve_left (by omega)
 obtain⟨c,e⟩:=zdK (p:=n) (one:=.int a) s (by omega) (by omega) 10 1 a (n - 2) (by omega) (by omega) (by omega)
 refine⟨_,z0d (n:=2) (m:=3) (G:=z3B) rfl (zm (δ1:=[qI n,qI a,qI (1:Nat),qI a,qI (n - 2:Nat)]) (s1:=s) ?_ (zm (z0x e (by unfold fuel;omega)) rfl)),⟨by omega,by omega⟩,?_⟩
 ·have m1:gModI (.int a) (.int n)=some (.int a):=by
   rw[z3N (by omega),Int.fmod_eq_emod_of_nonneg _ (by omega),Int.emod_eq_of_lt (by omega) (by omega)]
  have s1:gSubI (.int n) (.int 2)=some (.int (n - 2:Nat)):=by
   simp only[gSubI,gI,if_true];congr 2;omega
  unfold sPar3
  rw[z7 (d:=.int 1) rfl (z7 (z9 rfl rfl m1) (z7 (FL:=aNil) (z9 rfl rfl s1) rfl))]
  rfl
 ·refine Int.dvd_of_emod_eq_zero ?_
  have e2:((pwN n 10 1 a (n - 2):Int) * (a:Int)) % (n:Int)=1:=by exact_mod_cast o1
  rw[Int.sub_emod,e2,Int.emod_eq_of_lt (show(0:Int)<=1 by decide) (show(1:Int) < n by omega),Int.sub_self,Int.zero_emod]
theorem z4Z:∀ l:List Int,PyData.canLayAll0 (l.map .int)=true/\PyData.depthAll (l.map .int)<=1/\PyData.eqvAll (l.map .int) (l.map .int)=true
 | []=>by simp[PyData.canLayAll0,PyData.depthAll,PyData.eqvAll]
 | i::l=>by
  obtain⟨h1,h2,h3⟩:=z4Z l
  refine⟨by simp[PyData.canLayAll0,PyData.canLay0,h1],?_,by simp[PyData.eqvAll,PyData.eqv,h3]⟩
  simp[PyData.depthAll,PyData.depth]
  omega
theorem zc5(l:List Int):gEq (ql l) (ql l)=some (.bool true):=by
 obtain⟨h1,h2,h3⟩:=z4Z l
 have:SeqAt.shaped (ql l)=true:=by
  simp[SeqAt.shaped,PyData.canLay0,PyData.depth,h1]
  omega
 simp[gEq,this,PyData.eqv,h3]
theorem zdL(l:List Int):gNe (ql l) (.list [])=some (.bool (!l.isEmpty)):=by
 obtain⟨h1,h2,h3⟩:=z4Z l
 have:SeqAt.shaped (ql l)=true:=by
  simp[SeqAt.shaped,PyData.canLay0,PyData.depth,h1]
  omega
 cases l with
 | nil=>rfl
 | cons a r =>
  have h0:SeqAt.shaped (.list [])=true:=by decide
  simp[gNe,PyData.eqv,PyData.eqvAll,h0]
  simpa using this
theorem zaU{l:List Int}{k:Nat}(h:k < l.length):zc (l.take (k + 1)) ((l.take (k + 1)).length - 1)=zc l k:=by
 have:(l.take (k + 1)).length - 1=k:=by rw[List.length_take];omega
 rw[this]
 unfold zc
 rw[List.getD_eq_getElem?_getD,List.getD_eq_getElem?_getD,List.getElem?_take,if_pos (Nat.lt_succ_self _)]
theorem zaV{d:D}{l:List Int}(s:Sx)(hd:seqOf d=some (l.map .int))(hl:l.length<=1000):z0R [d] s=some (.tuple ((tz l).map .int),s):=by
 have loop:∀ k:Nat,k<=l.length->whileN (tAndF (asB (f2 gNe (fVarW 1) (eLst aNil))) (asB (f2 gEq (f2 gIx (fVarW 1) (f1 gNeg (fC (.int 1)))) (fC (.int 0))))) (sPop 1) (k + 1) [.val d,qO (l.take k)] s=some (.next [.val d,qO (l.take (tzn l k))],s):=by
  intro k
  induction k with
  | zero=>intro _;exact z0u rfl
  | succ k ih =>
   intro hk
   have ne:(l.take (k + 1)).isEmpty=false:=by
    cases l with
    | nil=>exact absurd hk (by simp)
    | cons a r=>rfl
   have lt:(l.take (k + 1)).length=k + 1:=by rw[List.length_take];omega
   have t1:tAndF (asB (f2 gNe (fVarW 1) (eLst aNil))) (asB (f2 gEq (f2 gIx (fVarW 1) (f1 gNeg (fC (.int 1)))) (fC (.int 0)))) [.val d,qO (l.take (k + 1))] s=some (decide (zc l k=0),s):=by
    refine z3L (s1:=s) (z0F (b:=true) (z9 (a:=ql (l.take (k + 1))) (b:=.list []) (s1:=s) rfl (z0S rfl (zQ (by simp))) (by rw[zdL,ne];rfl))) (z0F (z9 (a:=.int (zc l k)) (b:=.int 0) (z9 (a:=ql (l.take (k + 1))) (b:=.int (-1)) rfl rfl ?_) rfl (z1b _ _)))
    rw[z6E (l:=l.take (k + 1)) rfl (by omega),zaU (by omega)]
   by_cases hz:zc l k=0
   ·rw[decide_eq_true hz]at t1
    rw[tzn,if_pos hz]
    refine z16 t1 ?_ (ih (by omega))
    have hd2:((l.take (k + 1)).map PyData.int).dropLast=(l.take k).map .int:=by
     rw[List.dropLast_eq_take,List.length_map,lt,<- List.map_take,List.take_take,Nat.add_sub_cancel,Nat.min_eq_left (Nat.le_succ _)]
    show(if (((l.take (k + 1)).map PyData.int).isEmpty)=true then none else some (Out.next [.val d,.own ((l.take (k + 1)).map PyData.int).dropLast],s))=_
    rw[hd2,if_neg (by rw[List.isEmpty_iff,List.map_eq_nil_iff,<- List.isEmpty_iff,ne];exact Bool.false_ne_true)]
   ·rw[decide_eq_false hz]at t1
    rw[tzn,if_neg hz]
    exact z0u t1
 refine z0d (n:=1) (m:=1) (G:=z3o) rfl ?_
 show z3o [.val d,.non] s=_
 have a1:sSetO 1 (oList (fVar 0)) [.val d,.non] s=some (.next [.val d,qO l],s):=by
  refine z27 ?_
  cases d with
  | list xs=>cases hd;rfl
  | tuple xs=>cases hd;rfl
  | _=>cases hd
 have w:=loop l.length (Nat.le_refl _)
 rw[List.take_of_length_le (Nat.le_refl _)]at w
 have a2:z4F [.val d,qO l] s=some (.next [.val d,qO (tz l)],s):=z0x w (by unfold fuel;omega)
 unfold z3o
 rw[zJ a1,zJ a2]
 rfl
theorem zget{l:List Int}{t:Nat}{x:D}(h:(l.map PyData.int)[t]?=some x):t < l.length/\x=.int (zc l t):=by
 by_cases ht:t < l.length
 ·rw[z7n ht]at h;cases h;exact⟨ht,rfl⟩
 ·rw[List.getElem?_eq_none (by rw[List.length_map];omega)]at h;cases h
theorem z5E{i:Nat}{d:D}{l:List D}{δ:Sl}{s:Sx}(h:δ[i]?=some (.val d))(hl:seqOf d=some l):iEnumF (fVar i) δ s=some (enumD l,s):=by
 unfold iEnumF fVar
 rw[h]
 simp only[Option.bind_some,hl,Option.map_some]
theorem zcR(n k:Nat):zc (List.replicate n 0) k=0:=by
 unfold zc
 rw[List.getD_eq_getElem?_getD,List.getElem?_replicate]
 split <;> rfl
theorem zc6{Fa Fb:FE}{δ:Sl}{s s1 s2:Sx}{z w:Int}(ha:Fa δ s=some (.int z,s1))(hb:Fb δ s1=some (.int w,s2))(h0:0<=z)(h1:z<=1000)(h2:0<=w)(h3:w<=1000):iRange2 Fa Fb δ s=some (rng z (w - z).toNat,s2):=by
 have r1:=z7m h0 h1
 have r2:=z7m h2 h3
 unfold iRange2
 rw[ha]
 simp only[Option.bind_some,hb,r1,r2,Bool.and_self,if_true]
theorem z3q{Fa Fb:FE}{δ:Sl}{s s1 s2:Sx}{a b:Nat}(ha:Fa δ s=some (.int a,s1))(hb:Fb δ s1=some (.int b,s2))(h1:a<=1000)(h2:b<=1000):iRange2 Fa Fb δ s=some (rng (a:Int) (b - a),s2):=by
 have e:=zc6 ha hb (Int.natCast_nonneg _) (by omega) (Int.natCast_nonneg _) (by omega)
 rwa [show((b:Int) - (a:Int)).toNat=b - a by omega]at e
theorem z6H{a n j:Nat}{d:D}(h:(rng (a:Int) n)[j]?=some d):j < n/\d=.int (a + j:Nat):=by
 unfold rng at h
 rw[List.getElem?_map]at h
 by_cases hj:j < n
 ·rw[List.getElem?_range hj]at h
  simp only[Option.map_some,Option.some.injEq]at h
  refine⟨hj,?_⟩
  rw[<- h]
  congr 1
 ·rw[List.getElem?_eq_none (by simpa using hj)]at h;simp at h
theorem zaW(a b:Nat):gMin (.int a) (.int b)=some (.int (min a b:Nat)):=by
 simp only[gMin,gI,if_true];congr 2;split <;> omega
theorem z4p{a b:Nat}(h:b<=a):gSubI (.int a) (.int b)=some (.int (a - b:Nat)):=by
 simp only[gSubI,gI,if_true];congr 2;omega
theorem z8P{n k:Nat}(h1:1<=k)(h2:k<=n):ixN n (-(k:Int))=some (n - k):=by
 unfold ixN
 rw[if_neg (by omega),if_pos (by omega)]
 congr 1;omega
theorem zaX{d:D}{l:List Int}{k:Nat}(h:seqOf d=some (l.map .int))(h1:1<=k)(h2:k<=l.length):gIx d (.int (-(k:Int)))=some (.int (zc l (l.length - k))):=by
 rw[zay h]
 unfold L2.atI
 rw[List.length_map,z8P h1 h2]
 exact z7n (by omega)
theorem zc7{xs:List D}{k:Nat}{v:D}(h1:1<=k)(h2:k<=xs.length):L3.putAt xs (.int (-(k:Int))) v=some (xs.set (xs.length - k) v):=by
 unfold L3.putAt
 dsimp only
 rw[z8P h1 h2];rfl
theorem zc8{p:Int}{od othd:D}{other found:List Int}{w:Int}{c5:Ce}(s:Sx)(hp:Prm p)(ho:seqOf othd=some (other.map .int))(hO:Rs p other)(hF:Rs p found)(hw:0<=w/\w < p)(hl:other.length<=found.length)(hm:found.length<=200) :
  ∃ (found':List Int) (c5':Ce),z0C [qI p,.val od,.val othd,qO found,qI w,c5] s=some (.next [qI p,.val od,.val othd,qO found',qI w,c5'],s) /\
   found'.length=found.length/\Rs p found'/\∀ k,p∣zc found' k - (zc found k - w * shz (found.length - other.length) (zc other) k):=by
 have ht:=hp.two
 obtain⟨δ',s',e,hs,r,x5,hδ,l1,hR',hc⟩:=z2F (T:=.one 5) (G:=z2P) (fun t δ s'=>s'=s/\∃ (r:List Int) (x5:Ce),δ=[qI p,.val od,.val othd,qO r,qI w,x5]/\r.length=found.length/\Rs p r/\∀ k,p∣zc r k - (zc found k - (if found.length<=k + t/\k < found.length then w * zc other (k - (found.length - other.length)) else 0)))
  (rng ((1:Nat):Int) (other.length + 1 - 1)) [qI p,.val od,.val othd,qO found,qI w,c5] s ⟨rfl,found,c5,rfl,rfl,hF,fun k=>by rw[if_neg (by omega)];exact⟨0,by omega⟩⟩ (fun t d δ s' hd zgs=>by
   obtain⟨hs,r,x5,hδ,l1,hR',hc⟩:=zgs
   subst hs hδ
   obtain⟨htl,rfl⟩:=z6H hd
   have hi:found.length - (1 + t)=r.length - (1 + t):=by rw[l1]
   have m2:=z14 (p:=p) (x:=zc r (r.length - (1 + t)) - w * zc other (other.length - (1 + t))) (by omega)
   refine⟨[qI p,.val od,.val othd,qO r,qI w,qI (1 + t:Nat)],_,s',rfl,?_,rfl,r.set (r.length - (1 + t)) ((zc r (r.length - (1 + t)) - w * zc other (other.length - (1 + t))).fmod p),qI (1 + t:Nat),rfl,by rw[List.length_set];exact l1,hR'.set m2.1 m2.2,fun k=>?_⟩
   ·have ng:f1 gNeg (fVar 5) [qI p,.val od,.val othd,qO r,qI w,qI (1 + t:Nat)] s'=some (.int (-((1 + t:Nat):Int)),s'):=zn (a:=.int (1 + t:Nat)) rfl rfl
    refine(z42 (v:=.int ((zc r (r.length - (1 + t)) - w * zc other (other.length - (1 + t))).fmod p)) (k:=.int (-((1 + t:Nat):Int))) (xs:=r.map .int) (ys:=(r.set (r.length - (1 + t)) ((zc r (r.length - (1 + t)) - w * zc other (other.length - (1 + t))).fmod p)).map .int) (s1:=s') ?_ ng rfl ?_).trans rfl
    ·exact z9 (a:=.int (zc r (r.length - (1 + t)) - w * zc other (other.length - (1 + t)))) (b:=.int p) (z9 (a:=.int (zc r (r.length - (1 + t)))) (b:=.int (w * zc other (other.length - (1 + t)))) (z9 (a:=ql r) rfl ng (zaX rfl (by omega) (by omega))) (z9 rfl (z9 (a:=othd) rfl ng (zaX ho (by omega) (by omega))) (mulQ (by omega) hw (hO.zc (by omega) _))) rfl) rfl (z3N (by omega) _)
    ·rw[zc7 (by omega) (by rw[List.length_map];omega),List.length_map,z3a]
   ·rw[zaL (by omega)]
    by_cases hk:k=r.length - (1 + t)
    ·subst hk
     rw[if_pos rfl,if_pos (by omega)]
     have c:=hc (r.length - (1 + t))
     rw[if_neg (by omega)]at c
     obtain⟨k1,h1⟩:=c
     obtain⟨k3,h3⟩:=z0T (p:=p) (x:=zc r (r.length - (1 + t)) - w * zc other (other.length - (1 + t))) (by omega)
     rw[show r.length - (1 + t) - (found.length - other.length)=other.length - (1 + t) by omega]
     exact⟨k1 + k3,by grind⟩
    ·rw[if_neg hk]
     have c:=hc k
     by_cases h2:found.length<=k + t/\k < found.length
     ·rw[if_pos h2]at c;rw[if_pos (by omega)];exact c
     ·rw[if_neg h2]at c;rw[if_neg (by omega)];exact c)
 subst hs hδ
 rw[show(rng ((1:Nat):Int) (other.length + 1 - 1)).length=other.length by unfold rng;rw[List.length_map,List.length_range];omega]at hc
 refine⟨r,x5,?_,l1,hR',fun k=>?_⟩
 ·unfold z0C sFor
  rw[z3q (a:=1) (b:=other.length + 1) (s1:=s') (s2:=s') rfl (z9 (a:=.int (other.length:Int)) (b:=.int (1:Nat)) (zn (a:=othd) rfl (by rw[z09 ho,List.length_map])) rfl (add_int _ _)) (by decide) (by omega)]
  exact e
 ·have c:=hc k
  unfold shz
  by_cases h1:found.length - other.length<=k
  ·rw[if_pos h1]
   by_cases h2:k < found.length
   ·rw[if_pos (by omega)]at c;exact c
   ·rw[if_neg (by omega)]at c
    rw[z0V (l:=other) (show other.length<=k - (found.length - other.length) by omega),Int.mul_zero];exact c
  ·rw[if_neg (by omega)]at c
   rw[if_neg h1,Int.mul_zero];exact c
theorem zdM{l:List Int}{n:Nat}(h:∀ k,n<=k->zc l k=0)(k:Nat):zc (l.take n) k=zc l k:=by
 by_cases hk:k < n
 ·unfold zc
  rw[List.getD_eq_getElem?_getD,List.getD_eq_getElem?_getD,List.getElem?_take,if_pos hk]
 ·rw[z0V (by rw[List.length_take];omega),h k (by omega)]
structure Left(p:Int)(one other r:List Int):Prop where
 rs:Rs p r
 en:Ends r
 lt:r.length < other.length
 eq:∃ (N:Nat) (q:Nat->Int),∀ k,p∣zc one k - (zc r k + cvz q (zc other) k N)
theorem zdN{p:Int}{od othd:D}{other:List Int}(s:Sx)(hp:Prm p)(ho:seqOf othd=some (other.map .int))(hO:Rs p other)(h0:0 < other.length)(eO:Ends other):∀ (n:Nat) (found:List Int) (c4 c5:Ce),found.length<=n->n<=200->Rs p found->Ends found ->
  ∃ (r:List Int) (c4' c5':Ce),whileN (asB (f2 gGe (f1 gLen (fVarW 3)) (f1 gLen (fVar 2)))) (sSeq (sSet 4 (f2 gModI (f2 gMulI (f2 gIx (fVarW 3) (f1 gNeg (fC (.int 1)))) (fCall zO (aCons (fVar 0) (aCons (f2 gIx (fVar 2) (f1 gNeg (fC (.int 1)))) aNil)))) (fVar 0))) (sSeq z0C (sSeq (sFrz 3) (sSetO 3 (oList (fCall z0R (aCons (fSl (fVar 3) pNo (pInt (f1 gNeg (fC (.int 1))))) aNil))))))) (n + 1)
   [qI p,.val od,.val othd,qO found,c4,c5] s=some (.next [qI p,.val od,.val othd,qO r,c4',c5'],s)/\Left p found other r:=by
 have ht:=hp.two
 intro n
 have ge:∀ found:List Int,∀ c4 c5,f2 gGe (f1 gLen (fVarW 3)) (f1 gLen (fVar 2)) [qI p,.val od,.val othd,qO found,c4,c5] s=some (.bool (decide (other.length<=found.length)),s):=fun found c4 c5=>by
  refine z9 (a:=.int (found.length:Int)) (b:=.int (other.length:Int)) (zn (a:=ql found) rfl (by rw[z09 (xs:=found.map .int) rfl,List.length_map])) (zn (a:=othd) rfl (by rw[z09 ho,List.length_map])) ?_
  have:decide ((other.length:Int)<=(found.length:Int))=decide (other.length<=found.length):=decide_eq_decide.mpr (by omega)
  simp only[gGe,gI,if_true,this]
 have stop:∀ found c4 c5 m,found.length < other.length->Rs p found->Ends found->∃ (r:List Int) (c4' c5':Ce),whileN (asB (f2 gGe (f1 gLen (fVarW 3)) (f1 gLen (fVar 2)))) (sSeq (sSet 4 (f2 gModI (f2 gMulI (f2 gIx (fVarW 3) (f1 gNeg (fC (.int 1)))) (fCall zO (aCons (fVar 0) (aCons (f2 gIx (fVar 2) (f1 gNeg (fC (.int 1)))) aNil)))) (fVar 0))) (sSeq z0C (sSeq (sFrz 3) (sSetO 3 (oList (fCall z0R (aCons (fSl (fVar 3) pNo (pInt (f1 gNeg (fC (.int 1))))) aNil))))))) (m + 1)
   [qI p,.val od,.val othd,qO found,c4,c5] s=some (.next [qI p,.val od,.val othd,qO r,c4',c5'],s)/\Left p found other r:=fun found c4 c5 m hl hR hE =>
  ⟨found,c4,c5,z0u (z0F ((ge found c4 c5).trans (by rw[decide_eq_false (by omega)]))),hR,hE,hl,0,fun _=>0,fun k=>⟨0,by rw[cvz];omega⟩⟩
 induction n with
 | zero=>intro found c4 c5 hl _ hR hE;exact stop found c4 c5 0 (by omega) hR hE
 | succ n ih =>
  intro found c4 c5 hl hn hR hE
  by_cases hlt:found.length < other.length
  ·exact stop found c4 c5 (n + 1) hlt hR hE
  ·have hu:=hO.zc (by omega) (other.length - 1)
   have hne:=eO h0
   obtain⟨v,ev,hv,dv⟩:=z8O (b:=zc other (other.length - 1)) s hp ⟨by omega,hu.2⟩
   have m1:=z14 (p:=p) (x:=zc found (found.length - 1) * v) (by omega)
   obtain⟨f1',y5,e1,l1,hR1,hc1⟩:=zc8 (od:=od) (c5:=c5) (w:=(zc found (found.length - 1) * v).fmod p) s hp ho hO hR m1 (by omega) (by omega)
   have hlast:zc f1' (found.length - 1)=0:=by
    have hz:=hR1.zc (by omega) (found.length - 1)
    refine z0e hz.1 hz.2 ?_
    obtain⟨a,ha⟩:=hc1 (found.length - 1)
    obtain⟨b,hb⟩:=z0T (p:=p) (x:=zc found (found.length - 1) * v) (by omega)
    obtain⟨c,hc⟩:=dv
    have es:shz (found.length - other.length) (zc other) (found.length - 1)=zc other (other.length - 1):=by
     unfold shz;rw[if_pos (by omega),show found.length - 1 - (found.length - other.length)=other.length - 1 by omega]
    rw[es]at ha
    exact⟨a - b * zc other (other.length - 1) - zc found (found.length - 1) * c,by grind⟩
   have hz1:∀ k,found.length - 1<=k->zc f1' k=0:=fun k hk=>by
    by_cases h:k=found.length - 1
    ·rw[h];exact hlast
    ·exact z0V (by omega)
   have tl:(tz (f1'.take (found.length - 1))).length<=n:=by
    have:=zaO (f1'.take (found.length - 1))
    rw[List.length_take]at this;omega
   have hRt:Rs p (tz (f1'.take (found.length - 1))):=Rs.tz fun x hx=>hR1 x (List.mem_of_mem_take hx)
   obtain⟨r,d4,d5,e2,L⟩:=ih (tz (f1'.take (found.length - 1))) (.val (.int ((zc found (found.length - 1) * v).fmod p))) y5 tl (by omega) hRt fun h=>z8e h
   have ct:=zaV (d:=ql (f1'.take (found.length - 1))) (l:=f1'.take (found.length - 1)) s rfl (by rw[List.length_take];omega)
   have sl:fSl (fVar 3) pNo (pInt (f1 gNeg (fC (.int 1)))) [qI p,.val od,.val othd,qL f1',.val (.int ((zc found (found.length - 1) * v).fmod p)),y5] s=some (.list ((f1'.take (found.length - 1)).map .int),s):=by
    show some (PyData.list (L3.cutD (f1'.map .int) none (some (-1))),s)=_
    have:L3.cutD (f1'.map PyData.int) none (some (-1))=(f1'.take (found.length - 1)).map .int:=by
     unfold L3.cutD
     rw[HT.sIx_none,List.drop_zero,Nat.sub_zero,List.length_map,List.map_take]
     congr 1
     show(if (-1:Int) < 0 then (-1 + (f1'.length:Int)).toNat else min (-1:Int).toNat f1'.length)=_
     rw[if_pos (by decide)];omega
    rw[this]
   refine⟨r,d4,d5,z16 (z0F ((ge found c4 c5).trans (by rw[decide_eq_true (by omega)]))) (zm (δ1:=[qI p,.val od,.val othd,qO found,.val (.int ((zc found (found.length - 1) * v).fmod p)),c5]) (s1:=s) ?_ (zm e1 (zm (δ1:=[qI p,.val od,.val othd,qL f1',.val (.int ((zc found (found.length - 1) * v).fmod p)),y5]) (s1:=s) rfl (z27 (xs:=(tz (f1'.take (found.length - 1))).map .int) (s1:=s) ?_)))) e2,L.rs,L.en,L.lt,?_⟩
   ·exact zE (z9 (a:=.int (zc found (found.length - 1) * v)) (b:=.int p) (z9 (a:=.int (zc found (found.length - 1))) (b:=.int v) (z9 (a:=ql found) rfl rfl (z6E rfl (by omega))) (zk (ds:=[.int p,.int (zc other (other.length - 1))]) (z7 (F:=fVar 0) rfl (z7 (FL:=aNil) (z9 (a:=othd) (b:=.int (-1)) rfl rfl (z6E ho h0)) rfl)) ev) (mulQ (by omega) (hR.zc (by omega) _) hv)) rfl (z3N (by omega) _))
   ·unfold oList
    rw[zk (ds:=[.list ((f1'.take (found.length - 1)).map .int)]) (z7 (FL:=aNil) sl rfl) ct]
    rfl
   ·obtain⟨N,q,hq⟩:=L.eq
    refine⟨N + (found.length - other.length + 1),fun i=>(if i < N then q i else 0) + (if i < found.length - other.length + 1 then (if i=found.length - other.length then (zc found (found.length - 1) * v).fmod p else 0) else 0),fun k=>?_⟩
    rw[z5A,z5B (by omega),z5B (by omega),zaP (a:=fun _=>0),z8f (a:=fun _=>(0:Int)) (fun _=>rfl),if_pos (Nat.lt_succ_self _)]
    obtain⟨a,ha⟩:=hq k
    obtain⟨b,hb⟩:=hc1 k
    rw[zaM,zdM hz1]at ha
    exact⟨a - b,by grind⟩
theorem zeO{p:Int}{od othd:D}{one other:List Int}(s:Sx)(hp:Prm p)(h1:seqOf od=some (one.map .int))(ho:seqOf othd=some (other.map .int))(rO:Rs p one)(hO:Rs p other)(h0:0 < other.length)(e1:Ends one)(eO:Ends other)(ll:one.length<=200) :
  ∃ r:List Int,z0p [.int p,od,othd] s=some (.tuple (r.map .int),s)/\Left p one other r:=by
 obtain⟨r,c4,c5,e,L⟩:=zdN (od:=od) s hp ho hO h0 eO one.length one .non .non (Nat.le_refl _) ll rO e1
 refine⟨r,z0d (n:=3) (m:=3) (G:=z3C) rfl (zm (δ1:=[qI p,.val od,.val othd,qO one,.non,.non]) (s1:=s) ?_ (zm (z0x e (by unfold fuel;omega)) rfl)),L⟩
 refine z27 (xs:=one.map .int) (s1:=s) ?_
 unfold oList fVar
 show((seqOf od).map _)=_
 rw[h1];rfl
theorem z4G(l:List Int):SeqAt.shaped (qt l)=true:=by
 obtain⟨h1,h2,h3⟩:=z4Z l
 simp[SeqAt.shaped,PyData.canLay0,PyData.depth,h1]
 omega
theorem eqv_nil(l:List Int):PyData.eqvAll (l.map .int) []=decide (l=[]):=by
 cases l with
 | nil=>rfl
 | cons a r=>simp[PyData.eqvAll]
theorem z50(l:List Int):gNe (qt l) (.tuple [])=some (.bool (decide (l≠[]))):=by
 simp only[gNe,z4G l,show SeqAt.shaped (.tuple [])=true from z4G [],Bool.and_self,if_true,PyData.eqv,eqv_nil]
 by_cases h:l=[] <;> simp[h]
theorem zcS{p x y:Int}(hx:0<=x/\x < p)(hy:0<=y/\y < p)(h:p∣x - y):x=y:=by
 by_cases hxy:y<=x
 ·have:=z0e (p:=p) (x:=x - y) (by omega) (by omega) h;omega
 ·obtain⟨c,hc⟩:=h
  have:=z0e (p:=p) (x:=y - x) (by omega) (by omega) ⟨-c,by grind⟩;omega
def zi(l:List Int)(z:Int):Int:=if 0<=z then zc l z.toNat else 0
def wsum(w l:List Int)(z:Int):Nat->Int
 | 0=>0
 | n + 1=>wsum w l z n + zc w n * zi l (z - (n:Int))
theorem Rs.zi{p:Int}{l:List Int}(h:Rs p l)(hp:0 < p)(z:Int):0<=zi l z/\zi l z < p:=by
 unfold Law.zi
 split
 ·exact h.zc hp _
 ·exact⟨by omega,hp⟩
theorem zaY{g g':G2}{Fa Fb Fc:FE}{δ:Sl}{s s1 s2:Sx}{a b:D}(h1:Fa δ s=some (a,s1))(h2:Fb δ s1=some (b,s2))(h3:g a b=some (.bool false)):fChain g g' Fa Fb Fc δ s=some (.bool false,s2):=by
 unfold fChain
 rw[h1]
 simp only[Option.bind_some]
 rw[h2]
 simp only[Option.bind_some,h3]
theorem zeP{p:Int}{l:List Int}{rd:D}{z:Int}(s:Sx)(hr:seqOf rd=some (l.map .int)):z24 [fieldP p,rd,.int z] s=some (.int (zi l z),s):=by
 have hl:gLen rd=some (.int (l.length:Int)):=by rw[z09 hr,List.length_map]
 refine z0d (n:=3) (m:=0) (G:=z1t) rfl ?_
 show z1t [qF p,.val rd,qI z] s=_
 by_cases h0:0<=z
 ·have t:asB (fChain gLe gLt (fC (.int 0)) (fVar 2) (f1 gLen (fVar 1))) [qF p,.val rd,qI z] s=some (decide (z < (l.length:Int)),s) :=
   z0F (z8c (a:=.int 0) (b:=.int z) (c:=.int (l.length:Int)) rfl rfl (by simp only[gLe,gI,if_true,decide_eq_true h0]) (zn (a:=rd) rfl hl) (by simp only[gLt,gI,if_true]))
  by_cases h1:z < (l.length:Int)
  ·rw[decide_eq_true h1]at t
   have e:gIx rd (.int z)=some (.int (zi l z)):=by
    unfold zi
    rw[if_pos h0]
    have:=z0X (k:=z.toNat) hr (by omega)
    rwa [Int.toNat_of_nonneg h0]at this
   unfold z1t sSeq
   rw[z5w t (r:=some (.ret (.int (zi l z)),s)) (by unfold sRet;exact congrArg (Option.map _) (z9 (a:=rd) (b:=.int z) rfl rfl e))]
  ·rw[decide_eq_false h1]at t
   unfold z1t
   rw[zJ (zc1 t rfl)]
   unfold sRet zi
   rw[if_pos h0,z0V (by omega)]
   exact congrArg (Option.map _) (zn (a:=fieldP p) rfl (fldN p))
 ·have t:asB (fChain gLe gLt (fC (.int 0)) (fVar 2) (f1 gLen (fVar 1))) [qF p,.val rd,qI z] s=some (false,s) :=
   z0F (zaY (a:=.int 0) (b:=.int z) rfl rfl (by simp only[gLe,gI,if_true,decide_eq_false h0]))
  unfold z1t
  rw[zJ (zc1 t rfl)]
  unfold sRet zi
  rw[if_neg h0]
  exact congrArg (Option.map _) (zn (a:=fieldP p) rfl (fldN p))
theorem zdO{p x y:Int}(hp:0 < p)(h:p∣x - y):x.fmod p=y.fmod p:=by
 rw[Int.fmod_eq_emod_of_nonneg _ (by omega),Int.fmod_eq_emod_of_nonneg _ (by omega)]
 exact Int.emod_eq_emod_iff_emod_sub_eq_zero.mpr (Int.emod_eq_zero_of_dvd h)
theorem zaZ{p x:Int}(h0:0<=x)(h1:x < p):x.fmod p=x:=by
 rw[Int.fmod_eq_emod_of_nonneg _ (by omega)]
 exact Int.emod_eq_of_lt h0 h1
theorem z5F{p:Int}{w l:List Int}{wd rd:D}{z:Int}(s:Sx)(hp:Prm p)(hw:seqOf wd=some (w.map .int))(hr:seqOf rd=some (l.map .int))(rw':Rs p w)(rl:Rs p l)(hl:w.length<=1000) :
  z1E [fieldP p,wd,rd,.int z] s=some (.int ((wsum w l z w.length).fmod p),s):=by
 have ht:=hp.two
 obtain⟨δ',s',e,hs,c5,c6,hδ⟩:=z2F (T:=.tup [5,6]) (G:=z5m) (fun t δ s'=>s'=s/\∃ c5 c6:Ce,δ=[qF p,.val wd,.val rd,qI z,qI ((wsum w l z t).fmod p),c5,c6])
  (enumD (w.map .int)) [qF p,.val wd,.val rd,qI z,qI 0,.non,.non] s ⟨rfl,.non,.non,by rw[wsum,zaZ (by omega) (by omega)]⟩
  (fun t d δ s' hd zgt=>by
   obtain⟨hs,c5,c6,hδ⟩:=zgt
   subst hs hδ
   obtain⟨x,hx,rfl⟩:=z5i hd
   have htl:t < w.length:=by
    have:=(List.getElem?_eq_some_iff.mp hx).1
    rwa [List.length_map]at this
   rw[z7n htl]at hx
   cases hx
   have hv:=rl.zi (by omega) (z - (t:Int))
   have hwt:=rw'.zc (by omega) t
   refine⟨[qF p,.val wd,.val rd,qI z,qI ((wsum w l z t).fmod p),qI t,qI (zc w t)],[qF p,.val wd,.val rd,qI z,.val (.int ((wsum w l z (t + 1)).fmod p)),qI t,qI (zc w t)],s',rfl,?_,rfl,_,_,rfl⟩
   have hv2:((wsum w l z t).fmod p + (zc w t * zi l (z - (t:Int))).fmod p).fmod p=(wsum w l z (t + 1)).fmod p:=by
    refine zdO (by omega) ?_
    obtain⟨a,ha⟩:=z0T (p:=p) (x:=wsum w l z t) (by omega)
    obtain⟨b,hb⟩:=z0T (p:=p) (x:=zc w t * zi l (z - (t:Int))) (by omega)
    rw[wsum]
    exact⟨a + b,by grind⟩
   have a1:=addP (p:=p) (a:=(wsum w l z t).fmod p) (b:=(zc w t * zi l (z - (t:Int))).fmod p) s' (by omega)
   rw[hv2]at a1
   refine zE (methP (p:=p) (Fo:=fVar 0) rfl (z7 (F:=fVar 4) rfl (z7 (FL:=aNil) (methP (p:=p) (Fo:=fVar 0) rfl (z7 (F:=fVar 6) rfl (z7 (FL:=aNil) (zk (ds:=[fieldP p,rd,.int (z - (t:Int))]) (z7 (F:=fVar 0) rfl (z7 (F:=fVar 2) rfl (z7 (FL:=aNil) (z9 (a:=.int z) (b:=.int t) rfl rfl (by simp only[gSubI,gI,if_true])) rfl))) (zeP s' hr)) rfl)) (mulP s' (by omega) (by omega) hwt hv) rfl) rfl)) a1 rfl))
 subst hs hδ
 rw[z5j,List.length_map]at e
 refine z0d (n:=4) (m:=3) (G:=z44) rfl ?_
 show z44 [qF p,.val wd,.val rd,qI z,.non,.non,.non] s'=_
 have a0:sSet 4 (f1 (gFld ["PrimeField"] "nought") (fVar 0)) [qF p,.val wd,.val rd,qI z,.non,.non,.non] s'=some (.next [qF p,.val wd,.val rd,qI z,qI 0,.non,.non],s'):=zE (zn (a:=fieldP p) rfl (fldN p))
 have ei:iEnumF (fVar 1) [qF p,.val wd,.val rd,qI z,qI 0,.non,.non] s'=some (enumD (w.map .int),s'):=by
  unfold iEnumF
  show((seqOf wd).map _)=_
  rw[hw];rfl
 have a1:z3K [qF p,.val wd,.val rd,qI z,qI 0,.non,.non] s'=some (.next [qF p,.val wd,.val rd,qI z,qI ((wsum w l z w.length).fmod p),c5,c6],s'):=by
  unfold z3K sFor
  rw[ei]
  exact e
 unfold z44
 rw[zJ a0,zJ a1]
 rfl
def ser(p:Int)(T B:List Int):Nat->List Int
 | 0=>[]
 | n + 1=>ser p T B n++[(zc T n - wsum (B.drop 1) (ser p T B n) ((n:Int) - 1) (B.length - 1)).fmod p]
theorem z3O(p:Int)(T B:List Int):∀ n,(ser p T B n).length=n
 | 0=>rfl
 | n + 1=>by rw[ser,List.length_append,z3O p T B n];rfl
theorem z8Q{p:Int}(hp:0 < p)(T B:List Int):∀ n,Rs p (ser p T B n)
 | 0=>fun x hx=>nomatch hx
 | n + 1=>fun x hx=>by
  rw[ser]at hx
  rcases List.mem_append.mp hx with hx | hx
  ·exact z8Q hp T B n x hx
  ·rw[List.mem_singleton.mp hx];exact z14 hp
theorem mulR{p a b:Int}(hp:p<=1000)(ha:0<=a/\a < p)(hb:0<=b/\b < p):gMulI (.int a) (.int b)=some (.int (a * b)):=by
 have mk:mulOk a b=true:=(bt10 hp ha).ok (bt10 hp hb) (by decide)
 simp only[gMulI,gI,mk,if_true]
def oneD(T B:List Int):D:=.tuple [.tuple (T.map .int),.tuple (B.map .int)]
theorem zeQ{Ga:FT}{Fa Fb:FE}{δ:Sl}{s s1:Sx}{r:Option (D × Sx)}(h:Ga δ s=some (true,s1))(e:Fa δ s1=r):eIf Ga Fa Fb δ s=r:=by
 unfold eIf;rw[h];exact e
theorem zeR{Ga:FT}{Fa Fb:FE}{δ:Sl}{s s1:Sx}{r:Option (D × Sx)}(h:Ga δ s=some (false,s1))(e:Fb δ s1=r):eIf Ga Fa Fb δ s=r:=by
 unfold eIf;rw[h];exact e
theorem zeS{δ:Sl}{s:Sx}{T B:List Int}{io ii i:Nat}(ho:δ[io]?=some (.val (oneD T B)))(hi:δ[ii]?=some (.val (.int i))) :
  eIf (asB (f2 gLt (fVar ii) (f1 gLen (f2 gIx (fVar io) (fC (.int 0)))))) (f2 gIx (f2 gIx (fVar io) (fC (.int 0))) (fVar ii)) (fC (.int 0)) δ s=some (.int (zc T i),s):=by
 have v1:fVar io δ s=some (oneD T B,s):=by unfold fVar;rw[ho]
 have v2:fVar ii δ s=some (.int i,s):=by unfold fVar;rw[hi]
 have x1:f2 gIx (fVar io) (fC (.int 0)) δ s=some (.tuple (T.map .int),s):=z9 (a:=oneD T B) (b:=.int 0) v1 rfl rfl
 have t:asB (f2 gLt (fVar ii) (f1 gLen (f2 gIx (fVar io) (fC (.int 0))))) δ s=some (decide ((i:Int) < (T.length:Int)),s) :=
  z0F (z9 (a:=.int i) (b:=.int (T.length:Int)) v2 (zn (a:=qt T) x1 (by rw[z09 (xs:=T.map .int) rfl,List.length_map])) (by simp only[gLt,gI,if_true]))
 by_cases h:(i:Int) < (T.length:Int)
 ·rw[decide_eq_true h]at t
  exact zeQ t (z9 (a:=qt T) (b:=.int i) x1 v2 (z0X (d:=qt T) rfl (by omega)))
 ·rw[decide_eq_false h]at t
  rw[z0V (by omega)]
  exact zeR t rfl
theorem z6I{l:List Int}{j k:Nat}:zc (l.drop j) k=zc l (j + k):=by
 unfold zc
 rw[List.getD_eq_getElem?_getD,List.getD_eq_getElem?_getD,List.getElem?_drop]
theorem z8R{l:List Int}{k:Nat}{z:Int}(h:z=(k:Int)):zi l z=zc l k:=by
 subst h;unfold zi;rw[if_pos (Int.natCast_nonneg _),Int.toNat_natCast]
theorem zcT{l:List Int}{z:Int}(h:z < 0):zi l z=0:=by unfold zi;rw[if_neg (by omega)]
theorem z5G{w l:List Int}{z:Int}{m:Nat}:∀ n,m<=n->(∀ t,m<=t->t < n->z - (t:Int) < 0)->wsum w l z n=wsum w l z m
 | 0,h,_=>by rw[show m=0 by omega]
 | n + 1,h,hz=>by
  by_cases hm:m=n + 1
  ·rw[hm]
  ·rw[wsum,zcT (hz n (by omega) (Nat.lt_succ_self _)),Int.mul_zero,Int.add_zero]
   exact z5G n (by omega) fun t h1 h2=>hz t h1 (by omega)
theorem zb0{p:Int}{T B l:List Int}{many i:Nat}{c6:Ce}{h0:Int}(s:Sx)(hp:Prm p)(rB:Rs p B)(rl:Rs p l)(lB:B.length<=100)(hB:0 < B.length)(hl:l.length=i)(hi:i<=200) :
  ∃ c6',z1i [qI p,.val (oneD T B),qI many,qO l,qI i,qI h0,c6] s=some (.next [qI p,.val (oneD T B),qI many,qO l,qI i,.val (.int (h0 - wsum (B.drop 1) l ((i:Int) - 1) (B.length - 1))),c6'],s):=by
 have ht:=hp.two
 obtain⟨δ',s',e,hs,c6',hδ⟩:=z2F (T:=.one 6) (G:=z2h) (fun t δ s'=>s'=s/\∃ c6:Ce,δ=[qI p,.val (oneD T B),qI many,qO l,qI i,.val (.int (h0 - wsum (B.drop 1) l ((i:Int) - 1) t)),c6])
  (rng ((1:Nat):Int) (min (i + 1) B.length - 1)) [qI p,.val (oneD T B),qI many,qO l,qI i,qI h0,c6] s ⟨rfl,c6,by rw[wsum,Int.sub_zero]⟩
  (fun t d δ s' hd zgu=>by
   obtain⟨hs,c6,hδ⟩:=zgu
   subst hs hδ
   obtain⟨htm,rfl⟩:=z6H hd
   refine⟨[qI p,.val (oneD T B),qI many,qO l,qI i,.val (.int (h0 - wsum (B.drop 1) l ((i:Int) - 1) t)),qI (1 + t:Nat)],[qI p,.val (oneD T B),qI many,qO l,qI i,.val (.int (h0 - wsum (B.drop 1) l ((i:Int) - 1) (t + 1))),qI (1 + t:Nat)],s',rfl,?_,rfl,_,rfl⟩
   have e1:wsum (B.drop 1) l ((i:Int) - 1) (t + 1)=wsum (B.drop 1) l ((i:Int) - 1) t + zc B (1 + t) * zc l (i - (1 + t)):=by
    rw[wsum,z6I,z8R (k:=i - (1 + t)) (by omega)]
   have e2:h0 - wsum (B.drop 1) l ((i:Int) - 1) (t + 1)=h0 - wsum (B.drop 1) l ((i:Int) - 1) t - zc B (1 + t) * zc l (i - (1 + t)):=by rw[e1];omega
   rw[e2]
   exact zE (z9 (a:=.int (h0 - wsum (B.drop 1) l ((i:Int) - 1) t)) (b:=.int (zc B (1 + t) * zc l (i - (1 + t)))) rfl (z9 (a:=.int (zc B (1 + t))) (b:=.int (zc l (i - (1 + t)))) (z9 (a:=qt B) (b:=.int (1 + t:Nat)) (z9 (a:=oneD T B) (b:=.int 1) rfl rfl rfl) rfl (z0X (d:=qt B) rfl (by omega))) (ixw (i:=3) rfl (z9 (a:=.int i) (b:=.int (1 + t:Nat)) rfl rfl (z4p (by omega))) (by omega)) (mulR (by omega) (rB.zc (by omega) _) (rl.zc (by omega) _))) (by simp only[gSubI,gI,if_true])))
 subst hs hδ
 have hlen:(rng ((1:Nat):Int) (min (i + 1) B.length - 1)).length=min (i + 1) B.length - 1:=by unfold rng;rw[List.length_map,List.length_range]
 rw[hlen]at e
 rw[z5G (m:=min (i + 1) B.length - 1) (B.length - 1) (by omega) fun t h1 h2=>by omega]
 refine⟨c6',?_⟩
 unfold z1i sFor
 rw[z3q (a:=1) (b:=min (i + 1) B.length) rfl (z9 (a:=.int (i + 1:Nat)) (b:=.int (B.length:Int)) (z9 (a:=.int i) (b:=.int 1) rfl rfl (z2I i)) (zn (a:=qt B) (z9 (a:=oneD T B) (b:=.int 1) rfl rfl rfl) (by rw[z09 (xs:=B.map .int) rfl,List.length_map])) (zaW _ _)) (by decide) (by omega)]
 exact e
theorem z6b{p:Int}{T B:List Int}{many:Nat}(s:Sx)(hp:Prm p)(rB:Rs p B)(lB:B.length<=100)(hB:0 < B.length)(hm:many<=200) :
  zY [.int p,oneD T B,.int many] s=some (.own ((ser p T B many).map .int),s):=by
 have ht:=hp.two
 obtain⟨δ',s',e,hs,c4,c5,c6,hδ⟩:=z2F (T:=.one 4) (G:=z1j) (fun t δ s'=>s'=s/\∃ c4 c5 c6:Ce,δ=[qI p,.val (oneD T B),qI many,qO (ser p T B t),c4,c5,c6])
  (rng 0 many) [qI p,.val (oneD T B),qI many,.own [],.non,.non,.non] s ⟨rfl,.non,.non,.non,rfl⟩
  (fun t d δ s' hd zgv=>by
   obtain⟨hs,c4,c5,c6,hδ⟩:=zgv
   subst hs hδ
   obtain⟨htm,rfl⟩:=z6r hd
   obtain⟨c6',ei⟩:=zb0 (T:=T) (B:=B) (l:=ser p T B t) (many:=many) (i:=t) (c6:=c6) (h0:=zc T t) s' hp rB (z8Q (by omega) T B t) lB hB (z3O p T B t) (by omega)
   have a1:sSet 5 (eIf (asB (f2 gLt (fVar 4) (f1 gLen (f2 gIx (fVar 1) (fC (.int 0)))))) (f2 gIx (f2 gIx (fVar 1) (fC (.int 0))) (fVar 4)) (fC (.int 0))) [qI p,.val (oneD T B),qI many,qO (ser p T B t),qI t,c5,c6] s'=some (.next [qI p,.val (oneD T B),qI many,qO (ser p T B t),qI t,qI (zc T t),c6],s'):=zE (zeS (io:=1) (ii:=4) rfl rfl)
   refine⟨[qI p,.val (oneD T B),qI many,qO (ser p T B t),qI t,c5,c6],[qI p,.val (oneD T B),qI many,qO (ser p T B (t + 1)),qI t,.val (.int (zc T t - wsum (B.drop 1) (ser p T B t) ((t:Int) - 1) (B.length - 1))),c6'],s',rfl,?_,rfl,_,_,_,rfl⟩
   unfold z1j
   rw[zJ a1,zJ ei]
   refine(zbZ (xs:=(ser p T B t).map .int) (z9 (a:=.int (zc T t - wsum (B.drop 1) (ser p T B t) ((t:Int) - 1) (B.length - 1))) (b:=.int p) rfl rfl (z3N (by omega) _)) rfl (by rw[List.length_map,z3O];omega)).trans ?_
   rw[ser];unfold qO;rw[List.map_append];rfl)
 subst hs hδ
 rw[z1u]at e
 refine zdG (n:=3) (m:=4) (G:=z11) rfl ?_
 show z11 [qI p,.val (oneD T B),qI many,.non,.non,.non,.non] s'=_
 have a1:sSetO 3 (oLst aNil) [qI p,.val (oneD T B),qI many,.non,.non,.non,.non] s'=some (.next [qI p,.val (oneD T B),qI many,.own [],.non,.non,.non],s'):=z27 (zc0 rfl (zQ (by simp)))
 have a2:z1k [qI p,.val (oneD T B),qI many,.own [],.non,.non,.non] s'=some (.next [qI p,.val (oneD T B),qI many,qO (ser p T B many),c4,c5,c6],s'):=by
  unfold z1k sFor
  rw[z07 (n:=many) rfl (by omega)]
  exact e
 unfold z11
 rw[zJ a1,zJ a2]
 rfl
def tells(p:Int)(T B l:List Int)(i:Nat):Prop:=p∣wsum B l (i:Int) B.length - zc T i
theorem z6J{B l:List Int}{i:Nat}(h1:zc B 0=1):∀ n,wsum B l (i:Int) (n + 1)=zc l i + wsum (B.drop 1) l ((i:Int) - 1) n
 | 0=>by
  rw[wsum,wsum,wsum,h1,z8R (k:=i) (by omega)];omega
 | n + 1=>by
  rw[wsum,z6J h1 n,wsum,z6I,show 1 + n=n + 1 by omega,show(i:Int) - ((n + 1:Nat):Int)=(i:Int) - 1 - (n:Int) by omega];omega
theorem z4q{w l l':List Int}{z:Int}(h:∀ k:Nat,(k:Int)<=z->zc l k=zc l' k):∀ n,wsum w l z n=wsum w l' z n
 | 0=>rfl
 | n + 1=>by
  rw[wsum,wsum,z4q h n]
  congr 2
  unfold zi
  split
  ·exact h _ (by omega)
  ·rfl
theorem zb1{l m:List Int}{k:Nat}(h:k < l.length):zc (l++m) k=zc l k:=by
 unfold zc
 rw[List.getD_eq_getElem?_getD,List.getD_eq_getElem?_getD,List.getElem?_append_left h]
theorem zeT{l:List Int}{v:Int}{k:Nat}(h:k=l.length):zc (l++[v]) k=v:=by
 subst h
 unfold zc
 rw[List.getD_eq_getElem?_getD,List.getElem?_append_right (Nat.le_refl _),Nat.sub_self];rfl
theorem z8S{p:Int}{T B:List Int}{k:Nat}:∀ n,k < n->zc (ser p T B n) k=(zc T k - wsum (B.drop 1) (ser p T B k) ((k:Int) - 1) (B.length - 1)).fmod p
 | 0,h=>absurd h (Nat.not_lt_zero _)
 | n + 1,h=>by
  rw[ser]
  by_cases hk:k=n
  ·subst hk
   exact zeT (z3O p T B k).symm
  ·rw[zb1 (by rw[z3O];omega)]
   exact z8S n (by omega)
theorem zc9{p:Int}{T B:List Int}{k n m:Nat}(h:k < n)(h':k < m):zc (ser p T B n) k=zc (ser p T B m) k:=by rw[z8S n h,z8S m h']
theorem zb2{p:Int}{T B:List Int}{n i:Nat}(hp:0 < p)(hB:0 < B.length)(h1:zc B 0=1)(hi:i < n):tells p T B (ser p T B n) i:=by
 unfold tells
 obtain⟨m,hm⟩:∃ m,B.length=m + 1:=⟨B.length - 1,by omega⟩
 rw[hm,z6J h1,z8S n hi,z4q (l':=ser p T B i) (fun k hk=>zc9 (by omega) (by omega)) m,hm,Nat.add_sub_cancel]
 obtain⟨a,ha⟩:=z0T (p:=p) (x:=zc T i - wsum (B.drop 1) (ser p T B i) ((i:Int) - 1) m) hp
 exact⟨a,by grind⟩
theorem zca(lo:Int)(n:Nat):rng lo (n + 1)=.int lo::rng (lo + 1) n:=by
 unfold rng
 rw[List.range_succ_eq_map,List.map_cons,List.map_map]
 congr 1
 ·simp
 ·refine List.map_congr_left fun i _=>?_
  show PyData.int (lo + ((i + 1:Nat):Int))=.int (lo + 1 + (i:Int))
  congr 1;omega
theorem z8T{B l:List Int}{i:Nat}:∀ m,m<=i + 1->((List.range m).map fun j=>zc B j * zc l (i - j)).sum=wsum B l (i:Int) m
 | 0,_=>rfl
 | m + 1,h=>by
  rw[List.range_succ,List.map_append,List.sum_append,z8T m (by omega),wsum,z8R (k:=i - m) (by omega)]
  simp
structure Low(p:Int)(top below T B:List Int):Prop where
 rT:Rs p T
 rB:Rs p B
 nT:Ends T
 nB:Ends B
 lT:T.length<=100
 lB:B.length<=100
 b0:0 < B.length
 one:zc B 0=1
 co:∀ f:List Int,Rs p f->Ends f->0 < f.length->DvF p (zc f) (zc B)->DvF p (zc f) (zc T)->f.length=1
 eq:∀ k,p∣cvz (zc T) (zc below) k T.length - cvz (zc B) (zc top) k B.length
theorem zcb{p:Int}(s:Sx)(hp:Prm p):∀ (n:Nat) (one other:List Int),other.length<=n->one.length<=200->other.length<=200->Rs p one->Rs p other->Ends one->Ends other ->
  ∃ f:List Int,whileN (asB (f2 gNe (fVar 2) (eTup aNil))) (sPar 1 2 (aCons (fVar 2) (aCons (fCall z0p (aCons (fVar 0) (aCons (fVar 1) (aCons (fVar 2) aNil)))) aNil))) (n + 1) [qI p,qT one,qT other] s=some (.next [qI p,qT f,.val (.tuple [])],s) /\
   Rs p f/\Ends f/\(0 < one.length\/0 < other.length->0 < f.length)/\DvF p (zc f) (zc one)/\DvF p (zc f) (zc other):=by
 intro n
 have ne:∀ one other:List Int,f2 gNe (fVar 2) (eTup aNil) [qI p,qT one,qT other] s=some (.bool (decide (other≠[])),s):=fun one other =>
  z9 (a:=qt other) (b:=.tuple []) (s1:=s) rfl (z1x rfl (zQ (by simp))) (z50 other)
 have stop:∀ one m,Rs p one->Ends one->∃ f:List Int,whileN (asB (f2 gNe (fVar 2) (eTup aNil))) (sPar 1 2 (aCons (fVar 2) (aCons (fCall z0p (aCons (fVar 0) (aCons (fVar 1) (aCons (fVar 2) aNil)))) aNil))) (m + 1) [qI p,qT one,qT ([]:List Int)] s=some (.next [qI p,qT f,.val (.tuple [])],s) /\
   Rs p f/\Ends f/\(0 < one.length\/0 < ([]:List Int).length->0 < f.length)/\DvF p (zc f) (zc one)/\DvF p (zc f) (zc []):=fun one m hR hE =>
  ⟨one,z0u (z0F ((ne one []).trans (by rw[decide_eq_false (fun z=>z rfl)]))),hR,hE,fun h=>h.elim id fun z=>absurd z (Nat.lt_irrefl _),DvF.refl,DvF.zero⟩
 induction n with
 | zero =>
  intro one other hn _ _ r1 _ e1 _
  cases List.eq_nil_of_length_eq_zero (Nat.le_zero.mp hn)
  exact stop one 0 r1 e1
 | succ n ih =>
  intro one other hn l1 l2 r1 r2 e1 e2
  by_cases h0:other=[]
  ·subst h0;exact stop one (n + 1) r1 e1
  ·have lo:0 < other.length:=List.length_pos_iff.mpr h0
   obtain⟨r,er,L⟩:=zeO (od:=qt one) (othd:=qt other) s hp rfl rfl r1 r2 lo e1 e2 l1
   obtain⟨f,ef,h2,h3,h5,h6,h7⟩:=ih other r (by have:=L.lt;omega) l2 (by have:=L.lt;omega) r2 L.rs e2 L.en
   refine⟨f,z16 (z0F ((ne one other).trans (by rw[decide_eq_true h0]))) ?_ ef,h2,h3,fun _=>h5 (.inl lo),?_,h6⟩
   ·unfold sPar
    rw[z7 (F:=fVar 2) (d:=qt other) (s1:=s) rfl (z7 (d:=qt r) (FL:=aNil) (zk (ds:=[.int p,.tuple (one.map .int),.tuple (other.map .int)]) rfl er) rfl)]
    rfl
   ·obtain⟨N,q,hq⟩:=L.eq
    refine((h6.conv (a:=q) N).add h7).congr fun k=>?_
    obtain⟨a,ha⟩:=hq k
    exact⟨a,by grind⟩
theorem zdP{p:Int}{one other:List Int}(s:Sx)(hp:Prm p)(l1:one.length<=200)(l2:other.length<=200)(r1:Rs p one)(r2:Rs p other)(e1:Ends one)(e2:Ends other)(h0:0 < one.length) :
  ∃ f:List Int,z0D [.int p,.tuple (one.map .int),.tuple (other.map .int)] s=some (.tuple (f.map .int),s)/\Rs p f/\Ends f/\0 < f.length/\DvF p (zc f) (zc one)/\DvF p (zc f) (zc other):=by
 obtain⟨f,e,h2,h3,h5,h6,h7⟩:=zcb s hp other.length one other (Nat.le_refl _) l1 l2 r1 r2 e1 e2
 exact⟨f,z0d (n:=3) (m:=0) (G:=z2Q) rfl (zm (z0x e (by unfold fuel;omega)) rfl),h2,h3,h5 (.inl h0),h6,h7⟩
theorem z7s{Fa Fb:FE}{δ:Sl}{s s1:Sx}{r:Option (D × Sx)}(h:Fa δ s=some (.bool true,s1))(e:Fb δ s1=r):eAnd Fa Fb δ s=r:=by
 unfold eAnd;rw[h];exact e
theorem z8h{Ga Gb:FT}{δ:Sl}{s s1:Sx}(h:Ga δ s=some (false,s1)):tAndF Ga Gb δ s=some (false,s1):=by
 unfold tAndF;rw[h];rfl
theorem z0n{F:FE}{δ:Sl}{s s1:Sx}{d:D}(h:F δ s=some (d,s1)):sRet F δ s=some (.ret d,s1):=by
 unfold sRet;rw[h];rfl
theorem zcc{g g':G2}{Fa Fb Fc:FE}{δ:Sl}{s s1 s2 s3:Sx}{a b c d:D}(h:Fa δ s=some (a,s1))(h':Fb δ s1=some (b,s2))(e:g a b=some (.bool true))(h2:Fc δ s2=some (c,s3))(e':g' b c=some d):fChain g g' Fa Fb Fc δ s=some (d,s3):=by
 unfold fChain;rw[h];simp only[Option.bind_some,h',e,h2,e',Option.map_some]
theorem zcd{i:Nat}{T:Tgt}{G:GS}{d:D}{l:List D}{δ:Sl}{s:Sx}{r:Option (Out × Sx)}(hi:δ[i]?=some (.val d))(h:seqOf d=some l)(e:forD T G l δ s=r):sFor (iSeq (fVar i)) T G δ s=r:=by
 unfold sFor iSeq fVar;rw[hi];simp only[Option.bind_some,h,Option.map_some];exact e
theorem zce{l:List D}:gAll (.list (l.map fun _=>PyData.bool true))=some (.bool true):=by
 have h:bools (l.map fun _=>PyData.bool true)=some (l.map fun _=>true):=by
  induction l with
  | nil=>rfl
  | cons a l ih=>rw[List.map_cons,List.map_cons,bools,ih];rfl
 unfold gAll
 dsimp only
 rw[h]
 show some (PyData.bool _)=_
 congr 2
 rw[List.all_eq_true]
 intro x hx
 obtain⟨_,_,rfl⟩:=List.mem_map.mp hx
 rfl
theorem z8U{p:Int}{thing c2:D}{l:List Int}(s:Sx)(hr:Rs p l)(he:Ends l)(hl:l.length<=1000) :
  z1m [qI p,.val thing,qT l] s=some (.next [qI p,.val thing,qT l],s):=by
 have al:asL z1l [qI p,.val thing,qT l] s=some (.list ((l.map PyData.int).map fun _=>PyData.bool true),s):=by
  refine z28 (ds:=l.map .int) (s1:=s) rfl (by rw[List.length_map];omega) (z4h (f:=fun _=>PyData.bool true) _ fun d hd=>?_)
  obtain⟨z,hz,rfl⟩:=List.mem_map.mp hd
  obtain⟨h0,h1⟩:=hr z hz
  refine⟨[qI z,qI p],rfl,rfl,z7s (s1:=s) rfl (z7s (s1:=s) rfl ?_)⟩
  have a:gLe (.int 0) (.int z)=some (.bool true):=by simp only[gLe,gI,if_true];rw[decide_eq_true h0]
  have b:gLt (.int z) (.int p)=some (.bool true):=by simp only[gLt,gI,if_true];rw[decide_eq_true h1]
  exact zcc (s1:=s) (s2:=s) rfl rfl a rfl b
 refine zm (δ1:=[qI p,.val thing,qT l]) (s1:=s) (z0z (z5z (s1:=s) rfl ?_)) (z0z (z3M (b:=true) (z6C (zn al zce))))
 by_cases h0:l=[]
 ·subst h0
  exact z8h (z0F (z9 (a:=.tuple []) (b:=.tuple []) (s1:=s) rfl rfl (z50 [])))
 ·have lp:0 < l.length:=List.length_pos_iff.mpr h0
  refine z3L (s1:=s) (z0F (z9 (a:=qt l) (b:=.tuple []) (s1:=s) rfl rfl ((z50 l).trans (by rw[decide_eq_true h0])))) (z0F (z9 (a:=.int (zc l (l.length - 1))) (b:=.int 0) (s1:=s) (z9 (a:=qt l) (b:=.int (-1)) rfl rfl (z6E rfl lp)) rfl ?_))
  rw[z1b,decide_eq_false (he lp)]
theorem zdQ{p:Int}{top below T B:List Int}(s:Sx)(hp:Prm p)(L:Low p top below T B):zV [.int p,.tuple [.tuple (T.map .int),.tuple (B.map .int)]] s=some (.bool true,s):=by
 obtain⟨f,ef,rf,nf,f0,d1,d2⟩:=zdP s hp (by have:=L.lB;omega) (by have:=L.lT;omega) L.rB L.rT L.nB L.nT L.b0
 have hf:=L.co f rf nf f0 d1 d2
 refine z0d (n:=2) (m:=1) (G:=z1G) rfl (zm (δ1:=[qI p,.val (.tuple [.tuple (T.map .int),.tuple (B.map .int)]),.non]) (s1:=s) (z0z (z5z (s1:=s) rfl (z0F (z9 (a:=.int 2) (b:=.int 2) (s1:=s) rfl rfl rfl)))) (zm (δ1:=[qI p,.val (.tuple [.tuple (T.map .int),.tuple (B.map .int)]),qT B]) (s1:=s) ?_ (z0n ?_)))
 ·exact zcd (i:=1) rfl rfl (z5x rfl (z8U (c2:=.none) s L.rT L.nT (by have:=L.lT;omega)) (z5x rfl (z8U (c2:=.none) s L.rB L.nB (by have:=L.lB;omega)) rfl))
 ·refine z7s (s1:=s) (z9 (a:=qt B) (b:=.tuple []) (s1:=s) (z9 (a:=.tuple [.tuple (T.map .int),.tuple (B.map .int)]) (b:=.int 1) rfl rfl rfl) rfl ((z50 B).trans (by rw[decide_eq_true (List.length_pos_iff.mp L.b0)]))) (z7s (s1:=s) (z9 (a:=.int (zc B 0)) (b:=.int 1) (s1:=s) (z9 (a:=qt B) (b:=.int 0) (s1:=s) (z9 (a:=.tuple [.tuple (T.map .int),.tuple (B.map .int)]) (b:=.int 1) rfl rfl rfl) rfl (z0X (k:=0) rfl L.b0)) rfl (by rw[z1b,L.one];rfl)) ?_)
  refine z9 (a:=.int (f.length:Int)) (b:=.int 1) (s1:=s) (zn (a:=qt f) (zk (ds:=[.int p,.tuple (B.map .int),.tuple (T.map .int)]) (z7 (F:=fVar 0) rfl (z7 (z9 (a:=.tuple [.tuple (T.map .int),.tuple (B.map .int)]) (b:=.int 1) rfl rfl rfl) (z7 (FL:=aNil) (z9 (a:=.tuple [.tuple (T.map .int),.tuple (B.map .int)]) (b:=.int 0) rfl rfl rfl) rfl))) ef) (by rw[z09 (xs:=f.map .int) rfl,List.length_map])) rfl ?_
  rw[z1b,hf];rfl
theorem zb3{P:Int->Prop}:∀ {xs:List D},(∀ x∈xs,∃ z,x=.int z/\P z)->∃ l:List Int,xs=l.map .int/\∀ z∈l,P z
 | [],_=>⟨[],rfl,fun _ z=>nomatch z⟩
 | x::xs,h=>by
  obtain⟨l,e,hl⟩:=zb3 (xs:=xs) fun y hy=>h y (List.mem_cons_of_mem _ hy)
  obtain⟨z,rfl,hz⟩:=h x List.mem_cons_self
  exact⟨z::l,by rw[e];rfl,fun y hy=>by
   rcases List.mem_cons.mp hy with rfl | hy
   ·exact hz
   ·exact hl y hy⟩
theorem z5H{p:Int}(hp:Prm p)(m n:Nat)(s:Sx)(h:Good (n + m) s):∃ (l:List Int) (s':Sx),compD (.one 0) fTrue (fCall zg (aCons (fVar 1) (aCons (fVar 2) aNil))) [.non,qD,qI p] (rng 0 m) s=some (l.map .int,s')/\Rs p l/\l.length=m/\Good n s':=by
 have ht:=hp.two
 obtain⟨xs,s',e,hx,hl,g⟩:=z7g (T:=.one 0) (Ft:=fTrue) (F:=fCall zg (aCons (fVar 1) (aCons (fVar 2) aNil))) (δc:=[.non,qD,qI p]) (fun d=>∃ z,d=.int z/\(0<=z/\z < p)) 1 (fun n s d hg=>by
  obtain⟨r,s1,e1,r0,r1,g1⟩:=z8b (M:=p) hg (by omega) (by omega)
  exact⟨[.val d,qD,qI p],.int r,s1,rfl,rfl,zk (ds:=[.dict [],.int p]) rfl e1,⟨r,rfl,r0,r1⟩,g1⟩) (rng 0 m) n s (by rw[z1u,Nat.one_mul];exact h)
 obtain⟨l,rfl,hr⟩:=zb3 hx
 rw[List.length_map,z1u]at hl
 exact⟨l,s',e,hr,hl,g⟩
theorem z8V{p:Int}(hp:Prm p):∀ (l:List Int) (n:Nat) (s:Sx),Rs p l->Good (n + l.length) s->∃ (l':List Int) (s':Sx),compD (.one 0) fTrue (f2 gMulI (fVar 0) (f1 gInt (f2 gEq (fCall zg (aCons (fVar 1) (aCons (fC (.int 3)) aNil))) (fC (.int 0))))) [.non,qD] (l.map .int) s=some (l'.map .int,s')/\Rs p l'/\l'.length=l.length/\Good n s'
 | [],n,s,_,h=>⟨[],s,rfl,(fun _ z=>nomatch z),rfl,h⟩
 | a::l,n,s,hr,h=>by
  have ht:=hp.two
  have ha:=hr a List.mem_cons_self
  obtain⟨j,s1,e1,hj,g1⟩:=z13 (n:=n + l.length) (m:=3) (h.mono (by rw[List.length_cons];omega)) (by decide) (by decide)
  obtain⟨l',s2,e2,r2,n2,g2⟩:=z8V hp l n s1 (fun x hx=>hr x (List.mem_cons_of_mem _ hx)) g1
  have key:∀ b:Bool,decide ((j:Int)=0)=b->∃ v:Int,(0<=v/\v < p)/\f2 gMulI (fVar 0) (f1 gInt (f2 gEq (fCall zg (aCons (fVar 1) (aCons (fC (.int 3)) aNil))) (fC (.int 0)))) [qI a,qD] s=some (.int v,s1):=by
   intro b hb
   have hq:gEq (.int j) (.int 0)=some (.bool b):=by rw[z1b,hb]
   have x1:=z9 (g:=gEq) (a:=.int j) (b:=.int 0) (δ:=[qI a,qD]) (s:=s) (s1:=s1) (s2:=s1) (Fa:=fCall zg (aCons (fVar 1) (aCons (fC (.int 3)) aNil))) (Fb:=fC (.int 0)) (zk (ds:=[.dict [],.int 3]) rfl e1) rfl hq
   cases b with
   | true =>
    have:gMulI (.int a) (.int 1)=some (.int (a * 1)):=mulR (p:=p) (by omega) ha ⟨by omega,by omega⟩
    exact⟨a * 1,by omega,z9 (a:=.int a) (b:=.int 1) rfl (zn (a:=.bool true) x1 rfl) this⟩
   | false =>
    have:gMulI (.int a) (.int 0)=some (.int (a * 0)):=mulR (p:=p) (by omega) ha ⟨by omega,by omega⟩
    exact⟨a * 0,by omega,z9 (a:=.int a) (b:=.int 0) rfl (zn (a:=.bool false) x1 rfl) this⟩
  obtain⟨v,hv,ev⟩:=key _ rfl
  refine⟨v::l',s2,?_,fun x hx=>?_,by simp[n2],g2⟩
  ·rw[List.map_cons]
   unfold compD
   rw[show Tgt.run (.one 0) (.int a) [.non,qD]=some [qI a,qD] from rfl]
   simp only[Option.bind_some,fTrue,if_true,ev,e2,Option.map_some]
   rfl
  ·rcases List.mem_cons.mp hx with rfl | hx
   ·exact hv
   ·exact r2 x hx
theorem z8W{p:Int}{most n:Nat}(hp:Prm p)(hm:most<=12)(s:Sx)(h:Good (n + 30) s):∃ (l:List Int) (s':Sx),z0b [.dict [],.int p,.int most] s=some (.tuple (l.map .int),s')/\Rs p l/\Ends l/\l.length<=13/\Good n s':=by
 have ht:=hp.two
 obtain⟨u,s1,e1,hu,g1⟩:=z13 (n:=n + 29) (m:=3) h (by decide) (by decide)
 obtain⟨m,s2,e2,hm2,g2⟩:=z13 (n:=n + 28) (m:=most + 2) g1 (by omega) (by omega)
 obtain⟨l,s3,e3,r3,l3,g3⟩:=z5H hp m (n + 13) s2 (g2.mono (by omega))
 have a1:sSet 3 (f2 gEq (fCall zg (aCons (fVar 0) (aCons (fC (.int 3)) aNil))) (fC (.int 0))) [qD,qI p,qI most,.non,.non] s=some (.next [qD,qI p,qI most,.val (.bool (decide ((u:Int)=0))),.non],s1):=zE (z9 (a:=.int u) (b:=.int 0) (zk (ds:=[.dict [],.int 3]) rfl e1) rfl (z1b _ _))
 have a2:sSetL 4 z1N [qD,qI p,qI most,.val (.bool (decide ((u:Int)=0))),.non] s1=some (.next [qD,qI p,qI most,.val (.bool (decide ((u:Int)=0))),qL l],s3):=by
  unfold sSetL z1N fComp
  rw[z07 (n:=m) (zk (ds:=[.dict [],.int (most + 2:Nat)]) (z7 (F:=fVar 0) rfl (z7 (FL:=aNil) (z9 (a:=.int most) (b:=.int 2) rfl rfl (by simp[gAdd,gAddI,gI])) rfl)) e2) (by omega)]
  simp only[Option.bind_some]
  rw[if_pos (zQ (by rw[z1u];omega))]
  show((compD _ _ _ [.non,qD,qI p] (rng 0 m) s2).map _)=_
  rw[e3];rfl
 obtain⟨l',s4,r4,l4,g4,a3⟩:∃ (l':List Int) (s4:Sx),Rs p l'/\l'.length<=13/\Good n s4/\sIf (asT (fVar 3)) (sSetL 4 z1O) sNext [qD,qI p,qI most,.val (.bool (decide ((u:Int)=0))),qL l] s3=some (.next [qD,qI p,qI most,.val (.bool (decide ((u:Int)=0))),qL l'],s4):=by
  have tu:asT (fVar 3) [qD,qI p,qI most,.val (.bool (decide ((u:Int)=0))),qL l] s3=some (decide ((u:Int)=0),s3):=z6C rfl
  by_cases hz:(u:Int)=0
  ·rw[decide_eq_true hz]at tu ⊢
   obtain⟨l',s4,e4,r4,l4,g4⟩:=z8V hp l n s3 r3 (g3.mono (by omega))
   refine⟨l',s4,r4,by omega,g4,z5w tu ?_⟩
   unfold sSetL z1O fComp
   rw[show iSeq (fVar 4) [qD,qI p,qI most,.val (.bool true),qL l] s3=some (l.map .int,s3) from rfl]
   simp only[Option.bind_some]
   rw[if_pos (zQ (by rw[List.length_map];omega))]
   show((compD _ _ _ [.non,qD] (l.map .int) s3).map _)=_
   rw[e4];rfl
  ·rw[decide_eq_false hz]at tu ⊢
   exact⟨l,s3,r3,by omega,g3.mono (by omega),zc1 tu rfl⟩
 refine⟨tz l',s4,z0d (n:=3) (m:=2) (G:=z1w) rfl ?_,r4.tz,fun h=>z8e h,by have:=zaO l';omega,g4⟩
 show z1w [qD,qI p,qI most,.non,.non] s=_
 unfold z1w
 rw[zJ a1,zJ a2,zJ a3]
 unfold sRet
 exact congrArg (Option.map _) (zk (ds:=[.list (l'.map .int)]) rfl (zaV s4 rfl (by omega)))
theorem zb4{n:Nat}{s:Sx}(h:Good (n + 1) s):∃ p s',z1F [.dict []] s=some (.int p,s')/\Prm p/\Good n s':=by
 obtain⟨j,s1,e1,hj,g1⟩:=z13 (n:=n) (m:=8) h (by decide) (by decide)
 obtain⟨p,hp,ei⟩:∃ p,Prm p/\gIx (.list [(.int 2),(.int 3),(.int 5),(.int 7),(.int 11),(.int 13),(.int 101),(.int 997)]) (.int j)=some (.int p):=by
  have:j=0\/j=1\/j=2\/j=3\/j=4\/j=5\/j=6\/j=7:=by omega
  rcases this with rfl | rfl | rfl | rfl | rfl | rfl | rfl | rfl
  ·exact⟨2,⟨2,by decide,rfl⟩,rfl⟩
  ·exact⟨3,⟨3,by decide,rfl⟩,rfl⟩
  ·exact⟨5,⟨5,by decide,rfl⟩,rfl⟩
  ·exact⟨7,⟨7,by decide,rfl⟩,rfl⟩
  ·exact⟨11,⟨11,by decide,rfl⟩,rfl⟩
  ·exact⟨13,⟨13,by decide,rfl⟩,rfl⟩
  ·exact⟨101,⟨101,by decide,rfl⟩,rfl⟩
  ·exact⟨997,⟨997,by decide,rfl⟩,rfl⟩
 refine⟨p,s1,z0d (n:=1) (m:=0) (G:=z2g) rfl ?_,hp,g1⟩
 show z2g [qD] s=_
 unfold z2g sRet
 exact congrArg (Option.map _) (z9 (s1:=s) rfl (zk (ds:=[.dict [],.int 8]) rfl e1) ei)
theorem z3r{B l:List Int}{k:Nat}:∀ n,wsum B l (k:Int) n=cvz (zc B) (zc l) k n
 | 0=>rfl
 | n + 1=>by
  have e:zi l ((k:Int) - (n:Int))=shz n (zc l) k:=by
   unfold shz
   by_cases h:n<=k
   ·rw[if_pos h];exact z8R (by omega)
   ·rw[if_neg h];exact zcT (by omega)
  rw[wsum,cvz,z3r n,e]
theorem qdeg{p:Int}(hp:Prm p){g:Nat->Int}{d L:Nat}(hg:¬ p∣g d)(g0:Pl (d + 1) g):∀ (N:Nat) (q h:Nat->Int),(∀ k,p∣h k - cvz q g k N)->(∀ k,L<=k->p∣h k)->∀ i,i < N->L<=i + d->p∣q i
 | 0,_,_,_,_,i,hi,_=>absurd hi (Nat.not_lt_zero _)
 | N + 1,q,h,e,hh,i,hi,hL=>by
  have hN:p∣q N:=by
   obtain⟨x,hx⟩:=e (N + d)
   rw[zc4 g0]at hx
   obtain⟨y,hy⟩:=hh (N + d) (by omega)
   exact hp.dvd (b:=g d) ⟨y - x,by grind⟩ hg
  by_cases ei:i=N
  ·rw[ei];exact hN
  ·refine qdeg hp hg g0 N q (fun k=>h k - q N * shz N g k) (fun k=>?_) (fun k hk=>?_) i (by omega) hL
   ·obtain⟨x,hx⟩:=e k
    rw[cvz]at hx
    exact⟨x,by grind⟩
   ·obtain⟨x,hx⟩:=hh k hk
    obtain⟨y,hy⟩:=hN
    exact⟨x - y * shz N g k,by rw[hx,hy];grind⟩
theorem z5I{p:Int}{f c:Nat->Int}{k:Nat}(h:∀ j,j < k->p∣c j):∀ N,p∣cvz f c k (N + 1) - f 0 * c k
 | 0=>⟨0,by rw[cvz,cvz,shz,if_pos (Nat.zero_le _),Nat.sub_zero];omega⟩
 | N + 1=>by
  obtain⟨x,hx⟩:=z5I (f:=f) h N
  rw[cvz]
  unfold shz
  by_cases hk:N + 1<=k
  ·rw[if_pos hk]
   obtain⟨y,hy⟩:=h (k - (N + 1)) (by omega)
   exact⟨x + f (N + 1) * y,by rw[hy];grind⟩
  ·rw[if_neg hk]
   exact⟨x,by grind⟩
theorem z8X{f a b:Nat->Int}{k:Nat}:∀ n,cvz f (fun i=>a i - b i) k n=cvz f a k n - cvz f b k n
 | 0=>rfl
 | n + 1=>by
  rw[cvz,cvz,cvz,z8X n]
  unfold shz
  split <;> grind
theorem zcf{p:Int}(hp:Prm p){f a b:Nat->Int}{N K:Nat}(hf:¬ p∣f 0)(h:∀ k,k<=K->p∣cvz f a k (N + 1) - cvz f b k (N + 1)):∀ k,k<=K->p∣a k - b k:=by
 intro k
 induction k using Nat.strongRecOn with
 | _ k ih =>
  intro hk
  obtain⟨x,hx⟩:=z5I (p:=p) (f:=f) (c:=fun i=>a i - b i) (k:=k) (fun j hj=>ih j hj (by omega)) N
  obtain⟨y,hy⟩:=h k hk
  rw[z8X]at hx
  exact hp.dvd (b:=f 0) ⟨y - x,by grind⟩ hf
theorem zdR{q R:Nat->Int}{a k N:Nat}:cvz (shz a q) R k (N + a)=if a<=k then cvz q R (k - a) N else 0:=by
 rw[z4b];rfl
theorem z7t{a b f:Nat->Int}{M k:Nat}:∀ N,cvz a (fun k=>cvz b f k M) k N=cvz b (fun k=>cvz a f k N) k M
 | 0=>by
  rw[cvz]
  induction M with
  | zero=>rfl
  | succ M ih=>rw[cvz,<- ih];unfold shz;split <;> simp[cvz]
 | N + 1=>by
  rw[cvz,z7t N]
  have h:(fun k=>cvz a f k (N + 1))=fun k=>cvz a f k N + a N * shz N f k:=funext fun k=>by rw[cvz]
  rw[h,z6F,z3p,z4o]
theorem z8Y{p:Int}{f c:Nat->Int}{k:Nat}:∀ n,(∀ j,1<=j->j<=n->j<=k->p∣c (k - j))->p∣cvz f c k (n + 1) - f 0 * c k
 | 0,_=>⟨0,by rw[cvz,cvz,shz,if_pos (Nat.zero_le _),Nat.sub_zero];omega⟩
 | n + 1,h=>by
  obtain⟨x,hx⟩:=z8Y (f:=f) n fun j h1 h2 h3=>h j h1 (by omega) h3
  rw[cvz]
  unfold shz
  by_cases hk:n + 1<=k
  ·rw[if_pos hk]
   obtain⟨y,hy⟩:=h (n + 1) (by omega) (Nat.le_refl _) hk
   exact⟨x + f (n + 1) * y,by rw[hy];grind⟩
  ·rw[if_neg hk]
   exact⟨x,by grind⟩
theorem zb5{p:Int}{f c:Nat->Int}{k:Nat}:∀ n,(∀ j,j < n->j<=k->p∣c (k - j))->p∣cvz f c k n
 | 0,_=>⟨0,by rw[cvz];omega⟩
 | n + 1,h=>by
  obtain⟨x,hx⟩:=zb5 (f:=f) n fun j h1 h2=>h j (by omega) h2
  rw[cvz,hx]
  unfold shz
  by_cases hk:n<=k
  ·rw[if_pos hk]
   obtain⟨y,hy⟩:=h n (by omega) hk
   exact⟨x + f n * y,by rw[hy];grind⟩
  ·rw[if_neg hk]
   exact⟨x,by grind⟩
structure Gen(p:Int)(R f:Nat->Int)(L N:Nat):Prop where
 pl:Pl (L + 1) f
 z:∀ i,L<=i->i < N->p∣cvz f R i (L + 1)
theorem Gen.less{p:Int}{R f:Nat->Int}{L N N':Nat}(g:Gen p R f L N)(h:N'<=N):Gen p R f L N':=⟨g.pl,fun i a b=>g.z i a (by omega)⟩
theorem massey{p:Int}(hp:Prm p){R C C':Nat->Int}{L L' N:Nat}(g:Gen p R C L N)(hd:¬ p∣cvz C R N (L + 1))(g':Gen p R C' L' (N + 1))(c0:¬ p∣C' 0):N + 1<=L + L':=by
 refine Decidable.byContradiction fun hn=>?_
 obtain⟨x,hx⟩:=z8Y (p:=p) (f:=C') (c:=fun k=>cvz C R k (L + 1)) (k:=N) L' fun j h1 h2 h3=>g.z (N - j) (by omega) (by omega)
 obtain⟨y,hy⟩:=zb5 (p:=p) (f:=C) (c:=fun k=>cvz C' R k (L' + 1)) (k:=N) (L + 1) fun j h1 h2=>g'.z (N - j) (by omega) (by omega)
 rw[z7t]at hx
 exact hd (hp.dvd (b:=C' 0) ⟨y - x,by grind⟩ c0)
theorem zdS{C B R:Nat->Int}{u v:Int}{k:Nat}(n:Nat):cvz (fun i=>u * C i - v * B i) R k n=u * cvz C R k n - v * cvz B R k n:=by
 have h:(fun i=>u * C i - v * B i)=fun i=>(fun i=>u * C i) i + (fun i=>(-v) * B i) i:=funext fun i=>by
  show u * C i - v * B i=u * C i + -v * B i
  rw[Int.neg_mul];omega
 rw[h,z5A,z2A,z2A,Int.neg_mul];omega
theorem zcU{f:Nat->Int}{n m:Nat}(h:Pl n f):Pl (n + m) (shz m f):=fun k hk=>by
 unfold shz
 rw[if_pos (by omega)]
 exact h _ (by omega)
structure Bm(p:Int)(R C B:Nat->Int)(b:Int)(L m N:Nat):Prop where
 g:Gen p R C L N
 c0:¬ p∣C 0
 bb:¬ p∣b
 m0:1<=m
 ln:L<=N
 la:(L=0/\m=N + 1/\Pl 1 B)\/∃ LB NB,NB + 1=L + LB/\N=NB + m/\Gen p R B LB NB/\p∣cvz B R NB (LB + 1) - b
 mi:∀ f L',Gen p R f L' N->¬ p∣f 0->L<=L'
theorem z6K{p:Int}(hp:Prm p){R C B:Nat->Int}{b:Int}(c0:¬ p∣C 0)(bb:¬ p∣b)(hC:Pl 1 C)(hB:Pl 1 B):Bm p R C B b 0 1 0 where
 g:=⟨hC,fun i _ h=>absurd h (Nat.not_lt_zero _)⟩
 c0:=c0
 bb:=bb
 m0:=Nat.le_refl _
 ln:=Nat.le_refl _
 la:=.inl ⟨rfl,rfl,hB⟩
 mi:=fun _ _ _ _=>Nat.zero_le _
theorem Bm.right{p:Int}{R C B:Nat->Int}{b:Int}{L m N:Nat}(S:Bm p R C B b L m N)(h:p∣cvz C R N (L + 1)):Bm p R C B b L (m + 1) (N + 1) where
 g:=⟨S.g.pl,fun i h1 h2=>by
  by_cases e:i=N
  ·rw[e];exact h
  ·exact S.g.z i h1 (by omega)⟩
 c0:=S.c0
 bb:=S.bb
 m0:=by omega
 ln:=by have:=S.ln;omega
 la:=by
  rcases S.la with ⟨h1,h2,h3⟩ | ⟨LB,NB,h1,h2,h3,h4⟩
  ·exact .inl ⟨h1,by omega,h3⟩
  ·exact .inr ⟨LB,NB,h1,by omega,h3,h4⟩
 mi:=fun f L' g h0=>S.mi f L' (g.less (by omega)) h0
structure Mend(p:Int)(C B C1:Nat->Int)(u v b d:Int)(m:Nat):Prop where
 eq:∀ k,p∣C1 k - (u * C k - v * shz m B k)
 z:∀ k,u * C k - v * shz m B k=0->C1 k=0
 u0:¬ p∣u
 ud:p∣u * d - v * b
theorem Mend.c0{p:Int}(hp:Prm p){C B C1:Nat->Int}{u v b d:Int}{m:Nat}(M:Mend p C B C1 u v b d m)(m0:1<=m)(c0:¬ p∣C 0):¬ p∣C1 0:=fun zgw=>by
 obtain⟨x,hx⟩:=zgw
 obtain⟨y,hy⟩:=M.eq 0
 unfold shz at hy
 rw[if_neg (by omega)]at hy
 exact c0 (hp.dvd (b:=u) ⟨x - y,by grind⟩ M.u0)
theorem Mend.gen{p:Int}{R C B C1:Nat->Int}{u v b d:Int}{L L1 LB NB m N:Nat}(M:Mend p C B C1 u v b d m)(gC:Gen p R C L N)(hd:p∣cvz C R N (L + 1) - d)(gB:Gen p R B LB NB)(hb:p∣cvz B R NB (LB + 1) - b)(hN:N=NB + m)(h1:L<=L1)(h2:LB + m<=L1)(m0:1<=m):Gen p R C1 L1 (N + 1):=by
 have pB:=zcU (m:=m) gB.pl
 refine⟨fun k hk=>M.z k ?_,fun i hi hi2=>?_⟩
 ·rw[gC.pl k (by omega),pB k (by omega)];omega
 ·obtain⟨x,hx⟩:=z5D (p:=p) (a:=C1) (a':=fun i=>u * C i - v * shz m B i) (b:=R) (b':=R) (k:=i) M.eq (fun _=>⟨0,by omega⟩) (L1 + 1)
  have e1:cvz C R i (L1 + 1)=cvz C R i (L + 1):=z1y gC.pl (by omega)
  have e2:cvz (shz m B) R i (L1 + 1)=cvz B R (i - m) (LB + 1):=by
   rw[z1y (k:=i) (b:=R) pB (by omega),zdR,if_pos (by omega)]
  rw[zdS,e1,e2]at hx
  by_cases e:i=N
  ·subst e
   obtain⟨y,hy⟩:=hd
   obtain⟨z,hz⟩:=hb
   obtain⟨t,ht⟩:=M.ud
   rw[show i - m=NB by omega]at hx
   exact⟨x + u * y - v * z + t,by grind⟩
  ·obtain⟨y,hy⟩:=gC.z i (by omega) (by omega)
   obtain⟨z,hz⟩:=gB.z (i - m) (by omega) (by omega)
   exact⟨x + u * y - v * z,by grind⟩
theorem Bm.risen{p:Int}(hp:Prm p){R C B C1:Nat->Int}{b u v d:Int}{L m N:Nat}(S:Bm p R C B b L m N)(hd:p∣cvz C R N (L + 1) - d)(d0:¬ p∣d)(M:Mend p C B C1 u v b d m)(h:2 * L<=N):Bm p R C1 C d (N + 1 - L) 1 (N + 1) where
 g:=by
  rcases S.la with ⟨h1,h2,h3⟩ | ⟨LB,NB,h1,h2,h3,h4⟩
  ·refine⟨fun k hk=>M.z k ?_,fun i h5 h6=>absurd h5 (by omega)⟩
   rw[S.g.pl k (by omega),zcU (m:=m) h3 k (by omega)];omega
  ·exact M.gen S.g hd h3 h4 h2 (by omega) (by omega) S.m0
 c0:=M.c0 hp S.m0 S.c0
 bb:=d0
 m0:=Nat.le_refl _
 ln:=by omega
 la:=.inr ⟨L,N,by omega,rfl,S.g,hd⟩
 mi:=fun f L' g h0=>by
  have nd:¬ p∣cvz C R N (L + 1):=fun zgx=>(by obtain⟨x,hx⟩:=zgx;exact d0 (by obtain⟨y,hy⟩:=hd;exact⟨x - y,by grind⟩))
  have:=massey hp S.g nd g h0
  omega
theorem Bm.stay{p:Int}(hp:Prm p){R C B C1:Nat->Int}{b u v d:Int}{L m N:Nat}(S:Bm p R C B b L m N)(hd:p∣cvz C R N (L + 1) - d)(M:Mend p C B C1 u v b d m)(h:N < 2 * L):Bm p R C1 B b L (m + 1) (N + 1):=by
 rcases S.la with ⟨h1,h2,h3⟩ | ⟨LB,NB,h1,h2,h3,h4⟩
 ·omega
 ·exact{
   g:=M.gen S.g hd h3 h4 h2 (Nat.le_refl _) (by omega) S.m0
   c0:=M.c0 hp S.m0 S.c0
   bb:=S.bb
   m0:=by omega
   ln:=by have:=S.ln;omega
   la:=.inr ⟨LB,NB,h1,by omega,h3,h4⟩
   mi:=fun f L' g h0=>S.mi f L' (g.less (by omega)) h0}
theorem Bm.one{p:Int}{R C B C' B':Nat->Int}{b b':Int}{L L' m m' N:Nat}(S:Bm p R C B b L m N)(S':Bm p R C' B' b' L' m' N):L=L' :=
 Nat.le_antisymm (S.mi _ _ S'.g S'.c0) (S'.mi _ _ S.g S.c0)
def padZ(a:List Int)(N:Nat):List Int:=a++List.replicate (N - a.length) 0
theorem z8Z{a:List Int}{N:Nat}(h:a.length<=N):(padZ a N).length=N:=by unfold padZ;rw[List.length_append,List.length_replicate];omega
theorem zb6(a:List Int)(N k:Nat):zc (padZ a N) k=zc a k:=by
 unfold padZ
 by_cases h:k < a.length
 ·exact zb1 h
 ·rw[z0V (l:=a) (by omega)]
  unfold zc
  rw[List.getD_eq_getElem?_getD,List.getElem?_append_right (by omega),List.getElem?_replicate]
  split <;> rfl
theorem z9y{xd:D}{a:List Int}(hx:seqOf xd=some (a.map .int)):gList xd=some (ql a):=by
 cases xd with
 | list xs=>cases hx;rfl
 | tuple xs=>cases hx;rfl
 | _=>cases hx
theorem z90{p:Int}{δ:Sl}{s:Sx}{i:Nat}{xd:D}{a:List Int}{N:Nat}(h0:δ[0]?=some (.val (fieldP p)))(hi:δ[i]?=some (.val xd))(h3:δ[3]?=some (.val (.int N)))(hx:seqOf xd=some (a.map .int))(hl:a.length<=N)(hN:N<=100) :
  f2 gAdd (f1 gList (fVar i)) (f2 gMulA (eLst (aCons (f1 (gFld ["PrimeField"] "nought") (fVar 0)) aNil)) (f2 gSubI (fVar 3) (f1 gLen (fVar i)))) δ s=some (.list ((padZ a N).map .int),s):=by
 have v0:fVar 0 δ s=some (fieldP p,s):=by unfold fVar;rw[h0]
 have vi:fVar i δ s=some (xd,s):=by unfold fVar;rw[hi]
 have v3:fVar 3 δ s=some (.int N,s):=by unfold fVar;rw[h3]
 have e2:f2 gMulA (eLst (aCons (f1 (gFld ["PrimeField"] "nought") (fVar 0)) aNil)) (f2 gSubI (fVar 3) (f1 gLen (fVar i))) δ s=some (.list (List.replicate (N - a.length) (.int 0)),s) :=
  z9 (a:=.list [.int 0]) (b:=.int (N - a.length:Nat)) (z0S (z7 (FL:=aNil) (zn v0 (fldN p)) rfl) (zQ (by simp))) (z9 (a:=.int N) (b:=.int (a.length:Int)) v3 (zn vi (by rw[z09 hx,List.length_map])) (z4p hl)) (z6B (by omega))
 refine z9 (a:=ql a) (b:=.list (List.replicate (N - a.length) (.int 0))) (zn vi (z9y hx)) e2 ?_
 rw[catL (by simp;omega)]
 unfold padZ
 rw[List.map_append,List.map_replicate]
theorem z8i{p:Int}{od othd:D}{a b:List Int}{N:Nat}(s:Sx)(ha:seqOf od=some (a.map .int))(hb:seqOf othd=some (b.map .int))(hN:N=max a.length b.length)(hl:N<=100) :
  z3n [fieldP p,od,othd] s=some (.list ((((padZ a N).map PyData.int).zip ((padZ b N).map PyData.int)).map fun z=>PyData.tuple [z.1,z.2]),s):=by
 refine z0d (n:=3) (m:=3) (G:=z4Y) rfl ?_
 show z4Y [qF p,.val od,.val othd,.non,.non,.non] s=_
 have v1:gMax (.int (a.length:Int)) (.int (b.length:Int))=some (.int N):=by
  have:(if (b.length:Int) > (a.length:Int) then (b.length:Int) else (a.length:Int))=(N:Int):=by split <;> omega
  simp only[gMax,gI,if_true,this]
 have a1:sSet 3 (f2 gMax (f1 gLen (fVar 1)) (f1 gLen (fVar 2))) [qF p,.val od,.val othd,.non,.non,.non] s=some (.next [qF p,.val od,.val othd,qI N,.non,.non],s) :=
  zE (z9 (zn (a:=od) rfl (by rw[z09 ha,List.length_map])) (zn (a:=othd) rfl (by rw[z09 hb,List.length_map])) v1)
 have a2:=zE (i:=4) (z90 (p:=p) (δ:=[qF p,.val od,.val othd,qI N,.non,.non]) (s:=s) (i:=1) rfl rfl rfl ha (by omega) hl)
 have a3:=zE (i:=5) (z90 (p:=p) (δ:=[qF p,.val od,.val othd,qI N,qL (padZ a N),.non]) (s:=s) (i:=2) rfl rfl rfl hb (by omega) hl)
 unfold z4Y
 rw[zJ a1,zJ a2]
 show sSeq _ _ [qF p,.val od,.val othd,qI N,qL (padZ a N),.non] s=_
 rw[zJ a3]
 rfl
theorem z7u{p:Int}(hp:0 < p){s:Sx}:∀ l1 l2:List Int,compD (.tup [0,1]) fTrue (fMeth [("PrimeField",zD)] "lessened" (fVar 2) (aCons (fVar 0) (aCons (fVar 1) aNil))) [.non,.non,qF p] (((l1.map PyData.int).zip (l2.map PyData.int)).map fun z=>PyData.tuple [z.1,z.2]) s=some ((List.zipWith (fun x y=>(x - y).fmod p) l1 l2).map .int,s)
 | [],_=>rfl
 | _::_,[]=>rfl
 | x::l1,y::l2=>by
  have ih:=z7u hp (s:=s) l1 l2
  rw[List.map_cons,List.map_cons,List.zip_cons_cons,List.map_cons,List.zipWith_cons_cons,List.map_cons]
  unfold compD
  rw[show Tgt.run (.tup [0,1]) (.tuple [.int x,.int y]) [.non,.non,qF p]=some [qI x,qI y,qF p] from rfl]
  have st:fMeth [("PrimeField",zD)] "lessened" (fVar 2) (aCons (fVar 0) (aCons (fVar 1) aNil)) [qI x,qI y,qF p] s=some (.int ((x - y).fmod p),s):=methP (p:=p) (Fo:=fVar 2) rfl (z7 (F:=fVar 0) rfl (z7 (F:=fVar 1) (FL:=aNil) rfl rfl)) (subP s hp) rfl
  simp only[Option.bind_some,fTrue,if_true,st,ih,Option.map_some]
theorem zcV{p:Int}{l1 l2:List Int}(h:l1.length=l2.length)(k:Nat):zc (List.zipWith (fun x y=>(x - y).fmod p) l1 l2) k=(zc l1 k - zc l2 k).fmod p:=by
 by_cases hk:k < l1.length
 ·unfold zc
  rw[List.getD_eq_getElem?_getD,List.getD_eq_getElem?_getD,List.getD_eq_getElem?_getD,List.getElem?_zipWith,List.getElem?_eq_getElem hk,List.getElem?_eq_getElem (show k < l2.length by omega)]
  rfl
 ·rw[z0V (l:=l1) (by omega),z0V (l:=l2) (by omega),z0V (by rw[List.length_zipWith];omega)]
  simp
theorem zb7(l:List Int):Ends (tz l):=fun h=>z8e h
theorem zcg{p:Int}{od othd:D}{a b:List Int}(s:Sx)(hp:0 < p)(ha:seqOf od=some (a.map .int))(hb:seqOf othd=some (b.map .int))(la:a.length<=100)(lb:b.length<=100) :
  ∃ m:List Int,z25 [fieldP p,od,othd] s=some (.tuple (m.map .int),s)/\Rs p m/\Ends m/\(∀ k,zc m k=(zc a k - zc b k).fmod p)/\m.length<=max a.length b.length:=by
 have ep:=z8i (p:=p) (N:=max a.length b.length) s ha hb rfl (by omega)
 have l1:=z8Z (a:=a) (N:=max a.length b.length) (by omega)
 have l2:=z8Z (a:=b) (N:=max a.length b.length) (by omega)
 have ec:=z7u hp (s:=s) (padZ a (max a.length b.length)) (padZ b (max a.length b.length))
 have ei:iSeq (fCall z3n (aCons (fVar 0) (aCons (fVar 1) (aCons (fVar 2) aNil)))) [qF p,.val od,.val othd] s=some ((((padZ a (max a.length b.length)).map PyData.int).zip ((padZ b (max a.length b.length)).map PyData.int)).map fun z=>PyData.tuple [z.1,z.2],s):=by
  unfold iSeq
  rw[zk (ds:=[fieldP p,od,othd]) rfl ep];rfl
 have el:asL z5o [qF p,.val od,.val othd] s=_:=z28 (k:=2) (fr:=[0]) ei (by rw[List.length_map,List.length_zip,List.length_map,List.length_map];omega) ec
 have lz:(List.zipWith (fun x y=>(x - y).fmod p) (padZ a (max a.length b.length)) (padZ b (max a.length b.length))).length=max a.length b.length:=by rw[List.length_zipWith,l1,l2];omega
 have t:=z39 (row:=.list ((List.zipWith (fun x y=>(x - y).fmod p) (padZ a (max a.length b.length)) (padZ b (max a.length b.length))).map .int)) s rfl (by omega)
 refine⟨tz (List.zipWith (fun x y=>(x - y).fmod p) (padZ a (max a.length b.length)) (padZ b (max a.length b.length))),z0d (n:=3) (m:=0) (G:=z7j) rfl ?_,?_,zb7 _,fun k=>?_,by have:=zaO (List.zipWith (fun x y=>(x - y).fmod p) (padZ a (max a.length b.length)) (padZ b (max a.length b.length)));omega⟩
 ·exact z0n (zk (ds:=[.int 0,.list _]) (z7 (zn (a:=fieldP p) rfl (fldN p)) (z7 (FL:=aNil) el rfl)) t)
 ·refine Rs.tz fun x hx=>?_
  obtain⟨k,hk,e⟩:=List.getElem_of_mem hx
  have:=zcV (p:=p) (l1:=padZ a (max a.length b.length)) (l2:=padZ b (max a.length b.length)) (by rw[l1,l2]) k
  rw[zdI hk,e]at this
  rw[this]
  exact z14 hp
 ·rw[zaM,zcV (by rw[l1,l2]),zb6,zb6]
theorem z91{p b:Int}{l:List Int}{od:D}(s:Sx)(hp:Prm p)(hb:0<=b/\b < p)(ho:seqOf od=some (l.map .int))(rl:Rs p l)(ll:l.length<=100) :
  ∃ m:List Int,z02 [fieldP p,.list [.int b],od] s=some (.tuple (m.map .int),s)/\Rs p m/\(∀ k,p∣zc m k - b * zc l k)/\m.length<=l.length:=by
 have ht:=hp.two
 obtain⟨δ',s',e,hs,r,x6,x7,hδ,l1,hR,hc⟩:=z2F (T:=.tup [6,7]) (G:=z3w) (fun t δ s'=>s'=s/\∃ (r:List Int) (x6 x7:Ce),δ=[qF p,.val (.list [.int b]),.val od,qO r,qI 0,qI b,x6,x7]/\r.length=l.length/\Rs p r/\∀ k,p∣zc r k - (if k < t then b * zc l k else 0))
  (enumD (l.map .int)) [qF p,.val (.list [.int b]),.val od,qO (List.replicate l.length (0:Int)),qI 0,qI b,.non,.non] s ⟨rfl,_,.non,.non,rfl,List.length_replicate,(fun x hx=>by rw[List.eq_of_mem_replicate hx];omega),fun k=>by rw[zcR,if_neg (Nat.not_lt_zero _)];exact⟨0,by omega⟩⟩ (fun t d δ s' hd zgy=>by
   obtain⟨hs,r,x6,x7,hδ,l1,hR,hc⟩:=zgy
   subst hs hδ
   obtain⟨x,hx,rfl⟩:=z5i hd
   obtain⟨htl,rfl⟩:=zget hx
   have hz:=rl.zc (by omega) t
   have hrt:=hR.zc (by omega) t
   have m1:=z14 (p:=p) (x:=b * zc l t) (by omega)
   have m2:=z14 (p:=p) (x:=zc r t + (b * zc l t).fmod p) (by omega)
   refine⟨[qF p,.val (.list [.int b]),.val od,qO r,qI 0,qI b,qI t,qI (zc l t)],_,s',rfl,?_,rfl,r.set t ((zc r t + (b * zc l t).fmod p).fmod p),qI t,qI (zc l t),rfl,by rw[List.length_set];exact l1,hR.set m2.1 m2.2,fun k=>?_⟩
   ·have ad':f2 gAdd (fVar 4) (fVar 6) [qF p,.val (.list [.int b]),.val od,qO r,qI 0,qI b,qI t,qI (zc l t)] s'=some (.int t,s'):=z9 (a:=.int 0) (b:=.int t) rfl rfl (by simp[gAdd,gAddI,gI])
    refine(z42 (v:=.int ((zc r t + (b * zc l t).fmod p).fmod p)) (k:=.int t) (xs:=r.map .int) (ys:=(r.set t ((zc r t + (b * zc l t).fmod p).fmod p)).map .int) (s1:=s') ?_ ad' rfl ?_).trans rfl
    ·exact methP (p:=p) (Fo:=fVar 0) rfl (z7 (ixw (i:=3) rfl ad' (by omega)) (z7 (FL:=aNil) (methP (p:=p) (Fo:=fVar 0) rfl (z7 (F:=fVar 5) rfl (z7 (F:=fVar 7) (FL:=aNil) rfl rfl)) (mulP s' (by omega) (by omega) hb hz) rfl) rfl)) (addP s' (by omega)) rfl
    ·rw[z8L (by rw[List.length_map];omega),z3a]
   ·rw[zaL (by omega)]
    by_cases hk:k=t
    ·subst hk
     rw[if_pos rfl,if_pos (by omega)]
     have c:=hc k
     rw[if_neg (by omega)]at c
     obtain⟨k1,h1⟩:=c
     obtain⟨k2,h2⟩:=z0T (p:=p) (x:=b * zc l k) (by omega)
     obtain⟨k3,h3⟩:=z0T (p:=p) (x:=zc r k + (b * zc l k).fmod p) (by omega)
     exact⟨k1 + k2 + k3,by grind⟩
    ·rw[if_neg hk]
     have c:=hc k
     by_cases h2:k < t
     ·rw[if_pos h2]at c;rw[if_pos (by omega)];exact c
     ·rw[if_neg h2]at c;rw[if_neg (by omega)];exact c)
 subst hs hδ
 rw[z5j,List.length_map]at hc
 have t:=z39 (row:=ql r) (l:=r) s' rfl (by omega)
 have b2:gLen od=some (.int (l.length:Int)):=by rw[z09 ho,List.length_map]
 have v1:gAdd (.int 1) (.int (l.length:Int))=some (.int (l.length + 1:Nat)):=by simp[gAdd,gAddI,gI];omega
 have v2:gSubI (.int (l.length + 1:Nat)) (.int 1)=some (.int (l.length:Int)):=by rw[z5v (by omega)];rfl
 refine⟨tz r,z0d (n:=3) (m:=5) (G:=z2e) rfl ?_,hR.tz,fun k=>?_,by have:=zaO r;omega⟩
 ·show z2e [qF p,.val (.list [.int b]),.val od,.non,.non,.non,.non,.non] s'=_
  have a0:sSetO 3 (o2 lRep (eLst (aCons (f1 (gFld ["PrimeField"] "nought") (fVar 0)) aNil)) (f2 gSubI (f2 gAdd (f1 gLen (fVar 1)) (f1 gLen (fVar 2))) (fC (.int 1)))) [qF p,.val (.list [.int b]),.val od,.non,.non,.non,.non,.non] s'=some (.next [qF p,.val (.list [.int b]),.val od,qO (List.replicate l.length (0:Int)),.non,.non,.non,.non],s'):=by
   unfold qO
   rw[List.map_replicate]
   exact z27 (zaG (a:=.list [.int 0]) (b:=.int (l.length:Int)) (z0S (z7 (FL:=aNil) (zn (a:=fieldP p) rfl (fldN p)) rfl) (zQ (by simp))) (z9 (a:=.int (l.length + 1:Nat)) (b:=.int 1) (z9 (a:=.int 1) (b:=.int (l.length:Int)) (zn (a:=.list [.int b]) rfl rfl) (zn (a:=od) rfl b2) v1) rfl v2) (zaH (by omega)))
  have a1:z2r [qF p,.val (.list [.int b]),.val od,qO (List.replicate l.length (0:Int)),.non,.non,.non,.non] s'=some (.next [qF p,.val (.list [.int b]),.val od,qO r,qI 0,qI b,x6,x7],s'):=by
   unfold z2r sFor
   rw[z5E (i:=1) (d:=.list [.int b]) (l:=[.int b]) rfl rfl]
   show forD (.tup [4,5]) z2q [.tuple [.int 0,.int b]] [qF p,.val (.list [.int b]),.val od,qO (List.replicate l.length (0:Int)),.non,.non,.non,.non] s'=_
   refine z5x (δ1:=[qF p,.val (.list [.int b]),.val od,qO (List.replicate l.length (0:Int)),qI 0,qI b,.non,.non]) (δ2:=[qF p,.val (.list [.int b]),.val od,qO r,qI 0,qI b,x6,x7]) (s1:=s') rfl ?_ rfl
   unfold z2q z3x sFor
   rw[z5E (i:=2) (d:=od) rfl ho]
   exact e
  unfold z2e
  refine zm a0 (zm a1 (zm (δ1:=[qF p,.val (.list [.int b]),.val od,qL r,qI 0,qI b,x6,x7]) (s1:=s') rfl (z0n (zk (ds:=[.int 0,.list (r.map .int)]) (z7 (zn (a:=fieldP p) rfl (fldN p)) (z7 (F:=fVar 3) (FL:=aNil) rfl rfl)) t))))
 ·rw[zaM]
  have c:=hc k
  by_cases h2:k < l.length
  ·rw[if_pos h2]at c;exact c
  ·rw[if_neg h2]at c;rw[z0V (l:=l) (by omega),Int.mul_zero];exact c
def men(p:Int)(rs:List D)(C B:List Int)(b:Int)(n:Nat):Men:=⟨fieldP p,.int (-1),rs,.tuple (C.map .int),.tuple (B.map .int),.int b,.int n⟩
section
variable {p b:Int} {rs:List D} {C B:List Int} {n:Nat}
theorem z6L:gFld ["Mender"] "field" (men p rs C B b n).d=some (fieldP p):=rfl
theorem zb8:gFld ["Mender"] "off" (men p rs C B b n).d=some (.int (-1)):=rfl
theorem zch:gFld ["Mender"] "rises" (men p rs C B b n).d=some (.list rs):=rfl
theorem z51:gFld ["Mender"] "below" (men p rs C B b n).d=some (qt C):=rfl
theorem zb9:gFld ["Mender"] "failed" (men p rs C B b n).d=some (qt B):=rfl
theorem zci:gFld ["Mender"] "fault" (men p rs C B b n).d=some (.int b):=rfl
theorem zcj:gFld ["Mender"] "since" (men p rs C B b n).d=some (.int n):=rfl
theorem methM{g:GF}{m:Str}{Fo:FE}{FL:FA}{δ:Sl}{s s1:Sx}{ds:List D}{r:Option (D × Sx)}(h0:Fo δ s=some ((men p rs C B b n).d,s))(h1:FL δ s=some (ds,s1))(e:g ((men p rs C B b n).d::ds) s1=r)
  (hm:lookF m ((nsM.map PyData.str).zip (men p rs C B b n).fds)=none):fMeth [("Mender",g)] m Fo FL δ s=r:=by
 unfold fMeth
 rw[h0]
 show(if (lookF m ((nsM.map PyData.str).zip (men p rs C B b n).fds)).isNone=true then _ else none)=r
 rw[hm]
 show((FL δ s).bind fun q=>g ((men p rs C B b n).d::q.1) q.2)=r
 rw[h1]
 exact e
theorem zdT{xs:List D}{d:D}:gIx (.list (xs++[d])) (.int (-1))=some d:=by
 have he:xs++[d]≠[]:=by simp
 have h:gIx (.list (xs++[d])) (.int (-1))=some ((xs++[d]).getLast he):=L3.atI_last he
 rw[h,List.getLast_append]
 simp
theorem z4r{rs0:List D}{a L:Int}(s:Sx):zu [(men p (rs0++[.tuple [.int a,.int L]]) C B b n).d] s=some (.int L,s):=by
 refine z0d (n:=1) (m:=0) (G:=z36) rfl ?_
 exact z0n (z9 (a:=.tuple [.int a,.int L]) (b:=.int 1) (z9 (a:=.list (rs0++[.tuple [.int a,.int L]])) (b:=.int (-1)) (zn (a:=(men p (rs0++[.tuple [.int a,.int L]]) C B b n).d) rfl zch) rfl zdT) rfl rfl)
theorem zba(h:1<=n)(hn:n<=50):gMulTA (.tuple [.int 0]) (.int n)=some (qt (List.replicate n (0:Int))):=by
 unfold qt
 rw[List.map_replicate]
 unfold gMulTA gMulT gMulTN
 by_cases h1:n=1
 ·subst h1;rfl
 ·simp only
  rw[if_neg (by omega),if_neg (by omega),if_pos (by refine⟨by omega,by omega,?_⟩;simp;omega)]
  have:(List.replicate (n:Int).toNat [PyData.int 0]).flatten=List.replicate n (.int 0):=by rw[Int.toNat_natCast];simp
  rw[this];rfl
theorem zck(k:Nat):zc (List.replicate n 0++B) k=shz n (zc B) k:=by
 unfold shz
 by_cases h:n<=k
 ·rw[if_pos h]
  unfold zc
  rw[List.getD_eq_getElem?_getD,List.getD_eq_getElem?_getD,List.getElem?_append_right (by simpa using h),List.length_replicate]
 ·rw[if_neg h,zb1 (by simpa using h),zcR]
theorem z8j{md:D}{d:Int}{mv cat:List D}{m1 m2 C1:List Int}(s:Sx)(h1:gFld ["Mender"] "field" md=some (fieldP p))(h2:gFld ["Mender"] "since" md=some (.int n))(h3:gFld ["Mender"] "failed" md=some (qt B))(h4:gFld ["Mender"] "fault" md=some (.int b))(h5:gFld ["Mender"] "below" md=some (qt C))
  (hm:gMulTA (.tuple [.int 0]) (.int n)=some (.tuple mv)) (hc:gAddA (.tuple mv) (qt B)=some (.tuple cat)) (e1:z02 [fieldP p,.list [.int b],.tuple (C.map .int)] s=some (.tuple (m1.map .int),s)) (e2:z02 [fieldP p,.list [.int d],.tuple cat] s=some (.tuple (m2.map .int),s))
  (e3:z25 [fieldP p,.tuple (m1.map .int),.tuple (m2.map .int)] s=some (.tuple (C1.map .int),s)):z03 [md,.int d] s=some (.tuple (C1.map .int),s):=by
 refine z0d (n:=2) (m:=3) (G:=z1g) rfl ?_
 show z1g [.val md,qI d,.non,.non,.non] s=_
 have a1:sSet 2 (f1 (gFld ["Mender"] "field") (fVar 0)) [.val md,qI d,.non,.non,.non] s=some (.next [.val md,qI d,qF p,.non,.non],s):=zE (zn (a:=md) rfl h1)
 have a2:sSet 3 (f2 gAddA (f2 gMulTA (eTup (aCons (f1 (gFld ["PrimeField"] "nought") (fVar 2)) aNil)) (f1 (gFld ["Mender"] "since") (fVar 0))) (f1 (gFld ["Mender"] "failed") (fVar 0))) [.val md,qI d,qF p,.non,.non] s=some (.next [.val md,qI d,qF p,.val (.tuple cat),.non],s) :=
  zE (z9 (a:=.tuple mv) (b:=qt B) (z9 (a:=.tuple [.int 0]) (b:=.int n) (z1x (z7 (FL:=aNil) (zn (a:=fieldP p) rfl (fldN p)) rfl) (zQ (by simp))) (zn (a:=md) rfl h2) hm) (zn (a:=md) rfl h3) hc)
 have a3:sSet 4 (fCall z02 (aCons (fVar 2) (aCons (eLst (aCons (f1 (gFld ["Mender"] "fault") (fVar 0)) aNil)) (aCons (f1 (gFld ["Mender"] "below") (fVar 0)) aNil)))) [.val md,qI d,qF p,.val (.tuple cat),.non] s=some (.next [.val md,qI d,qF p,.val (.tuple cat),qT m1],s) :=
  zE (zk (ds:=[fieldP p,.list [.int b],.tuple (C.map .int)]) (z7 (F:=fVar 2) rfl (z7 (z0S (z7 (FL:=aNil) (zn (a:=md) rfl h4) rfl) (zQ (by simp))) (z7 (FL:=aNil) (zn (a:=md) rfl h5) rfl))) e1)
 have b2:fCall z02 (aCons (fVar 2) (aCons (eLst (aCons (fVar 1) aNil)) (aCons (fVar 3) aNil))) [.val md,qI d,qF p,.val (.tuple cat),qT m1] s=some (.tuple (m2.map .int),s) :=
  zk (ds:=[fieldP p,.list [.int d],.tuple cat]) (z7 (F:=fVar 2) rfl (z7 (z0S (z7 (F:=fVar 1) (FL:=aNil) rfl rfl) (zQ (by simp))) (z7 (F:=fVar 3) (FL:=aNil) rfl rfl))) e2
 have b3:fCall z25 (aCons (fVar 2) (aCons (fVar 4) (aCons (fCall z02 (aCons (fVar 2) (aCons (eLst (aCons (fVar 1) aNil)) (aCons (fVar 3) aNil)))) aNil))) [.val md,qI d,qF p,.val (.tuple cat),qT m1] s=some (.tuple (C1.map .int),s) :=
  zk (ds:=[fieldP p,.tuple (m1.map .int),.tuple (m2.map .int)]) (z7 (F:=fVar 2) rfl (z7 (F:=fVar 4) rfl (z7 (FL:=aNil) b2 rfl))) e3
 have b4:zL [fieldP p,.tuple (C1.map .int)] s=some (.tuple (C1.map .int),s):=z0d (n:=2) (m:=0) (G:=z1D) rfl (z0n (zn (a:=qt C1) rfl rfl))
 unfold z1g
 exact zm a1 (zm a2 (zm a3 (z0n (methP (p:=p) (Fo:=fVar 2) rfl (z7 (FL:=aNil) b3 rfl) b4 rfl))))
theorem z9z{d:Int}(s:Sx)(hp:Prm p)(hb:0<=b/\b < p)(hd:0<=d/\d < p)(rC:Rs p C)(rB:Rs p B)(lC:C.length<=50)(lB:B.length<=50)(h1:1<=n)(hn:n<=50) :
  ∃ C1:List Int,z03 [(men p rs C B b n).d,.int d] s=some (.tuple (C1.map .int),s)/\Rs p C1/\Ends C1/\(∀ k,p∣zc C1 k - (b * zc C k - d * shz n (zc B) k))/\∀ k,b * zc C k - d * shz n (zc B) k=0->zc C1 k=0:=by
 have ht:=hp.two
 have rM:Rs p (List.replicate n 0++B):=fun x hx=>(List.mem_append.mp hx).elim (fun h=>by rw[List.eq_of_mem_replicate h];omega) (rB x)
 have lM:(List.replicate n 0++B).length<=100:=by rw[List.length_append,List.length_replicate];omega
 obtain⟨m1,e1,r1,q1,l1⟩:=z91 (od:=qt C) s hp hb rfl rC (by omega)
 obtain⟨m2,e2,r2,q2,l2⟩:=z91 (od:=qt (List.replicate n 0++B)) s hp hd rfl rM lM
 obtain⟨C1,e3,r3,n3,q3,l3⟩:=zcg (p:=p) (od:=qt m1) (othd:=qt m2) s (by omega) rfl rfl (by omega) (by omega)
 have key:∀ k,p∣zc C1 k - (b * zc C k - d * shz n (zc B) k):=fun k=>by
  obtain⟨x,hx⟩:=q1 k
  obtain⟨y,hy⟩:=q2 k
  rw[zck]at hy
  obtain⟨z,hz⟩:=z0T (p:=p) (x:=zc m1 k - zc m2 k) (by omega)
  rw[q3 k]
  exact⟨z + x - y,by grind⟩
 refine⟨C1,z8j s z6L zcj zb9 zci z51 (zba h1 hn) ?_ e1 e2 e3,r3,n3,key,fun k hk=>?_⟩
 ·rw[List.map_append]
  unfold gAddA
  rw[show gAdd (qt (List.replicate n (0:Int))) (qt B)=none from rfl]
  unfold gCatT
  simp only
  rw[if_pos (zQ (by simp;omega))]
  rfl
 ·have h:=key k
  rw[hk]at h
  have hz:=r3.zc (by omega) k
  exact z0e hz.1 hz.2 (by obtain⟨x,hx⟩:=h;exact⟨x,by omega⟩)
end
theorem noInts:∀ l:List Int,noLists (l.map .int)=true
 | []=>rfl
 | x::l=>by rw[List.map_cons,noLists,noInts l];rfl
theorem noTup(l:List Int):noList (qt l)=true:=by rw[noList];exact noInts l
theorem z4c{l:List Int}{n:Nat}(e:Ends l)(h:Pl n (zc l)):l.length<=n:=by
 refine Decidable.byContradiction fun hn=>?_
 exact e (by omega) (h _ (by omega))
theorem z4s{f R R':Nat->Int}{k:Nat}(h:∀ j,j<=k->R j=R' j):∀ n,cvz f R k n=cvz f R' k n
 | 0=>rfl
 | n + 1=>by
  rw[cvz,cvz,z4s h n]
  unfold shz
  split
  ·rw[h _ (by omega)]
  ·rfl
section
variable {F0 F2 F4 F5 Fp:FE} {c1 c3 c6:FT} {m:Men} {rd d0 d2 d4 d5 dp:D} {s:Sx} {n:Int}
theorem z8k(h0:F0 [.val m.d,.val rd,.non,.non,.non,.non] s=some (d0,s))(h1:c1 [.val m.d,.val rd,.val d0,.non,.non,.non] s=some (false,s))(h2:F2 [.val m.d,.val rd,.val d0,.non,.non,.non] s=some (d2,s))(h3:c3 [.val m.d,.val rd,.val d0,.val d2,.non,.non] s=some (true,s))(hn:m.n=.int n) :
  gGrow F0 c1 F2 c3 F4 F5 c6 Fp m rd s=some ({m with n:=.int (n + 1)},s):=by
 unfold gGrow
 rw[h0]
 simp only[Option.bind_some]
 rw[h1]
 simp only[Option.bind_some]
 rw[if_neg Bool.false_ne_true,h2]
 simp only[Option.bind_some]
 rw[h3]
 simp only[Option.bind_some]
 rw[if_pos trivial,hn]
theorem z9A(h0:F0 [.val m.d,.val rd,.non,.non,.non,.non] s=some (d0,s))(h1:c1 [.val m.d,.val rd,.val d0,.non,.non,.non] s=some (false,s))(h2:F2 [.val m.d,.val rd,.val d0,.non,.non,.non] s=some (d2,s))(h3:c3 [.val m.d,.val rd,.val d0,.val d2,.non,.non] s=some (false,s))(h4:F4 [.val m.d,.val rd,.val d0,.val d2,.non,.non] s=some (d4,s))(h5:F5 [.val m.d,.val rd,.val d0,.val d2,.val d4,.non] s=some (d5,s))(h6:c6 [.val m.d,.val rd,.val d0,.val d2,.val d4,.val d5] s=some (false,s))(n4:noList d4=true)(hn:m.n=.int n) :
  gGrow F0 c1 F2 c3 F4 F5 c6 Fp m rd s=some ({m with n:=.int (n + 1),b:=d4},s):=by
 unfold gGrow
 rw[h0]
 simp only[Option.bind_some]
 rw[h1]
 simp only[Option.bind_some]
 rw[if_neg Bool.false_ne_true,h2]
 simp only[Option.bind_some]
 rw[h3]
 simp only[Option.bind_some]
 rw[if_neg Bool.false_ne_true,h4]
 simp only[Option.bind_some]
 rw[h5]
 simp only[Option.bind_some]
 rw[h6]
 simp only[Option.bind_some]
 rw[if_pos n4,if_neg Bool.false_ne_true,hn]
theorem z9B(h0:F0 [.val m.d,.val rd,.non,.non,.non,.non] s=some (d0,s))(h1:c1 [.val m.d,.val rd,.val d0,.non,.non,.non] s=some (false,s))(h2:F2 [.val m.d,.val rd,.val d0,.non,.non,.non] s=some (d2,s))(h3:c3 [.val m.d,.val rd,.val d0,.val d2,.non,.non] s=some (false,s))(h4:F4 [.val m.d,.val rd,.val d0,.val d2,.non,.non] s=some (d4,s))(h5:F5 [.val m.d,.val rd,.val d0,.val d2,.val d4,.non] s=some (d5,s))(h6:c6 [.val m.d,.val rd,.val d0,.val d2,.val d4,.val d5] s=some (true,s))(n4:noList d4=true)
  (h7:Fp [.val m.d,.val rd,.val d0,.val d2,.val d4,.val d5] s=some (dp,s)) (np:noList dp=true) (n2:noList d2=true) (hl:m.rs.length < 1000) :
  gGrow F0 c1 F2 c3 F4 F5 c6 Fp m rd s=some ({m with rs:=m.rs++[dp],l:=m.b,u:=d2,n:=.int 1,b:=d4},s):=by
 unfold gGrow
 rw[h0]
 simp only[Option.bind_some]
 rw[h1]
 simp only[Option.bind_some]
 rw[if_neg Bool.false_ne_true,h2]
 simp only[Option.bind_some]
 rw[h3]
 simp only[Option.bind_some]
 rw[if_neg Bool.false_ne_true,h4]
 simp only[Option.bind_some]
 rw[h5]
 simp only[Option.bind_some]
 rw[h6]
 simp only[Option.bind_some]
 rw[if_pos n4,if_pos trivial,h7]
 simp only[Option.bind_some]
 rw[if_pos ⟨np,n2,hl⟩]
end
structure Gs(p:Int)(R:Nat->Int)(rs0:List D)(C B:List Int)(b:Int)(L n N:Nat):Prop where
 rC:Rs p C
 rB:Rs p B
 eC:Ends C
 eB:Ends B
 hb:0<=b/\b < p
 lr:rs0.length<=N
 S:Bm p R (zc C) (zc B) b L n N
theorem Gs.lens{p:Int}{R:Nat->Int}{rs0:List D}{C B:List Int}{b:Int}{L n N:Nat}(G:Gs p R rs0 C B b L n N):C.length<=L + 1/\B.length<=N + 1/\n<=N + 1:=by
 have h1:=z4c G.eC G.S.g.pl
 rcases G.S.la with ⟨a,b,c⟩ | ⟨LB,NB,a,b,c,d⟩
 ·have:=z4c G.eB c
  omega
 ·have:=z4c G.eB c.pl
  have:=G.S.m0
  omega
def menG(p:Int)(rs0:List D)(a:Int)(C B:List Int)(b:Int)(L n:Nat):Men:=men p (rs0++[.tuple [.int a,.int L]]) C B b n
theorem zbb{p:Int}{R:Nat->Int}{rs0:List D}{a:Int}{C B l:List Int}{b:Int}{L n N:Nat}{rd:D}(s:Sx)(hp:Prm p)(G:Gs p R rs0 C B b L n N)(hr:seqOf rd=some (l.map .int))(rl:Rs p l)(ll:l.length=N + 1)(lR:∀ k,k<=N->zc l k=R k)(hN:N < 40) :
  ∃ rs1 a1 C1 B1 b1 L1 n1,z7k (menG p rs0 a C B b L n) rd s=some (menG p rs1 a1 C1 B1 b1 L1 n1,s)/\Gs p R rs1 C1 B1 b1 L1 n1 (N + 1):=by
 have ht:=hp.two
 obtain⟨lC,lB,ln⟩:=G.lens
 have hLN:=G.S.ln
 have g1:gSubI (.int (N + 1:Nat)) (.int 1)=some (.int N):=by rw[z5v (by omega)];rfl
 have h0:z83 [.val (menG p rs0 a C B b L n).d,.val rd,.non,.non,.non,.non] s=some (.int N,s):=z9 (a:=.int (N + 1:Nat)) (b:=.int 1) (zn (a:=rd) rfl (by rw[z09 hr,List.length_map,ll])) rfl g1
 have h1:z84 [.val (menG p rs0 a C B b L n).d,.val rd,qI N,.non,.non,.non] s=some (false,s):=z0F (z9 (a:=.int N) (b:=.int (-1)) rfl (zn (a:=(menG p rs0 a C B b L n).d) rfl zb8) (by simp only[gLe,gI,if_true,decide_eq_false (show ¬ (N:Int)<=-1 by omega)]))
 have hw:=z5F (p:=p) (w:=C) (l:=l) (wd:=qt C) (rd:=rd) (z:=(N:Int)) s hp rfl hr G.rC rl (by omega)
 have h2:z85 [.val (menG p rs0 a C B b L n).d,.val rd,qI N,.non,.non,.non] s=some (.int ((wsum C l (N:Int) C.length).fmod p),s) :=
  zk (ds:=[fieldP p,.tuple (C.map .int),rd,.int N]) (z7 (zn (a:=(menG p rs0 a C B b L n).d) rfl z6L) (z7 (zn (a:=(menG p rs0 a C B b L n).d) rfl z51) (z7 (F:=fVar 1) rfl (z7 (F:=fVar 2) (FL:=aNil) rfl rfl)))) hw
 have hv:wsum C l (N:Int) C.length=cvz (zc C) R N (L + 1):=by
  rw[z3r,z4s (R':=R) lR,z1y (z5S C) lC]
 rw[hv]at h2
 have dr:=z14 (p:=p) (x:=cvz (zc C) R N (L + 1)) (by omega)
 have dd:p∣cvz (zc C) R N (L + 1) - (cvz (zc C) R N (L + 1)).fmod p:=by
  obtain⟨x,hx⟩:=z0T (p:=p) (x:=cvz (zc C) R N (L + 1)) (by omega)
  exact⟨-x,by grind⟩
 generalize (cvz (zc C) R N (L + 1)).fmod p=d at h2 dr dd
 have h3:z86 [.val (menG p rs0 a C B b L n).d,.val rd,qI N,qI d,.non,.non] s=some (decide (d=0),s):=z0F (z9 (a:=.int d) (b:=.int 0) rfl (zn (a:=fieldP p) (zn (a:=(menG p rs0 a C B b L n).d) rfl z6L) (fldN p)) (z1b d 0))
 by_cases hd:d=0
 ·rw[decide_eq_true hd]at h3
  refine⟨rs0,a,C,B,b,L,n + 1,(z8k h0 h1 h2 h3 (n:=(n:Int)) rfl).trans rfl,⟨G.rC,G.rB,G.eC,G.eB,G.hb,by have:=G.lr;omega,G.S.right (by rw[hd]at dd;obtain⟨x,hx⟩:=dd;exact⟨x,by omega⟩)⟩⟩
 ·rw[decide_eq_false hd]at h3
  obtain⟨C1,eC,rC1,nC1,q1,q2⟩:=z9z (rs:=rs0++[.tuple [.int a,.int L]]) (d:=d) s hp G.hb dr G.rC G.rB (by omega) (by omega) G.S.m0 (by omega)
  have h4:z87 [.val (menG p rs0 a C B b L n).d,.val rd,qI N,qI d,.non,.non] s=some (.tuple (C1.map .int),s):=methM (Fo:=fVar 0) rfl (z7 (F:=fVar 3) (FL:=aNil) rfl rfl) eC rfl
  have hh:∀ {δ:Sl},δ[0]?=some (.val (menG p rs0 a C B b L n).d)->fMeth [("Mender",zu)] "height" (fVar 0) aNil δ s=some (.int L,s):=fun{δ} h=>methM (Fo:=fVar 0) (by unfold fVar;rw[h];rfl) rfl (z4r s) rfl
  have h5:z88 [.val (menG p rs0 a C B b L n).d,.val rd,qI N,qI d,qT C1,.non] s=some (.int (N + 1 - L:Nat),s) :=
   z9 (a:=.int ((N:Int) - (-1))) (b:=.int L) (z9 (a:=.int N) (b:=.int (-1)) rfl (zn (a:=(menG p rs0 a C B b L n).d) rfl zb8) rfl) (hh rfl) (by
    simp only[gSubI,gI,if_true]
    congr 2;omega)
  have h6:z89 [.val (menG p rs0 a C B b L n).d,.val rd,qI N,qI d,qT C1,qI (N + 1 - L:Nat)] s=some (decide (2 * L<=N),s) :=
   z0F (z9 (a:=.int (N + 1 - L:Nat)) (b:=.int L) rfl (hh rfl) (by
    simp only[gGt,gI,if_true]
    congr 2
    exact decide_eq_decide.mpr ⟨fun h=>by omega,fun h=>by omega⟩))
  have M:Mend p (zc C) (zc B) (zc C1) b d b d n:=⟨q1,q2,G.S.bb,⟨0,by grind⟩⟩
  by_cases hL:2 * L<=N
  ·rw[decide_eq_true hL]at h6
   have h7:zaD [.val (menG p rs0 a C B b L n).d,.val rd,qI N,qI d,qT C1,qI (N + 1 - L:Nat)] s=some (.tuple [.int (N + 1:Nat),.int (N + 1 - L:Nat)],s) :=
    z1x (z7 (z9 (a:=.int N) (b:=.int 1) rfl rfl (z2I N)) (z7 (F:=fVar 5) (FL:=aNil) rfl rfl)) (small2 _ _)
   have lr:=G.lr
   refine⟨rs0++[.tuple [.int a,.int L]],((N + 1:Nat):Int),C1,C,d,N + 1 - L,1,(z9B h0 h1 h2 h3 h4 h5 h6 (noTup C1) h7 rfl rfl (by show(rs0++[PyData.tuple [.int a,.int L]]).length < 1000;rw[List.length_append];simp;omega)).trans rfl,⟨rC1,G.rC,nC1,G.eC,dr,by rw[List.length_append];simp;omega,G.S.risen hp dd (z5C dr.1 dr.2 hd) M hL⟩⟩
  ·rw[decide_eq_false hL]at h6
   refine⟨rs0,a,C1,B,b,L,n + 1,(z9A h0 h1 h2 h3 h4 h5 h6 (noTup C1) (n:=(n:Int)) rfl).trans rfl,⟨rC1,G.rB,nC1,G.eB,G.hb,by have:=G.lr;omega,G.S.stay hp dd M (by omega)⟩⟩
structure Sh(p:Int)(R:Nat->Int)(L N:Nat)(T B:List Int):Prop where
 rT:Rs p T
 rB:Rs p B
 nT:Ends T
 nB:Ends B
 b0:0 < B.length
 one:zc B 0=1
 lT:T.length<=L
 lB:B.length<=L + 1
 tl:∀ k,k < N->p∣cvz (zc B) R k B.length - zc T k
 mi:∀ f L',Gen p R f L' N->¬ p∣f 0->L<=L'
theorem zgV{p:Int}(hp:Prm p){L N0:Nat}{R:Nat->Int}{T B:List Int}(F:Sh p R L N0 T B){f:List Int}(rf:Rs p f)(nf:Ends f)(f0:0 < f.length)(dB:DvF p (zc f) (zc B))(dT:DvF p (zc f) (zc T)):f.length=1:=by
 have ht:=hp.two
 refine Decidable.byContradiction fun hne=>?_
 obtain⟨N,q,pq,hq⟩:=dB.ends
 obtain⟨M,t,pt,htq⟩:=dT.ends
 obtain⟨d,hd⟩:∃ d,f.length=d + 2:=⟨f.length - 2,by omega⟩
 have ul:=rf.zc (by omega) (d + 1)
 have nl:=z5C ul.1 ul.2 (by have:=nf f0;rwa [hd]at this)
 have pf:Pl (d + 1 + 1) (zc f):=fun k hk=>z0V (by omega)
 have qd:∀ i,B.length<=i + (d + 1)->p∣q i:=fun i hi=>by
  by_cases hN:i < N
  ·exact qdeg hp nl pf N q (zc B) hq (fun k hk=>by rw[z0V hk];exact⟨0,by omega⟩) i hN hi
  ·rw[pq i (by omega)];exact⟨0,by omega⟩
 have td:∀ i,T.length<=i + (d + 1)->p∣t i:=fun i hi=>by
  by_cases hN:i < M
  ·exact qdeg hp nl pf M t (zc T) htq (fun k hk=>by rw[z0V hk];exact⟨0,by omega⟩) i hN hi
  ·rw[pt i (by omega)];exact⟨0,by omega⟩
 have q0:p∣1 - q 0 * zc f 0:=by
  have h:=hq 0
  rw[F.one]at h
  cases N with
  | zero =>
   rw[pq 0 (Nat.zero_le _)]
   rw[cvz]at h
   obtain⟨x,hx⟩:=h
   exact⟨x,by omega⟩
  | succ N =>
   obtain⟨x,hx⟩:=h
   obtain⟨y,hy⟩:=z5I (p:=p) (f:=q) (c:=zc f) (k:=0) (fun j hj=>absurd hj (Nat.not_lt_zero _)) N
   exact⟨x + y,by grind⟩
 have one':¬ p∣(1:Int):=fun z=>absurd (z0e (by decide) (by omega) z) (by decide)
 have nf0:¬ p∣zc f 0:=fun⟨x,hx⟩=>one' (by
  obtain⟨y,hy⟩:=q0
  exact⟨y + q 0 * x,by rw[hx]at hy;grind⟩)
 have nq0:¬ p∣q 0:=fun⟨x,hx⟩=>one' (by
  obtain⟨y,hy⟩:=q0
  exact⟨y + x * zc f 0,by rw[hx]at hy;grind⟩)
 have fq:∀ k,cvz (zc f) (fun k=>cvz q R k N) k f.length=cvz (fun k=>cvz q (zc f) k N) R k (f.length + N):=fun k=>by
  rw[z7r (L:=f.length + N) pq f.length (Nat.le_refl _)]
  congr 1
  funext i
  exact z6G (z5S f) pq
 have key:∀ k,k < N0->p∣cvz q R k N - t k:=fun k0 hk0=>by
  refine zcf hp (f:=zc f) (a:=fun k=>cvz q R k N) (b:=t) (N:=d + 1) (K:=k0) nf0 (fun k hk=>?_) k0 (Nat.le_refl _)
  rw[show d + 1 + 1=f.length by omega]
  obtain⟨x,hx⟩:=F.tl k (by omega)
  obtain⟨y,hy⟩:=htq k
  have e1:=fq k
  have e2:p∣cvz (fun k=>cvz q (zc f) k N) R k (f.length + N) - cvz (zc B) R k (f.length + N):=z5D (fun i=>by
   obtain⟨z,hz⟩:=hq i
   exact⟨-z,by grind⟩) (fun i=>⟨0,by omega⟩) _
  have e3:p∣cvz (zc B) R k (f.length + N) - cvz (zc B) R k B.length:=by
   by_cases hl:B.length<=f.length + N
   ·rw[z1y (z5S B) hl];exact⟨0,by omega⟩
   ·exfalso
    have hb:=hq (B.length - 1)
    rw[z8g (M:=f.length - 1) (n:=N) (by rw[Nat.sub_add_cancel f0];exact z5S f) (by omega) N (Nat.le_refl _)]at hb
    have hu:=F.rB.zc (by omega) (B.length - 1)
    exact z5C hu.1 hu.2 (F.nB F.b0) (by obtain⟨z,hz⟩:=hb;exact⟨z,by omega⟩)
  obtain⟨z2,hz2⟩:=e2
  obtain⟨z3,hz3⟩:=e3
  have e4:cvz (zc f) t k f.length=cvz t (zc f) k M:=z6G (z5S f) pt
  rw[e4,e1]
  exact⟨z2 + z3 + x + y,by grind⟩
 have lB:=F.lB
 have lT:=F.lT
 by_cases hL:L=0
 ·exact nq0 (qd 0 (by omega))
 ·have:=F.mi (fun i=>if i < L then q i else 0) (L - 1) ⟨fun k hk=>if_neg (by omega),fun i h1 h2=>?_⟩ (by rw[if_pos (by omega)];exact nq0)
  ·omega
  ·rw[show L - 1 + 1=L by omega]
   have c1:cvz (fun i=>if i < L then q i else 0) R i (max L N)=cvz (fun i=>if i < L then q i else 0) R i L:=z1y (fun k hk=>if_neg (by omega)) (by omega)
   have c2:cvz q R i (max L N)=cvz q R i N:=z1y pq (by omega)
   obtain⟨x,hx⟩:=z5D (p:=p) (a:=fun i=>if i < L then q i else 0) (a':=q) (b:=R) (b':=R) (k:=i) (fun j=>by
    split
    ·exact⟨0,by omega⟩
    ·obtain⟨y,hy⟩:=qd j (by omega)
     exact⟨-y,by grind⟩) (fun _=>⟨0,by omega⟩) (max L N)
   obtain⟨y,hy⟩:=key i h2
   obtain⟨z,hz⟩:=td i (by omega)
   rw[c1,c2]at hx
   exact⟨x + y + z,by grind⟩
theorem mapint{f:Nat->Int}{k:Nat}:(rng 0 k).map (fun d=>match d with | .int z=>PyData.int (f z.toNat) | d=>d)=((List.range k).map f).map .int:=by
 unfold rng
 rw[List.map_map,List.map_map]
 apply List.map_congr_left
 intro a _
 simp
theorem z52{T:Tgt}{F:FE}{δc:Sl}{s:Sx}{f:Nat->Int}{k:Nat}(h:∀ j,j < k->∃ δ1,T.run (.int j) δc=some δ1/\F δ1 s=some (.int (f j),s)):compD T fTrue F δc (rng 0 k) s=some (((List.range k).map f).map .int,s):=by
 rw[<- mapint]
 refine z4h (rng 0 k) fun d hd=>?_
 obtain⟨j,rfl,hj⟩:=zaK d hd
 obtain⟨δ1,e1,e2⟩:=h j hj
 exact⟨δ1,e1,rfl,by rw[e2];simp⟩
theorem zbc{k:Nat}{fr:List Nat}{Fi:FI}{T:Tgt}{Ft:FT}{F:FE}{δ:Sl}{s s1 s2:Sx}{ds xs:List D}(h:Fi δ s=some (ds,s1))(hs:ds.length<=1000)(hc:compD T Ft F (compDl k fr δ) ds s1=some (xs,s2)):fComp k fr Fi T Ft F δ s=some (xs,s2):=by
 unfold fComp
 rw[h]
 simp only[Option.bind_some]
 rw[if_pos (zQ hs),hc]
theorem zbd{i:Nat}{F:FO}{δ:Sl}{s s1:Sx}{xs:List D}(h:F δ s=some (xs,s1)):sSetL i F δ s=some (.next (δ.set i (.val (.list xs))),s1):=by
 unfold sSetL;rw[h];rfl
theorem zcW{f:Nat->Int}{k j:Nat}:zc ((List.range k).map f) j=if j < k then f j else 0:=by
 unfold zc
 rw[List.getD_eq_getElem?_getD,List.getElem?_map]
 by_cases h:j < k
 ·rw[List.getElem?_range h,if_pos h];rfl
 ·rw[List.getElem?_eq_none (by simpa using h),if_neg h];rfl
theorem cutk{d:D}{l:List Int}(k:Nat)(h:seqOf d=some (l.map .int)):∃ d',gSlD d (some (k:Int)) none=some d'/\seqOf d'=some ((l.drop k).map .int):=by
 have e:L3.cutD (l.map PyData.int) (some (k:Int)) none=(l.drop k).map .int:=by
  unfold L3.cutD
  rw[HT.sIx_none,HT.sIx_nat,List.length_map,List.map_drop]
  by_cases hk:k<=l.length
  ·rw[Nat.min_eq_left hk,List.take_of_length_le (by simp)]
  ·rw[Nat.min_eq_right (by omega),List.drop_of_length_le (by simp),List.drop_of_length_le (by simp;omega),List.take_nil]
 cases d with
 | list xs=>cases h;exact⟨_,rfl,congrArg some e⟩
 | tuple xs=>cases h;exact⟨_,rfl,congrArg some e⟩
 | _=>cases h
theorem zcl{p:Int}{td bd:D}{below:List Int}{a:Nat}(s:Sx)(hb:seqOf bd=some (below.map .int))(ha:a < below.length)(hz:∀ j,j < a->zc below j=0)(hn:zc below a≠0):∀ (k j:Nat),j + k=a ->
  whileN (asB (f2 gEq (f2 gIx (fVar 2) (fVar 3)) (f1 (gFld ["PrimeField"] "nought") (fVar 0)))) (sAug 3 gAddI (fC (.int 1))) (k + 1) [qF p,.val td,.val bd,qI j,.non] s=some (.next [qF p,.val td,.val bd,qI a,.non],s):=by
 have tt:∀ j,j < below.length->asB (f2 gEq (f2 gIx (fVar 2) (fVar 3)) (f1 (gFld ["PrimeField"] "nought") (fVar 0))) [qF p,.val td,.val bd,qI j,.non] s=some (decide (zc below j=0),s):=fun j hj =>
  z0F (z9 (a:=.int (zc below j)) (b:=.int 0) (s1:=s) (z9 (a:=bd) (b:=.int j) (s1:=s) rfl rfl (z0X hb hj)) (zn (a:=fieldP p) rfl (fldN p)) (z1b _ _))
 intro k
 induction k with
 | zero =>
  intro j hj
  obtain rfl:j=a:=by omega
  exact z0u ((tt j ha).trans (by rw[decide_eq_false hn]))
 | succ k ih =>
  intro j hj
  refine z16 ((tt j (by omega)).trans (by rw[decide_eq_true (hz j (by omega))])) (δ':=[qF p,.val td,.val bd,qI (j + 1:Nat),.non]) (s':=s) rfl (ih (j + 1) (by omega))
theorem settled2{p:Int}{td bd:D}{top below:List Int}{a:Nat}(s:Sx)(hp:Prm p)(ht':seqOf td=some (top.map .int))(hb:seqOf bd=some (below.map .int))(r1:Rs p top)(r2:Rs p below)(l1:top.length<=100)(l2:below.length<=100)(ha:a < below.length)(hz:∀ j,j < a->zc below j=0)(hn:zc below a≠0) :
  ∃ T B:List Int,z18 [fieldP p,td,bd] s=some (.tuple [.tuple (T.map .int),.tuple (B.map .int)],s)/\Rs p T/\Rs p B/\zc B 0=1/\T.length=top.length - a/\B.length=below.length - a/\(∀ k,p∣zc T k * zc below a - zc top (a + k))/\∀ k,p∣zc B k * zc below a - zc below (a + k):=by
 have ht:=hp.two
 have hu:=r2.zc (by omega) a
 have rd:∀ {l:List Int},Rs p l->Rs p (l.drop a):=fun h x hx=>h x (List.mem_of_mem_drop hx)
 obtain⟨T,eT,hT,lT,dT⟩:=zaQ (p:=p) (b:=zc below a) (Fm:=fMeth [("PrimeField",zw)] "divided" (fVar 2) (aCons (fVar 0) (aCons (fVar 1) aNil))) hp ⟨by omega,hu.2⟩ [.non,qI (zc below a),qF p] s
  (fun x=>⟨[qI x,qI (zc below a),qF p],rfl,methP (p:=p) (Fo:=fVar 2) rfl (z7 (F:=fVar 0) rfl (z7 (F:=fVar 1) (FL:=aNil) rfl rfl)) rfl rfl⟩) (top.drop a) (rd r1)
 obtain⟨B,eB,hB,lB,dB⟩:=zaQ (p:=p) (b:=zc below a) (Fm:=fMeth [("PrimeField",zw)] "divided" (fVar 2) (aCons (fVar 0) (aCons (fVar 1) aNil))) hp ⟨by omega,hu.2⟩ [.non,qI (zc below a),qF p] s
  (fun x=>⟨[qI x,qI (zc below a),qF p],rfl,methP (p:=p) (Fo:=fVar 2) rfl (z7 (F:=fVar 0) rfl (z7 (F:=fVar 1) (FL:=aNil) rfl rfl)) rfl rfl⟩) (below.drop a) (rd r2)
 have dT':∀ k,p∣zc T k * zc below a - zc top (a + k):=fun k=>by have:=dT k;rwa [z6I]at this
 have dB':∀ k,p∣zc B k * zc below a - zc below (a + k):=fun k=>by have:=dB k;rwa [z6I]at this
 rw[List.length_drop]at lT lB
 refine⟨T,B,z0d (n:=3) (m:=2) (G:=z2f) rfl ?_,hT,hB,?_,lT,lB,dT',dB'⟩
 ·show z2f [qF p,.val td,.val bd,.non,.non] s=_
  obtain⟨t',et',st'⟩:=cutk a ht'
  obtain⟨b',eb',sb'⟩:=cutk a hb
  have a2:z3y [qF p,.val td,.val bd,qI 0,.non] s=some (.next [qF p,.val td,.val bd,qI a,.non],s):=z0x (zcl (p:=p) (td:=td) s hb ha hz hn a 0 (by omega)) (by unfold fuel;omega)
  have i1:iSeq (fSl (fVar 1) (pInt (fVar 3)) pNo) [qF p,.val td,.val bd,qI a,qI (zc below a)] s=some ((top.drop a).map .int,s):=by
   show(((gSlD td (some (a:Int)) none).map _).bind _)=_
   rw[et']
   show(seqOf t').map _=_
   rw[st'];rfl
  have i2:iSeq (fSl (fVar 2) (pInt (fVar 3)) pNo) [qF p,.val td,.val bd,qI a,qI (zc below a)] s=some ((below.drop a).map .int,s):=by
   show(((gSlD bd (some (a:Int)) none).map _).bind _)=_
   rw[eb']
   show(seqOf b').map _=_
   rw[sb'];rfl
  have c1:asL z3z [qF p,.val td,.val bd,qI a,qI (zc below a)] s=_:=z28 i1 (by simp;omega) eT
  have c2:asL z3A [qF p,.val td,.val bd,qI a,qI (zc below a)] s=_:=z28 i2 (by simp;omega) eB
  unfold z2f
  exact zm (δ1:=[qF p,.val td,.val bd,qI 0,.non]) (s1:=s) rfl (zm a2 (zm (zE (z9 (a:=bd) (b:=.int a) rfl rfl (z0X hb ha))) (z0n (z1x (z7 (zn (g:=gTuple) (a:=ql T) (d:=qt T) c1 rfl) (z7 (FL:=aNil) (zn (g:=gTuple) (a:=ql B) (d:=qt B) c2 rfl) rfl)) (small2 _ _)))))
 ·have h1:=hB.zc (by omega) 0
  have h2:p∣zc B 0 - 1:=by
   refine hp.dvd (b:=zc below a) ?_ (z5C hu.1 hu.2 hn)
   have:=dB' 0
   rw[Nat.add_zero]at this
   rw[show(zc B 0 - 1) * zc below a=zc B 0 * zc below a - zc below a by grind]
   exact this
  exact zcS h1 ⟨by decide,by omega⟩ h2
theorem zeU{p:Int}(hp:0 < p){f:Nat->Int}{k j:Nat}:p∣zc (tz ((List.range k).map fun i=>(f i).fmod p)) j - (if j < k then f j else 0):=by
 rw[zaM,zcW]
 split
 ·exact z0T hp
 ·exact⟨0,by omega⟩
def nts:List Int->Nat
 | []=>0
 | a::l=>if a=0 then nts l + 1 else 0
theorem zcX:∀ l,nts l<=l.length
 | []=>Nat.le_refl _
 | a::l=>by
  rw[nts]
  split
  ·have:=zcX l;simp;omega
  ·omega
theorem zcY:∀ (l:List Int),nts l < l.length->zc l (nts l)≠0
 | [],h=>absurd h (Nat.not_lt_zero _)
 | a::l,h=>by
  rw[nts]at h ⊢
  by_cases ha:a=0
  ·rw[if_pos ha]at h ⊢
   exact zcY l (by simp at h;omega)
  ·rw[if_neg ha];exact ha
theorem z6c{T:Tgt}{Ft:FT}{F:FE}{δc:Sl}{P:D->Bool}{f:D->D}{s:Sx}:∀ ds:List D,(∀ d∈ds,∃ δ1,T.run d δc=some δ1/\Ft δ1 s=some (P d,s)/\F δ1 s=some (f d,s))->compD T Ft F δc ds s=some ((ds.filter P).map f,s)
 | [],_=>rfl
 | d::ds,h=>by
  obtain⟨δ1,e1,e2,e3⟩:=h d List.mem_cons_self
  have ih:=z6c ds fun x hx=>h x (List.mem_cons_of_mem _ hx)
  unfold compD
  rw[e1]
  simp only[Option.bind_some,e2]
  cases hP:P d with
  | true=>rw[if_pos rfl,List.filter_cons_of_pos hP];simp only[e3,Option.bind_some,ih,Option.map_some,List.map_cons]
  | false=>rw[if_neg (by decide),List.filter_cons_of_neg (by rw[hP];decide),ih]
def lstN(l:List Int):List Nat:=((List.range l.length).filter fun k=>decide (zc l k≠0))++[l.length]
theorem z7v:∀ l:List Int,∃ r,lstN l=nts l::r/\∀ x∈r,nts l<=x
 | []=>⟨[],rfl,fun _ z=>nomatch z⟩
 | a::l=>by
  have e:List.range (a::l).length=0::(List.range l.length).map Nat.succ:=by rw[List.length_cons,List.range_succ_eq_map]
  by_cases ha:a=0
  ·obtain⟨r,e2,h2⟩:=z7v l
   have e3:lstN (a::l)=(lstN l).map Nat.succ:=by
    unfold lstN
    rw[e,List.filter_cons_of_neg (by simpa [show zc (a::l) 0=a from rfl] using ha),List.filter_map,List.map_append]
    rfl
   rw[e3,e2,nts,if_pos ha]
   refine⟨r.map Nat.succ,rfl,fun x hx=>?_⟩
   obtain⟨y,hy,rfl⟩:=List.mem_map.mp hx
   exact Nat.succ_le_succ (h2 y hy)
  ·unfold lstN
   rw[e,List.filter_cons_of_pos (by simpa [show zc (a::l) 0=a from rfl] using ha),nts,if_neg ha]
   exact⟨_,rfl,fun _ _=>Nat.zero_le _⟩
theorem z7w{bt:Nat->Nat->Bool}:∀ n,(∀ k,k<=n->bt k 0=false)->argBest bt n=0
 | 0,_=>rfl
 | n + 1,h=>by rw[argBest,z7w n (fun k hk=>h k (by omega)),if_neg (by rw[h _ (Nat.le_refl _)];decide)]
theorem z9C{n:Nat}{r:List Nat}(h:∀ x∈r,n<=x):gMinL (.list (((n::r).map fun(k:Nat)=>(k:Int)).map PyData.int))=some (.int n):=by
 unfold gMinL
 dsimp only
 rw[z3l]
 show(((((n::r).map fun(k:Nat)=>(k:Int)))[leastAt ((n::r).map fun(k:Nat)=>(k:Int))]?).map fun n=>PyData.int n)=_
 have e:leastAt ((n::r).map fun(k:Nat)=>(k:Int))=0:=z7w _ (fun k hk=>by
  refine decide_eq_false ?_
  cases k with
  | zero=>omega
  | succ k =>
   have hk':k < r.length:=by rw[List.length_map,List.length_cons]at hk;omega
   show ¬ (r.map fun(k:Nat)=>(k:Int)).getD k 0 < (n:Int)
   rw[List.getD_eq_getElem?_getD,List.getElem?_map,List.getElem?_eq_getElem hk']
   have:=h _ (List.getElem_mem hk')
   show ¬ ((r[k]:Nat):Int) < (n:Int)
   omega)
 rw[e];rfl
def dif(p:Int)(T B l:List Int):List Int:=(List.range l.length).map fun k=>zc (ser p T B l.length) k - zc l k
theorem z8l{p:Int}{T B l:List Int}:(dif p T B l).length=l.length:=by simp[dif]
theorem zcZ{p:Int}{T B l:List Int}{k:Nat}(h:k < l.length):zc (dif p T B l) k=zc (ser p T B l.length) k - zc l k:=by
 unfold dif
 rw[zcW,if_pos h]
theorem z9D{p:Int}{T B l:List Int}{rd:D}(s:Sx)(hp:Prm p)(rB:Rs p B)(lB:B.length<=100)(hB:0 < B.length)(hr:seqOf rd=some (l.map .int))(hl:l.length<=100) :
  z0g [.int p,rd,oneD T B] s=some (.int (nts (dif p T B l):Int),s):=by
 have ht:=hp.two
 generalize eD:dif p T B l=dl
 have lD:dl.length=l.length:=eD ▸ z8l
 obtain⟨r,er,hr'⟩:=z7v dl
 have ln:gLen rd=some (.int (l.length:Int)):=by rw[z09 hr,List.length_map]
 have es:=z6b (T:=T) (B:=B) (many:=l.length) s hp rB lB hB (by omega)
 have c:asL z2i [qI p,.val rd,.val (oneD T B),qL (ser p T B l.length)] s=some (.list ((((List.range dl.length).filter fun k=>decide (zc dl k≠0)).map fun(k:Nat)=>(k:Int)).map PyData.int),s):=by
  have ei:iRange1 (f1 gLen (fVar 1)) [qI p,.val rd,.val (oneD T B),qL (ser p T B l.length)] s=some (rng 0 dl.length,s):=by
   rw[lD]
   exact z07 (n:=l.length) (zn (a:=rd) rfl ln) (by omega)
  have cf:=z6c (T:=.one 0) (Ft:=asB (f2 gNe (f2 gIx (fVar 1) (fVar 0)) (f2 gIx (fVar 2) (fVar 0)))) (F:=fVar 0) (δc:=[.non,qL (ser p T B l.length),.val rd]) (s:=s) (P:=fun d=>match d with | .int k=>decide (zc dl k.toNat≠0) | _=>false) (f:=fun d=>d) (rng 0 dl.length) (fun d hd=>by
   obtain⟨k,rfl,hk⟩:=zaK d hd
   refine⟨[qI k,qL (ser p T B l.length),.val rd],rfl,?_,rfl⟩
   refine z0F (z9 (a:=.int (zc (ser p T B l.length) k)) (b:=.int (zc l k)) (s1:=s) (z9 (a:=ql (ser p T B l.length)) (b:=.int k) rfl rfl (z0X rfl (by rw[z3O];omega))) (z9 (a:=rd) (b:=.int k) rfl rfl (z0X hr (by omega))) ?_)
   show gNe (.int (zc (ser p T B l.length) k)) (.int (zc l k))=some (.bool (decide (zc dl (k:Int).toNat≠0)))
   rw[z7W,Int.toNat_natCast,<- decide_not,<- eD,zcZ (by omega)]
   rw[show decide (¬ zc (ser p T B l.length) k=zc l k)=decide (zc (ser p T B l.length) k - zc l k≠0) from decide_eq_decide.mpr (by omega)])
  have ex:((rng 0 dl.length).filter fun d=>match d with | .int k=>decide (zc dl k.toNat≠0) | _=>false).map (fun d=>d)=(((List.range dl.length).filter fun k=>decide (zc dl k≠0)).map fun(k:Nat)=>(k:Int)).map PyData.int:=by
   unfold rng
   rw[List.map_id',List.filter_map,List.map_map]
   have h1:((fun d:D=>match d with | .int k=>decide (zc dl k.toNat≠0) | _=>false) ∘ fun(k:Nat)=>PyData.int (0 + (k:Int)))=fun k=>decide (zc dl k≠0):=funext fun k=>by
    show decide (zc dl (0 + (k:Int)).toNat≠0)=_
    rw[Int.zero_add,Int.toNat_natCast]
   have h2:(fun(k:Nat)=>PyData.int (0 + (k:Int)))=PyData.int ∘ fun(k:Nat)=>(k:Int):=funext fun k=>by
    show PyData.int (0 + (k:Int))=PyData.int k
    rw[Int.zero_add]
   rw[h1,h2]
  rw[ex]at cf
  exact z28 ei (by rw[z1u];omega) cf
 refine z0d (n:=3) (m:=1) (G:=z12) rfl ?_
 show z12 [qI p,.val rd,.val (oneD T B),.non] s=_
 unfold z12
 refine zm (zE (zk (ds:=[.int p,oneD T B,.int (l.length:Int)]) (z7 (F:=fVar 0) rfl (z7 (F:=fVar 2) rfl (z7 (FL:=aNil) (zn (a:=rd) rfl ln) rfl))) (zdH es))) (z0n (zn (a:=.list (((nts dl::r).map fun(k:Nat)=>(k:Int)).map PyData.int)) (z9 c (z0S (z7 (FL:=aNil) (zn (a:=rd) rfl ln) rfl) (zQ (by simp))) ?_) (z9C hr')))
 rw[<- er]
 unfold lstN
 rw[catL (by
  have:=List.length_filter_le (fun k=>decide (zc dl k≠0)) (List.range dl.length)
  rw[List.length_range]at this
  simp only[List.length_map,List.length_cons,List.length_nil];omega),List.map_append,List.map_append,lD]
 rfl
theorem zeV{p:Int}{T B l:List Int}{A n:Nat}(hp:0 < p)(hB:0 < B.length)(h1:zc B 0=1)(rl:Rs p l)(hA:A<=n)(h:∀ k,k < A->tells p T B l k):∀ k,k < A->zc (ser p T B n) k=zc l k:=by
 intro k
 induction k using Nat.strongRecOn with
 | _ k ih =>
  intro hk
  have t1:=h k hk
  have t2:=zb2 (T:=T) (n:=n) hp hB h1 (show k < n by omega)
  obtain⟨b,hb⟩:∃ b,B.length=b + 1:=⟨B.length - 1,by omega⟩
  unfold tells at t1 t2
  rw[hb,z6J h1]at t1 t2
  rw[z4q (l':=l) (fun j hj=>ih j (by omega) (by omega))]at t2
  refine zcS ((z8Q hp T B n).zc hp k) (rl.zc hp k) ?_
  obtain⟨x,hx⟩:=t1
  obtain⟨y,hy⟩:=t2
  exact⟨y - x,by grind⟩
theorem zbe{p:Int}{T B l:List Int}{A:Nat}(hp:0 < p)(hB:0 < B.length)(h1:zc B 0=1)(rl:Rs p l)(hA:A<=l.length)(h:∀ k,k < A->tells p T B l k):A<=nts (dif p T B l):=by
 refine Decidable.byContradiction fun hn=>?_
 have hlt:nts (dif p T B l) < (dif p T B l).length:=by rw[z8l];omega
 refine zcY _ hlt ?_
 rw[zcZ (by omega),zeV hp hB h1 rl hA h _ (by omega)]
 omega
theorem zd0{p:Int}(hp:0 < p)(n:Nat):Rs p (List.replicate n 0):=fun x hx=>by
 rw[(List.mem_replicate.mp hx).2];omega
theorem zeW{p:Int}{a b:List Int}(ha:Rs p a)(hb:Rs p b):Rs p (a++b):=fun x hx=>(List.mem_append.mp hx).elim (ha x) (hb x)
theorem zbf{p:Int}{many n:Nat}(hp:Prm p)(h1:1<=many)(h24:many<=24)(s:Sx)(h:Good (n + 100) s) :
  ∃ (l:List Int) (s':Sx),z1n [.dict [],.int p,.int many] s=some (.list (l.map .int),s')/\Rs p l/\l.length=many/\Good n s':=by
 have ht:=hp.two
 obtain⟨w,s1,ew,hw,g1⟩:=z13 (n:=n + 99) (m:=6) h (by decide) (by decide)
 have a1:sSet 3 (fCall zg (aCons (fVar 0) (aCons (fC (.int 6)) aNil))) [qD,qI p,qI many,.non,.non,.non,.non,.non,.non] s=some (.next [qD,qI p,qI many,qI w,.non,.non,.non,.non,.non],s1):=zE (zk (ds:=[.dict [],.int 6]) rfl ew)
 have tw:∀ (i:Int),asB (f2 gEq (fVar 3) (fC (.int i))) [qD,qI p,qI many,qI w,.non,.non,.non,.non,.non] s1=some (decide ((w:Int)=i),s1):=fun i=>z0F (z9 (a:=.int w) (b:=.int i) (s1:=s1) rfl rfl (z1b _ _))
 suffices hh:∃ (l:List Int) (s':Sx),z0m [qD,qI p,qI many,.non,.non,.non,.non,.non,.non] s=some (.ret (ql l),s')/\Rs p l/\l.length=many/\Good n s' by
  obtain⟨l,s',e,h2,h3,h4⟩:=hh
  exact⟨l,s',z0d (n:=3) (m:=6) (G:=z0m) rfl e,h2,h3,h4⟩
 have hw4:w=0\/w=1\/w=2\/(3<=w/\w < 6):=by omega
 rcases hw4 with hw0 | hw1 | hw2 | hw3
 ·obtain⟨l,s2,e2,r2,l2,g2⟩:=z5H hp many n s1 (g1.mono (by omega))
  refine⟨l,s2,?_,r2,l2,g2⟩
  unfold z0m
  refine zm a1 (z6n (z5w ((tw 0).trans (by rw[decide_eq_true (by omega)])) (z0n (z28 (ds:=rng 0 many) (s1:=s1) (z07 (n:=many) rfl (by omega)) (by rw[z1u];omega) e2))))
 ·obtain⟨ah,s2,ea,ha,g2⟩:=z13 (n:=n + 98) (m:=many + 1) g1 (by omega) (by omega)
  obtain⟨l,s3,e3,r3,l3,g3⟩:=z5H hp (many - ah) n s2 (g2.mono (by omega))
  refine⟨List.replicate ah 0++l,s3,?_,zeW (zd0 (by omega) ah) r3,by simp;omega,g3⟩
  unfold z0m
  refine zm a1 (zm (z0z ((tw 0).trans (by rw[decide_eq_false (by omega)]))) (z6n (z5w ((tw 1).trans (by rw[decide_eq_true (by omega)])) (zm (zE (zk (ds:=[.dict [],.int (many + 1:Nat)]) (z7 (F:=fVar 0) rfl (z7 (FL:=aNil) (z9 rfl rfl (z2I many)) rfl)) ea)) (z0n (z9 (a:=.list (List.replicate ah (.int 0))) (b:=ql l) (s1:=s2) (z9 (a:=.list [.int 0]) (b:=.int ah) (s1:=s2) (z0S rfl (zQ (by simp))) rfl (z6B (by omega))) (z28 (ds:=rng 0 (many - ah)) (s1:=s2) (z07 (n:=many - ah) (z9 rfl rfl (z4p (by omega))) (by omega)) (by rw[z1u];omega) e3) ((catL (by simp;omega)).trans (by simp))))))))
 ·obtain⟨q,s2,eq,hq,g2⟩:=z13 (n:=n + 98) (m:=4) g1 (by decide) (by decide)
  obtain⟨δ',s3,e3,l,c6,hδ,r3,l3,g3⟩:=z8G (T:=.one 6) (G:=z37) (fun k δ s'=>∃ (l:List Int) (c6:Ce),δ=[qD,qI p,qI many,qI w,.non,qO l,c6,.non,.non]/\Rs p l/\l.length=many/\Good (n + 2 * k) s')
   (rng 0 q) [qD,qI p,qI many,qI w,.non,qO (List.replicate many 0),.non,.non,.non] s2 ⟨List.replicate many 0,.non,rfl,zd0 (by omega) many,by simp,g2.mono (by rw[z1u];omega)⟩
   (fun k d δ s' _ zgz=>by
    obtain⟨l,c6,hδ,rl,ll,gk⟩:=zgz
    subst hδ
    obtain⟨v,s4,ev,v0,v1,g4⟩:=z8b (M:=p) (n:=n + 2 * k + 1) (gk.mono (by omega)) (by omega) (by omega)
    obtain⟨j,s5,ej,hj,g5⟩:=z13 (n:=n + 2 * k) (m:=many) g4 (by omega) (by omega)
    refine⟨[qD,qI p,qI many,qI w,.non,qO l,.val d,.non,.non],[qD,qI p,qI many,qI w,.non,qO (l.set j v),.val d,.non,.non],s5,rfl,?_,l.set j v,_,rfl,rl.set v0 v1,by simp[ll],g5⟩
    have pa:L3.putAt (l.map .int) (.int j) (.int v)=some ((l.set j v).map PyData.int):=by
     rw[<- z3a]
     exact z8L (by rw[List.length_map];omega)
    exact z42 (zk (ds:=[.dict [],.int p]) rfl ev) (zk (ds:=[.dict [],.int many]) rfl ej) rfl pa)
  subst hδ
  refine⟨l,s3,?_,r3,l3,g3⟩
  unfold z0m
  refine zm a1 (zm (z0z ((tw 0).trans (by rw[decide_eq_false (by omega)]))) (zm (z0z ((tw 1).trans (by rw[decide_eq_false (by omega)]))) (z6n (z5w ((tw 2).trans (by rw[decide_eq_true (by omega)])) (zm (δ1:=[qD,qI p,qI many,qI w,.non,qO (List.replicate many 0),.non,.non,.non]) (s1:=s1) ?_ (zm (δ1:=[qD,qI p,qI many,qI w,.non,qO l,c6,.non,.non]) (s1:=s3) ?_ rfl))))))
  ·have:=zaF (z:=(many:Int)) (d:=.int 0) (by omega) (by omega)
   refine z27 (zaG (a:=.list [.int 0]) (b:=.int many) (s1:=s1) (z0S rfl (zQ (by simp))) rfl (this.trans ?_))
   simp
  ·unfold z38 sFor
   rw[z07 (n:=q) (zk (ds:=[.dict [],.int 4]) rfl eq) (by omega)]
   exact e3
 ·obtain⟨bl,s2,e2,r2,_,l2,g2⟩:=z8W (most:=many / 3) (n:=n + 32) hp (by omega) s1 (g1.mono (by omega))
  obtain⟨tp,s3,e3,r3,_,l3,g3⟩:=z8W (most:=many / 2) (n:=n + 1) hp (by omega) s2 (g2.mono (by omega))
  have dv:∀ c:Nat,0 < c->c<=3->gDivI (.int many) (.int c)=some (.int (many / c:Nat)):=fun c hc hc3=>by
   have:c=1\/c=2\/c=3:=by omega
   rcases this with rfl | rfl | rfl
   ·simp only[gDivI,gI,show divOk (many:Int) ((1:Nat):Int)=true from rfl,if_true,Int.fdiv_eq_ediv_of_nonneg _ (show(0:Int)<=((1:Nat):Int) by decide)];rfl
   ·simp only[gDivI,gI,show divOk (many:Int) ((2:Nat):Int)=true from rfl,if_true,Int.fdiv_eq_ediv_of_nonneg _ (show(0:Int)<=((2:Nat):Int) by decide)];rfl
   ·simp only[gDivI,gI,show divOk (many:Int) ((3:Nat):Int)=true from rfl,if_true,Int.fdiv_eq_ediv_of_nonneg _ (show(0:Int)<=((3:Nat):Int) by decide)];rfl
  have rB:Rs p (1::bl):=fun x hx=>by
   rcases List.mem_cons.mp hx with rfl | hx
   ·exact⟨by decide,by omega⟩
   ·exact r2 x hx
  have catT:gAddA (.tuple [.int 1]) (qt bl)=some (qt (1::bl)):=by
   have hs:small ([PyData.int 1]++bl.map .int)=true:=zQ (by simp;omega)
   show(Option.or none (gCatT (.tuple [.int 1]) (qt bl)))=_
   simp only[gCatT,hs,if_true];rfl
  have es:=z6b (T:=tp) (B:=1::bl) (many:=many) s3 hp rB (by simp;omega) (by simp) (by omega)
  have a7:sSet 7 (f2 gAddA (eTup (aCons (fC (.int 1)) aNil)) (fCall z0b (aCons (fVar 0) (aCons (fVar 1) (aCons (f2 gDivI (fVar 2) (fC (.int 3))) aNil))))) [qD,qI p,qI many,qI w,.non,.non,.non,.non,.non] s1=some (.next [qD,qI p,qI many,qI w,.non,.non,.non,qT (1::bl),.non],s2):=zE (z9 (a:=.tuple [.int 1]) (b:=qt bl) (s1:=s1) (z1x rfl (zQ (by simp))) (zk (ds:=[.dict [],.int p,.int (many / 3:Nat)]) (z7 (F:=fVar 0) rfl (z7 (F:=fVar 1) rfl (z7 (FL:=aNil) (z9 rfl rfl (dv 3 (by decide) (by decide))) rfl))) e2) catT)
  have a5:sSetC 5 (fCallC zY (aCons (fVar 1) (aCons (eTup (aCons (fCall z0b (aCons (fVar 0) (aCons (fVar 1) (aCons (f2 gDivI (fVar 2) (fC (.int 2))) aNil)))) (aCons (fVar 7) aNil))) (aCons (fVar 2) aNil)))) [qD,qI p,qI many,qI w,.non,.non,.non,qT (1::bl),.non] s2=some (.next [qD,qI p,qI many,qI w,.non,qO (ser p tp (1::bl) many),.non,qT (1::bl),.non],s3):=zaJ (z9w (ds:=[.int p,oneD tp (1::bl),.int many]) (z7 (F:=fVar 1) rfl (z7 (z1x (z7 (zk (ds:=[.dict [],.int p,.int (many / 2:Nat)]) (z7 (F:=fVar 0) rfl (z7 (F:=fVar 1) rfl (z7 (FL:=aNil) (z9 rfl rfl (dv 2 (by decide) (by decide))) rfl))) e3) (z7 (F:=fVar 7) (FL:=aNil) rfl rfl)) (small2 _ _)) (z7 (F:=fVar 2) (FL:=aNil) rfl rfl))) es)
  have t4:asB (f2 gGt (fVar 3) (fC (.int 4))) [qD,qI p,qI many,qI w,.non,qO (ser p tp (1::bl) many),.non,qT (1::bl),.non] s3=some (decide ((4:Int) < (w:Int)),s3):=z0F (z9 (a:=.int w) (b:=.int 4) (s1:=s3) rfl rfl (by simp only[gGt,gI,if_true]))
  have go:∀ {r},sSeq (sIf (asB (f2 gGt (fVar 3) (fC (.int 4)))) (sSeq (sSet 8 (fCall zg (aCons (fVar 0) (aCons (fVar 2) aNil)))) (sPut 5 (fVar 8) (f2 gModI (f2 gAdd (f2 gIx (fVarW 5) (fVar 8)) (fC (.int 1))) (fVar 1)))) sNext) (sSeq (sFrz 5) (sRet (fVar 5))) [qD,qI p,qI many,qI w,.non,qO (ser p tp (1::bl) many),.non,qT (1::bl),.non] s3=r->z0m [qD,qI p,qI many,.non,.non,.non,.non,.non,.non] s=r:=fun{r} e=>by
   unfold z0m
   exact zm a1 (zm (z0z ((tw 0).trans (by rw[decide_eq_false (by omega)]))) (zm (z0z ((tw 1).trans (by rw[decide_eq_false (by omega)]))) (zm (z0z ((tw 2).trans (by rw[decide_eq_false (by omega)]))) (zm a7 (zm a5 e)))))
  have ls:=z3O p tp (1::bl) many
  have rs:=z8Q (p:=p) (by omega) tp (1::bl) many
  by_cases h5:(4:Int) < (w:Int)
  ·obtain⟨j,s4,ej,hj,g4⟩:=z13 (n:=n) (m:=many) g3 (by omega) (by omega)
   have hv:=z14 (p:=p) (x:=zc (ser p tp (1::bl) many) j + 1) (by omega)
   refine⟨(ser p tp (1::bl) many).set j ((zc (ser p tp (1::bl) many) j + 1).fmod p),s4,go (zm (δ1:=[qD,qI p,qI many,qI w,.non,.own (((ser p tp (1::bl) many).set j ((zc (ser p tp (1::bl) many) j + 1).fmod p)).map .int),.non,qT (1::bl),qI j]) (s1:=s4) (z5w (t4.trans (by rw[decide_eq_true h5])) (zm (zE (zk (ds:=[.dict [],.int many]) rfl ej)) ?_)) rfl),rs.set hv.1 hv.2,by simp[ls],g4⟩
   have pa:L3.putAt ((ser p tp (1::bl) many).map .int) (.int j) (.int ((zc (ser p tp (1::bl) many) j + 1).fmod p))=some (((ser p tp (1::bl) many).set j ((zc (ser p tp (1::bl) many) j + 1).fmod p)).map PyData.int):=by
    rw[<- z3a]
    exact z8L (by rw[List.length_map];omega)
   exact z42 (z9 (a:=.int (zc (ser p tp (1::bl) many) j + 1)) (b:=.int p) (s1:=s4) (z9 (a:=.int (zc (ser p tp (1::bl) many) j)) (b:=.int 1) (s1:=s4) (ixw (l:=ser p tp (1::bl) many) (j:=j) rfl rfl (by omega)) rfl (by simp[gAdd,gAddI,gI])) rfl (z3N (by omega) _)) rfl rfl pa
  ·exact⟨ser p tp (1::bl) many,s3,go (zm (z0z (t4.trans (by rw[decide_eq_false h5]))) rfl),rs,ls,g3.mono (by omega)⟩
theorem z8m{l:List Int}{K k:Nat}(h:k < K):zc (l.take K) k=zc l k:=by
 unfold zc
 rw[List.getD_eq_getElem?_getD,List.getD_eq_getElem?_getD,List.getElem?_take,if_pos h]
theorem z92{l:List Int}{K:Nat}:L3.cutD (l.map PyData.int) none (some (K:Int))=(l.take K).map .int:=by
 unfold L3.cutD
 rw[HT.sIx_none,HT.sIx_nat,List.drop_zero,Nat.sub_zero,List.length_map,List.map_take]
 by_cases h:K<=l.length
 ·rw[Nat.min_eq_left h]
 ·rw[Nat.min_eq_right (by omega),List.take_of_length_le (by simp),List.take_of_length_le (by simp;omega)]
theorem cutT{d:D}{l:List Int}(K:Nat)(h:seqOf d=some (l.map .int)):∃ d',gSlD d none (some (K:Int))=some d'/\seqOf d'=some ((l.take K).map .int):=by
 have e:L3.cutD (l.map PyData.int) none (some (K:Int))=(l.take K).map .int:=z92
 cases d with
 | list xs=>cases h;exact⟨_,rfl,congrArg some e⟩
 | tuple xs=>cases h;exact⟨_,rfl,congrArg some e⟩
 | _=>cases h
theorem Rs.take{p:Int}{l:List Int}(h:Rs p l)(n:Nat):Rs p (l.take n):=fun x hx=>h x (List.mem_of_mem_take hx)
theorem z7x{p:Int}{row:List Int}{rowd:D}(s:Sx)(hp:Prm p)(hr:seqOf rowd=some (row.map .int))(rr:Rs p row)(ll:row.length<=40):∀ (k N:Nat) (rs0:List D) (a:Int) (C B:List Int) (b:Int) (L n:Nat) (c4:Ce),N + k=row.length->Gs p (zc row) rs0 C B b L n N ->
  ∃ rs1 a1 C1 B1 b1 L1 n1 c4',growN 3 4 (aCons (fSl (fVar 1) pNo (pInt (fVar 4))) aNil) z7k k ((N:Int) + 1) [qI p,.val rowd,qF p,.non,c4,.non] (menG p rs0 a C B b L n) s=some (.next [qI p,.val rowd,qF p,.val (menG p rs1 a1 C1 B1 b1 L1 n1).d,c4',.non],s)/\Gs p (zc row) rs1 C1 B1 b1 L1 n1 row.length
 | 0,N,rs0,a,C,B,b,L,n,c4,h,G=>⟨rs0,a,C,B,b,L,n,c4,rfl,by rw[<- h];exact G⟩
 | k + 1,N,rs0,a,C,B,b,L,n,c4,h,G=>by
  obtain⟨d',e',sd⟩:=cutT (N + 1) hr
  have hl:(row.take (N + 1)).length=N + 1:=by rw[List.length_take];omega
  obtain⟨rs1,a1,C1,B1,b1,L1,n1,e1,G1⟩:=zbb (a:=a) (l:=row.take (N + 1)) (rd:=d') s hp G sd (rr.take _) hl (fun j hj=>z8m (by omega)) (by omega)
  obtain⟨rs2,a2,C2,B2,b2,L2,n2,c2,e2,G2⟩:=z7x s hp hr rr ll k (N + 1) rs1 a1 C1 B1 b1 L1 n1 (.val (.int ((N:Int) + 1))) (by omega) G1
  refine⟨rs2,a2,C2,B2,b2,L2,n2,c2,?_,G2⟩
  have hc:(N:Int) + 1=((N + 1:Nat):Int):=by omega
  have fs:aCons (fSl (fVar 1) pNo (pInt (fVar 4))) aNil [qI p,.val rowd,qF p,.non,qI ((N:Int) + 1),.non] s=some ([d'],s):=by
   refine z7 (FL:=aNil) ?_ rfl
   show((gSlD rowd none (some ((N:Int) + 1))).map _)=_
   rw[hc,e'];rfl
  unfold growN
  show((aCons (fSl (fVar 1) pNo (pInt (fVar 4))) aNil [qI p,.val rowd,qF p,.non,qI ((N:Int) + 1),.non] s).bind _)=_
  rw[fs]
  simp only[Option.bind_some]
  rw[e1]
  simp only[Option.bind_some]
  rw[show((N + 1:Nat):Int) + 1=(N:Int) + 1 + 1 by omega]at e2
  exact e2
theorem zcm{p b:Int}{rs0:List D}{a:Int}{C B:List Int}{L n m:Nat}(s:Sx)(hL:L<=40):zR [(menG p rs0 a C B b L n).d,.int m] s=some (.bool (decide (2 * L<=m)),s):=by
 refine z0d (n:=2) (m:=0) (G:=z2O) rfl ?_
 have e0:fMeth [("Mender",zu)] "height" (fVar 0) aNil [.val (menG p rs0 a C B b L n).d,qI m] s=some (.int L,s):=methM (Fo:=fVar 0) rfl rfl (z4r s) rfl
 have e1:gMulI (.int 2) (.int L)=some (.int (2 * L:Nat)):=z5y (a:=2) (by decide) (by omega)
 have e2:gAdd (.int (2 * L:Nat)) (.int (-1))=some (.int ((2 * L:Nat) - 1:Int)):=by simp[gAdd,gAddI,gI];omega
 have e3:gAdd (.int ((2 * L:Nat) - 1:Int)) (.int 1)=some (.int (2 * L:Nat)):=by simp[gAdd,gAddI,gI]
 have e4:gGe (.int m) (.int (2 * L:Nat))=some (.bool (decide (2 * L<=m))):=by
  simp only[gGe,gI,if_true]
  congr 2
  exact decide_eq_decide.mpr ⟨fun h=>by omega,fun h=>by omega⟩
 exact z0n (z9 (a:=.int m) rfl (z9 (b:=.int 1) (z9 (z9 (a:=.int 2) rfl e0 e1) (zn (a:=(menG p rs0 a C B b L n).d) rfl zb8) e2) rfl e3) e4)
theorem zdU{p:Int}{C row:List Int}{rowd:D}{L:Nat}(s:Sx)(hp:Prm p)(hr:seqOf rowd=some (row.map .int))(rr:Rs p row)(rC:Rs p C)(lC:C.length<=100)(hL:L<=100) :
  z2z [fieldP p,.tuple (C.map .int),rowd,.int L] s=some (.tuple ((tz ((List.range L).map fun(i:Nat)=>(wsum C row (i:Int) C.length).fmod p)).map .int),s):=by
 have ec:=z52 (T:=.one 0) (F:=fCall z1E (aCons (fVar 1) (aCons (fVar 2) (aCons (fVar 3) (aCons (fVar 0) aNil))))) (δc:=[.non,qF p,qT C,.val rowd]) (s:=s) (f:=fun(i:Nat)=>(wsum C row (i:Int) C.length).fmod p) (k:=L) fun j hj=>⟨[qI j,qF p,qT C,.val rowd],rfl,
  zk (ds:=[fieldP p,.tuple (C.map .int),rowd,.int j]) (z7 (F:=fVar 1) rfl (z7 (F:=fVar 2) rfl (z7 (F:=fVar 3) rfl (z7 (F:=fVar 0) (FL:=aNil) rfl rfl)))) (z5F s hp rfl hr rC rr (by omega))⟩
 have el:asL z4E [qF p,qT C,.val rowd,qI L] s=_:=z28 (z07 (F:=fVar 3) rfl (by omega)) (by rw[z1u];omega) ec
 have t:=z39 (row:=.list (((List.range L).map fun(i:Nat)=>(wsum C row (i:Int) C.length).fmod p).map .int)) s rfl (by simp;omega)
 refine z0d (n:=4) (m:=0) (G:=z6a) rfl ?_
 exact z0n (zk (ds:=[.int 0,.list _]) (z7 (zn (a:=fieldP p) rfl (fldN p)) (z7 (FL:=aNil) el rfl)) t)
theorem z9E{p:Int}{row C B:List Int}{b:Int}{L n:Nat}(s:Sx)(hp:Prm p)(rr:Rs p row)(rC:Rs p C)(eC:Ends C)(S:Bm p (zc row) (zc C) (zc B) b L n row.length)(ll:row.length<=40) :
  ∃ T B':List Int,z18 [fieldP p,.tuple ((tz ((List.range L).map fun(i:Nat)=>(wsum C row (i:Int) C.length).fmod p)).map .int),.tuple (C.map .int)] s=some (oneD T B',s)/\Sh p (zc row) L row.length T B':=by
 have ht:=hp.two
 have lC:=z4c eC S.g.pl
 have hLN:=S.ln
 have c0:zc C 0≠0:=fun z=>S.c0 (by rw[z];exact⟨0,by omega⟩)
 have hC:0 < C.length:=by
  cases C with
  | nil=>exact absurd rfl c0
  | cons x r=>simp
 have rT0:Rs p (tz ((List.range L).map fun(i:Nat)=>(wsum C row (i:Int) C.length).fmod p)):=Rs.tz fun x hx=>by
  obtain⟨i,_,rfl⟩:=List.mem_map.mp hx
  exact z14 (by omega)
 have lT0:=zaO ((List.range L).map fun(i:Nat)=>(wsum C row (i:Int) C.length).fmod p)
 rw[List.length_map,List.length_range]at lT0
 have nT0:=zb7 ((List.range L).map fun(i:Nat)=>(wsum C row (i:Int) C.length).fmod p)
 have qT0:∀ j,p∣zc (tz ((List.range L).map fun(i:Nat)=>(wsum C row (i:Int) C.length).fmod p)) j - (if j < L then wsum C row (j:Int) C.length else 0):=fun j=>zeU (p:=p) (by omega) (f:=fun(i:Nat)=>wsum C row (i:Int) C.length)
 generalize tz ((List.range L).map fun(i:Nat)=>(wsum C row (i:Int) C.length).fmod p)=T0 at rT0 lT0 nT0 qT0
 obtain⟨T,B',e,rT,rB,one,lT,lB,qT,qB⟩:=settled2 (td:=qt T0) (bd:=qt C) (a:=0) s hp rfl rfl rT0 rC (by omega) (by omega) hC (fun j hj=>absurd hj (Nat.not_lt_zero _)) c0
 rw[Nat.sub_zero]at lT lB
 have nc:=S.c0
 have zT:∀ k,zc T k=0->zc T0 k=0:=fun k hk=>by
  have h:=qT k
  rw[Nat.zero_add,hk]at h
  have hz:=rT0.zc (by omega) k
  exact z0e hz.1 hz.2 (by obtain⟨x,hx⟩:=h;exact⟨-x,by grind⟩)
 have zB:∀ k,zc B' k=0->zc C k=0:=fun k hk=>by
  have h:=qB k
  rw[Nat.zero_add,hk]at h
  have hz:=rC.zc (by omega) k
  exact z0e hz.1 hz.2 (by obtain⟨x,hx⟩:=h;exact⟨-x,by grind⟩)
 refine⟨T,B',e,{rT:=rT,rB:=rB,nT:=fun h z=>?_,nB:=fun h z=>?_,b0:=by omega,one:=one,lT:=by omega,lB:=by omega,tl:=fun k hk=>?_,mi:=S.mi}⟩
 ·rw[lT]at h z;exact nT0 h (zT _ z)
 ·rw[lB]at h z;exact eC h (zB _ z)
 ·refine hp.dvd (b:=zc C 0) ?_ nc
  have e1:p∣cvz (zc C) (zc row) k C.length - zc C 0 * cvz (zc B') (zc row) k C.length:=by
   obtain⟨x,hx⟩:=z5D (p:=p) (a:=zc C) (a':=fun i=>zc C 0 * zc B' i) (b:=zc row) (b':=zc row) (k:=k) (fun i=>by
    obtain⟨y,hy⟩:=qB i
    rw[Nat.zero_add]at hy
    exact⟨-y,by grind⟩) (fun _=>⟨0,by omega⟩) C.length
   rw[z2A]at hx
   exact⟨x,hx⟩
  have e2:p∣zc T k * zc C 0 - cvz (zc C) (zc row) k C.length:=by
   obtain⟨x,hx⟩:=qT k
   rw[Nat.zero_add]at hx
   obtain⟨y,hy⟩:=qT0 k
   by_cases hkL:k < L
   ·rw[if_pos hkL,z3r]at hy
    exact⟨x + y,by grind⟩
   ·rw[if_neg hkL]at hy
    obtain⟨z,hz⟩:=S.g.z k (by omega) hk
    rw[z1y (z5S C) lC]at hz
    exact⟨x + y - z,by grind⟩
  rw[lB]
  obtain⟨x,hx⟩:=e1
  obtain⟨y,hy⟩:=e2
  exact⟨-x - y,by grind⟩
theorem fldU(p:Int):gFld ["PrimeField"] "unit" (fieldP p)=some (.int 1):=by
 first | rfl | simp +decide [gFld,fieldP,lookF]
theorem zbg{p hi:Int}{rowd:D}{s:Sx}{k:Nat}{o:Out}(h1:1<=hi)(h2:hi<=1000)(hk:(hi - 1).toNat=k)(fr:aCons (fC (.int 1)) (aCons (f2 gAdd (f1 gLen (fVar 1)) (fC (.int 1))) aNil) [qI p,.val rowd,qF p,.non,.non,.non] s=some ([.int 1,.int hi],s))
  (eg:growN 3 4 (aCons (fSl (fVar 1) pNo (pInt (fVar 4))) aNil) z7k k 1 [qI p,.val rowd,qF p,.non,.non,.non] (menG p [] 0 [1] [1] 1 0 1) s=some (o,s)):z1W [qI p,.val rowd,qF p,.non,.non,.non] s=some (o,s):=by
 unfold z1W sGrown
 rw[if_pos ⟨rfl,by simp⟩]
 show((some ([fieldP p,PyData.int (-1)],s)).bind _)=_
 simp only[Option.bind_some]
 rw[fldU]
 simp only[Option.bind_some]
 show((aCons (fC (.int 1)) (aCons (f2 gAdd (f1 gLen (fVar 1)) (fC (.int 1))) aNil) [qI p,.val rowd,qF p,.non,.non,.non] s).bind _)=_
 rw[fr]
 simp only[Option.bind_some]
 rw[if_pos (by rw[z7m (z:=1) (by decide) (by decide),z7m (z:=hi) (by omega) h2];rfl),hk]
 exact eg
theorem z3b{p:Int}{row:List Int}{rowd:D}(s:Sx)(hp:Prm p)(hr:seqOf rowd=some (row.map .int))(rr:Rs p row)(ll:row.length<=40) :
  ∃ (L:Nat) (X:D) (C B:List Int) (b:Int) (n:Nat),z01 [.int p,rowd] s=some (.tuple [.int L,X],s)/\Bm p (zc row) (zc C) (zc B) b L n row.length/\(row.length < 2 * L->X=.none)/\(2 * L<=row.length->∃ T B',X=oneD T B'/\Sh p (zc row) L row.length T B'):=by
 have ht:=hp.two
 have one':¬ p∣(1:Int):=fun z=>absurd (z0e (by decide) (by omega) z) (by decide)
 have pl1:Pl 1 (zc [1]):=fun k hk=>z0V (by simpa using hk)
 have r1:Rs p [1]:=fun x hx=>by rw[List.mem_singleton.mp hx];omega
 have n1:Ends [1]:=fun _=>by decide
 have G0:Gs p (zc row) [] [1] [1] 1 0 1 0:=⟨r1,r1,n1,n1,by omega,Nat.le_refl _,z6K hp one' one' pl1 pl1⟩
 obtain⟨rs1,a1,C,B,b,L,n,c4,eg,G⟩:=z7x s hp hr rr ll row.length 0 [] 0 [1] [1] 1 0 1 .non (by omega) G0
 have hLN:=G.S.ln
 have hl:gLen rowd=some (.int (row.length:Int)):=by rw[z09 hr,List.length_map]
 have lC:=z4c G.eC G.S.g.pl
 have a1':sSet 2 (fMake "PrimeField" ["prime","nought","unit"] z0k (aCons (fVar 0) aNil)) [qI p,.val rowd,.non,.non,.non,.non] s=some (.next [qI p,.val rowd,qF p,.non,.non,.non],s):=zE (makeP (F:=fVar 0) rfl)
 have a2:z1W [qI p,.val rowd,qF p,.non,.non,.non] s=some (.next [qI p,.val rowd,qF p,.val (menG p rs1 a1 C B b L n).d,c4,.non],s):=by
  refine zbg (hi:=((row.length + 1:Nat):Int)) (k:=row.length) (by omega) (by omega) (by omega) (z7 rfl (z7 (FL:=aNil) (z9 (a:=.int (row.length:Int)) (b:=.int 1) (zn (a:=rowd) rfl hl) rfl (z2I _)) rfl)) ?_
  exact eg
 have a3:sSet 5 (fMeth [("Mender",zu)] "height" (fVar 3) aNil) [qI p,.val rowd,qF p,.val (menG p rs1 a1 C B b L n).d,c4,.non] s=some (.next [qI p,.val rowd,qF p,.val (menG p rs1 a1 C B b L n).d,c4,qI L],s):=zE (methM (Fo:=fVar 3) rfl rfl (z4r s) rfl)
 have t4:tNotF (asT (fMeth [("Mender",zR)] "is_sure" (fVar 3) (aCons (f1 gLen (fVar 1)) aNil))) [qI p,.val rowd,qF p,.val (menG p rs1 a1 C B b L n).d,c4,qI L] s=some (!decide (2 * L<=row.length),s):=z3M (z6C (methM (Fo:=fVar 3) rfl (z7 (FL:=aNil) (zn (a:=rowd) rfl hl) rfl) (zcm s (by omega)) rfl))
 by_cases h2:2 * L<=row.length
 ·rw[decide_eq_true h2]at t4
  obtain⟨T,B',es,F⟩:=z9E s hp rr G.rC G.eC G.S ll
  refine⟨L,oneD T B',C,B,b,n,z0d (n:=2) (m:=4) (G:=z1h) rfl ?_,G.S,fun h=>absurd h2 (by omega),fun _=>⟨T,B',rfl,F⟩⟩
  unfold z1h
  refine zm a1' (zm a2 (zm a3 (zm (z0z t4) ?_)))
  exact z0n (z1x (z7 (F:=fVar 5) rfl (z7 (FL:=aNil) (zk (ds:=[fieldP p,_,.tuple (C.map .int)]) (z7 (F:=fVar 2) rfl (z7 (zk (ds:=[fieldP p,.tuple (C.map .int),rowd,.int L]) (z7 (F:=fVar 2) rfl (z7 (zn (a:=(menG p rs1 a1 C B b L n).d) rfl z51) (z7 (F:=fVar 1) rfl (z7 (F:=fVar 5) (FL:=aNil) rfl rfl)))) (zdU s hp hr rr G.rC (by omega) (by omega))) (z7 (FL:=aNil) (zn (a:=(menG p rs1 a1 C B b L n).d) rfl z51) rfl))) es) rfl)) (small2 _ _))
 ·rw[decide_eq_false h2]at t4
  refine⟨L,.none,C,B,b,n,z0d (n:=2) (m:=4) (G:=z1h) rfl ?_,G.S,fun _=>rfl,fun h=>absurd h h2⟩
  unfold z1h
  refine zm a1' (zm a2 (zm a3 ?_))
  have a4:sIf (tNotF (asT (fMeth [("Mender",zR)] "is_sure" (fVar 3) (aCons (f1 gLen (fVar 1)) aNil)))) (sRet (eTup (aCons (fVar 5) (aCons (fC .none) aNil)))) sNext [qI p,.val rowd,qF p,.val (menG p rs1 a1 C B b L n).d,c4,qI L] s=some (.ret (.tuple [.int L,.none]),s):=z5w t4 (z0n (z1x (z7 (F:=fVar 5) rfl (z7 (FL:=aNil) rfl rfl)) (small2 _ _)))
  unfold sSeq
  rw[a4]
theorem zbh{p:Int}{B l:List Int}{i c:Nat}(hp:Prm p)(rB:Rs p B)(rl:Rs p l)(hc:c<=100)(hci:c<=i + 1):gSum (ql ((List.range c).map fun j=>zc B j * zc l (i - j)))=some (.int (wsum B l (i:Int) c)):=by
 have ht:=hp.two
 have so:sumOk ((List.range c).map fun j=>zc B j * zc l (i - j))=true:=by
  unfold sumOk
  simp only[Bool.and_eq_true,decide_eq_true_eq,List.all_eq_true]
  refine⟨by rw[List.length_map,List.length_range];omega,fun k hk=>?_⟩
  obtain⟨j,_,rfl⟩:=List.mem_map.mp hk
  have b1:=rB.zc (by omega) j
  have b2:=rl.zc (by omega) (i - j)
  have m1:(zc B j * zc l (i - j)).natAbs=(zc B j).natAbs * (zc l (i - j)).natAbs:=Int.natAbs_mul _ _
  have m2:(zc B j).natAbs * (zc l (i - j)).natAbs<=1000 * 1000:=Nat.mul_le_mul (by omega) (by omega)
  rw[m1];omega
 unfold gSum
 simp only[z3l,Option.bind_some,so,if_true]
 rw[z8T _ hci]
theorem mulB{a b:Int}(ha:a.natAbs < 1048576)(hb:b.natAbs < 1048576):gMulI (.int a) (.int b)=some (.int (a * b)):=by
 have h1:Bt 20 a:=Nat.lt_of_lt_of_le ha (by decide)
 have h2:Bt 20 b:=Nat.lt_of_lt_of_le hb (by decide)
 have mk:mulOk a b=true:=h1.ok h2 (by decide)
 simp only[gMulI,gI,mk,if_true]
theorem zdV{f R:Nat->Int}{k a b:Nat}(ha:Pl a f)(hb:Pl b f):cvz f R k a=cvz f R k b:=by
 rcases Nat.le_total a b with h | h
 ·exact(z1y ha h).symm
 ·exact z1y hb h
structure Lw(p:Int)(R:Nat->Int)(C B:List Int)(b:Int)(L n N:Nat):Prop where
 rC:Rs p C
 rB:Rs p B
 hb:0 < b/\b < p
 lC:C.length<=N + 1
 lB:n + B.length<=N + 2
 S:Bm p R (zc C) (zc B) b L n N
theorem zcn{p w:Int}{rowd:D}{C B r0:List Int}{c4 c6 c7 c8 c11 c12:Ce}{n:Nat}(s:Sx)(hp:Prm p)(rB:Rs p B)(r0R:Rs p r0)(hw:0<=w/\w < 1000000)(hl:n + B.length<=r0.length) :
  ∃ (r:List Int) (c11' c12':Ce),z0I [qI p,.val rowd,qL C,qL B,c4,qI n,c6,c7,c8,qO r0,qI w,c11,c12] s=some (.next [qI p,.val rowd,qL C,qL B,c4,qI n,c6,c7,c8,qO r,qI w,c11',c12'],s)/\r.length=r0.length/\Rs p r/\∀ k,p∣zc r k - (zc r0 k - w * shz n (zc B) k):=by
 have ht:=hp.two
 obtain⟨δ',s',e,hs,r,x11,x12,hδ,l1,hR,hc⟩:=z2F (T:=.tup [11,12]) (G:=z2j) (fun t δ s'=>s'=s/\∃ (r:List Int) (x11 x12:Ce),δ=[qI p,.val rowd,qL C,qL B,c4,qI n,c6,c7,c8,qO r,qI w,x11,x12]/\r.length=r0.length/\Rs p r/\∀ k,p∣zc r k - (zc r0 k - (if n<=k/\k < n + t then w * zc B (k - n) else 0)))
  (enumD (B.map .int)) [qI p,.val rowd,qL C,qL B,c4,qI n,c6,c7,c8,qO r0,qI w,c11,c12] s ⟨rfl,r0,c11,c12,rfl,rfl,r0R,fun k=>by rw[if_neg (by omega)];exact⟨0,by omega⟩⟩ (fun t d δ s' hd zgA=>by
   obtain⟨hs,r,x11,x12,hδ,l1,hR,hc⟩:=zgA
   subst hs hδ
   obtain⟨x,hx,rfl⟩:=z5i hd
   obtain⟨htl,rfl⟩:=zget hx
   have hz:=rB.zc (by omega) t
   have m2:=z14 (p:=p) (x:=zc r (t + n) - w * zc B t) (by omega)
   refine⟨[qI p,.val rowd,qL C,qL B,c4,qI n,c6,c7,c8,qO r,qI w,qI t,qI (zc B t)],_,s',rfl,?_,rfl,r.set (t + n) ((zc r (t + n) - w * zc B t).fmod p),qI t,qI (zc B t),rfl,by rw[List.length_set];exact l1,hR.set m2.1 m2.2,fun k=>?_⟩
   ·have ad':f2 gAdd (fVar 11) (fVar 5) [qI p,.val rowd,qL C,qL B,c4,qI n,c6,c7,c8,qO r,qI w,qI t,qI (zc B t)] s'=some (.int (t + n:Nat),s'):=z9 (a:=.int t) (b:=.int n) rfl rfl (add_int t n)
    refine(z42 (v:=.int ((zc r (t + n) - w * zc B t).fmod p)) (k:=.int (t + n:Nat)) (xs:=r.map .int) (ys:=(r.set (t + n) ((zc r (t + n) - w * zc B t).fmod p)).map .int) (s1:=s') ?_ ad' rfl ?_).trans rfl
    ·exact z9 (a:=.int (zc r (t + n) - w * zc B t)) (b:=.int p) (z9 (a:=.int (zc r (t + n))) (b:=.int (w * zc B t)) (ixw (i:=9) rfl ad' (by omega)) (z9 rfl rfl (mulB (by omega) (by omega))) rfl) rfl (z3N (by omega) _)
    ·rw[z8L (by rw[List.length_map];omega),z3a]
   ·rw[zaL (by omega)]
    by_cases hk:k=t + n
    ·subst hk
     rw[if_pos rfl,if_pos (by omega)]
     have c:=hc (t + n)
     rw[if_neg (by omega)]at c
     obtain⟨k1,h1⟩:=c
     obtain⟨k3,h3⟩:=z0T (p:=p) (x:=zc r (t + n) - w * zc B t) (by omega)
     rw[show t + n - n=t by omega]
     exact⟨k1 + k3,by grind⟩
    ·rw[if_neg hk]
     have c:=hc k
     by_cases h2:n<=k/\k < n + t
     ·rw[if_pos h2]at c;rw[if_pos (by omega)];exact c
     ·rw[if_neg h2]at c;rw[if_neg (by omega)];exact c)
 subst hs hδ
 rw[z5j,List.length_map]at hc
 refine⟨r,x11,x12,?_,l1,hR,fun k=>?_⟩
 ·unfold z0I sFor
  rw[z5E (i:=3) (d:=ql B) rfl rfl]
  exact e
 ·have c:=hc k
  unfold shz
  by_cases h1:n<=k
  ·rw[if_pos h1]
   by_cases h2:k < n + B.length
   ·rw[if_pos ⟨h1,h2⟩]at c;exact c
   ·rw[if_neg (by omega)]at c
    rw[z0V (show B.length<=k - n by omega),Int.mul_zero];exact c
  ·rw[if_neg (by omega)]at c
   rw[if_neg h1,Int.mul_zero];exact c
theorem zdW{p:Int}{rowd:D}{C row:List Int}{c3 c4 c5 c6 c8 c9 c10 c11 c12:Ce}{N:Nat}(s:Sx)(hp:Prm p)(hr:seqOf rowd=some (row.map .int))(rC:Rs p C)(rr:Rs p row)(hN:N < row.length)(ll:row.length<=40)(lC:C.length<=60) :
  sSet 8 (f2 gModI (f1 gSum (asL z1o)) (fVar 0)) [qI p,.val rowd,qL C,c3,c4,c5,c6,qI N,c8,c9,c10,c11,c12] s=some (.next [qI p,.val rowd,qL C,c3,c4,c5,c6,qI N,.val (.int ((cvz (zc C) (zc row) N C.length).fmod p)),c9,c10,c11,c12],s):=by
 have ht:=hp.two
 have lc:gLen (ql C)=some (.int (C.length:Int)):=by rw[z09 (xs:=C.map .int) rfl,List.length_map]
 have ec:asL z1o [qI p,.val rowd,qL C,c3,c4,c5,c6,qI N,c8,c9,c10,c11,c12] s=some (.list (((List.range (min C.length (N + 1))).map fun j=>zc C j * zc row (N - j)).map .int),s) :=
  z28 (ds:=rng 0 (min C.length (N + 1))) (s1:=s) (z07 (n:=min C.length (N + 1)) (z9 (a:=.int (C.length:Int)) (b:=.int (N + 1:Nat)) (zn (a:=ql C) rfl lc) (z9 (a:=.int N) (b:=.int 1) rfl rfl (z2I N)) (zaW _ _)) (by omega)) (by rw[z1u];omega) (z52 (T:=.one 0) (F:=f2 gMulI (f2 gIx (fVar 1) (fVar 0)) (f2 gIx (fVar 2) (f2 gSubI (fVar 3) (fVar 0)))) (δc:=[.non,qL C,.val rowd,qI N]) (s:=s) (f:=fun j=>zc C j * zc row (N - j)) (k:=min C.length (N + 1)) (fun j hj=>⟨[qI j,qL C,.val rowd,qI N],rfl,z9 (a:=.int (zc C j)) (b:=.int (zc row (N - j))) (s1:=s) (z9 (a:=ql C) (b:=.int j) rfl rfl (z0X (d:=ql C) rfl (by omega))) (z9 (a:=rowd) (b:=.int (N - j:Nat)) (s1:=s) rfl (z9 (a:=.int N) (b:=.int j) rfl rfl (z4p (by omega))) (z0X hr (by omega))) (mulR (by omega) (rC.zc (by omega) _) (rr.zc (by omega) _))⟩))
 have hw:wsum C row (N:Int) (min C.length (N + 1))=cvz (zc C) (zc row) N C.length:=by
  rw[<- z3r]
  exact(z5G C.length (by omega) fun i h1 h2=>by omega).symm
 have es:=zbh (p:=p) (B:=C) (l:=row) (i:=N) (c:=min C.length (N + 1)) hp rC rr (by omega) (by omega)
 rw[hw]at es
 exact zE (z9 (a:=.int (cvz (zc C) (zc row) N C.length)) (b:=.int p) (zn (g:=gSum) ec es) rfl (z3N (by omega) _))
theorem zco{p:Int}{rowd:D}{row C B:List Int}{b:Int}{L n N:Nat}{c8 c9 c10 c11 c12:Ce}(s:Sx)(hp:Prm p)(hr:seqOf rowd=some (row.map .int))(rr:Rs p row)(ll:row.length<=40)(W:Lw p (zc row) C B b L n N)(hN:N < row.length) :
  ∃ (C1 B1:List Int) (b1:Int) (L1 n1:Nat) (x8 x9 x10 x11 x12:Ce),z06 [qI p,.val rowd,qL C,qL B,qI b,qI n,qI L,qI N,c8,c9,c10,c11,c12] s=some (.next [qI p,.val rowd,qL C1,qL B1,qI b1,qI n1,qI L1,qI N,x8,x9,x10,x11,x12],s)/\Lw p (zc row) C1 B1 b1 L1 n1 (N + 1):=by
 have ht:=hp.two
 have lC:=W.lC
 have lB:=W.lB
 have hLN:=W.S.ln
 have a1:=zdW (c3:=.val (ql B)) (c4:=.val (.int b)) (c5:=.val (.int n)) (c6:=.val (.int L)) (c8:=c8) (c9:=c9) (c10:=c10) (c11:=c11) (c12:=c12) s hp hr W.rC rr hN ll (by omega)
 have dr:=z14 (p:=p) (x:=cvz (zc C) (zc row) N C.length) (by omega)
 have dd:p∣cvz (zc C) (zc row) N (L + 1) - (cvz (zc C) (zc row) N C.length).fmod p:=by
  rw[<- zdV (k:=N) (R:=zc row) (z5S C) W.S.g.pl]
  obtain⟨x,hx⟩:=z0T (p:=p) (x:=cvz (zc C) (zc row) N C.length) (by omega)
  exact⟨-x,by grind⟩
 generalize (cvz (zc C) (zc row) N C.length).fmod p=d at a1 dr dd
 have a2:sSet 9 (fVar 2) [qI p,.val rowd,qL C,qL B,qI b,qI n,qI L,qI N,qI d,c9,c10,c11,c12] s=some (.next [qI p,.val rowd,qL C,qL B,qI b,qI n,qI L,qI N,qI d,qL C,c10,c11,c12],s):=rfl
 have tn:∀ {δ:Sl},δ[8]?=some (.val (.int d))->asB (f2 gNe (fVar 8) (fC (.int 0))) δ s=some (!decide (d=0),s):=fun{δ} h=>z0F (z9 (a:=.int d) (b:=.int 0) (by unfold fVar;rw[h]) rfl (z7W d 0))
 have a4:∀ {c9 c10 c11 c12:Ce},sSet 5 (f2 gAdd (fVar 5) (fC (.int 1))) [qI p,.val rowd,qL C,qL B,qI b,qI n,qI L,qI N,qI d,c9,c10,c11,c12] s=some (.next [qI p,.val rowd,qL C,qL B,qI b,qI (n + 1:Nat),qI L,qI N,qI d,c9,c10,c11,c12],s):=fun{c9 c10 c11 c12}=>zE (z9 (a:=.int n) (b:=.int 1) rfl rfl (z2I n))
 by_cases hd:d=0
 ·refine⟨C,B,b,L,n + 1,qI d,qL C,c10,c11,c12,?_,⟨W.rC,W.rB,W.hb,by omega,by omega,W.S.right (by rw[hd]at dd;obtain⟨x,hx⟩:=dd;exact⟨x,by omega⟩)⟩⟩
  unfold z06
  refine zm a1 (zm a2 (zm (z0z ((tn rfl).trans (by rw[decide_eq_true hd];rfl))) (zm a4 (zm (z0z (z8h ((tn rfl).trans (by rw[decide_eq_true hd];rfl)))) (zm rfl rfl)))))
 ·obtain⟨v,ev,hv,qv⟩:=z8O s hp W.hb
  have hw:0<=d * v/\d * v < 1000000:=by
   refine⟨Int.mul_nonneg dr.1 hv.1,?_⟩
   have h1:d * v<=996 * v:=Int.mul_le_mul_of_nonneg_right (by omega) hv.1
   omega
  have z0:∀ k,zc (C++List.replicate (n + B.length - C.length) 0) k=zc C k:=fun k=>by
   have:=zb6 C (n + B.length) k
   exact this
  have rr0:Rs p (C++List.replicate (n + B.length - C.length) 0):=fun x hx=>(List.mem_append.mp hx).elim (W.rC x) (fun h=>by rw[List.eq_of_mem_replicate h];omega)
  have lr0:(C++List.replicate (n + B.length - C.length) 0).length=max C.length (n + B.length):=by rw[List.length_append,List.length_replicate];omega
  obtain⟨r,y11,y12,e3,l3,r3,q3⟩:=zcn (rowd:=rowd) (C:=C) (c4:=.val (.int b)) (c6:=.val (.int L)) (c7:=.val (.int N)) (c8:=.val (.int d)) (c11:=c11) (c12:=c12) (n:=n) s hp W.rB rr0 hw (by omega)
  have lc:gLen (ql C)=some (.int (C.length:Int)):=by rw[z09 (xs:=C.map .int) rfl,List.length_map]
  have lb:gLen (ql B)=some (.int (B.length:Int)):=by rw[z09 (xs:=B.map .int) rfl,List.length_map]
  have b1:sSet 10 (f2 gMulI (fVar 8) (fCall zO (aCons (fVar 0) (aCons (fVar 4) aNil)))) [qI p,.val rowd,qL C,qL B,qI b,qI n,qI L,qI N,qI d,qL C,c10,c11,c12] s=some (.next [qI p,.val rowd,qL C,qL B,qI b,qI n,qI L,qI N,qI d,qL C,qI (d * v),c11,c12],s) :=
   zE (z9 (a:=.int d) (b:=.int v) rfl (zk (ds:=[.int p,.int b]) (z7 (F:=fVar 0) rfl (z7 (F:=fVar 4) (FL:=aNil) rfl rfl)) ev) (mulR (by omega) dr hv))
  have mx:gMax (.int 0) (.int (((n + B.length:Nat):Int) - (C.length:Int)))=some (.int (n + B.length - C.length:Nat)):=by
   have:(if (((n + B.length:Nat):Int) - (C.length:Int)) > 0 then (((n + B.length:Nat):Int) - (C.length:Int)) else 0)=((n + B.length - C.length:Nat):Int):=by split <;> omega
   simp only[gMax,gI,if_true,this]
  have b2:sSetO 9 (o2 lCat (fVar 2) (f2 gMulA (eLst (aCons (fC (.int 0)) aNil)) (f2 gMax (fC (.int 0)) (f2 gSubI (f2 gAdd (fVar 5) (f1 gLen (fVar 3))) (f1 gLen (fVar 2)))))) [qI p,.val rowd,qL C,qL B,qI b,qI n,qI L,qI N,qI d,qL C,qI (d * v),c11,c12] s=some (.next [qI p,.val rowd,qL C,qL B,qI b,qI n,qI L,qI N,qI d,qO (C++List.replicate (n + B.length - C.length) 0),qI (d * v),c11,c12],s):=by
   refine z27 (zaG (a:=ql C) (b:=.list (List.replicate (n + B.length - C.length) (.int 0))) rfl (z9 (a:=.list [.int 0]) (b:=.int (n + B.length - C.length:Nat)) (z0S (z7 (FL:=aNil) rfl rfl) (zQ (by simp))) (z9 (a:=.int 0) (b:=.int (((n + B.length:Nat):Int) - (C.length:Int))) rfl (z9 (a:=.int (n + B.length:Nat)) (b:=.int (C.length:Int)) (z9 (a:=.int n) (b:=.int (B.length:Int)) rfl (zn (a:=ql B) rfl lb) (add_int n B.length)) (zn (a:=ql C) rfl lc) (by simp only[gSubI,gI,if_true])) mx) (z6B (by omega))) ?_)
   unfold lCat
   simp only
   rw[if_pos (zQ (by simp;omega)),List.map_append,List.map_replicate]
  have bi:sIf (asB (f2 gNe (fVar 8) (fC (.int 0)))) (sSeq (sSet 10 (f2 gMulI (fVar 8) (fCall zO (aCons (fVar 0) (aCons (fVar 4) aNil))))) (sSeq (sSetO 9 (o2 lCat (fVar 2) (f2 gMulA (eLst (aCons (fC (.int 0)) aNil)) (f2 gMax (fC (.int 0)) (f2 gSubI (f2 gAdd (fVar 5) (f1 gLen (fVar 3))) (f1 gLen (fVar 2))))))) z0I)) sNext [qI p,.val rowd,qL C,qL B,qI b,qI n,qI L,qI N,qI d,qL C,c10,c11,c12] s=_ :=
   z5w ((tn rfl).trans (by rw[decide_eq_false hd];rfl)) (zm b1 (zm b2 e3))
  have key:∀ k,p∣zc r k - (1 * zc C k - d * v * shz n (zc B) k):=fun k=>by
   have:=q3 k
   rw[z0]at this
   rw[Int.one_mul];exact this
  have M:Mend p (zc C) (zc B) (zc r) 1 (d * v) b d n:=⟨key,fun k hk=>by
   have h:=key k
   rw[hk]at h
   have hz:=r3.zc (by omega) k
   exact z0e hz.1 hz.2 (by obtain⟨x,hx⟩:=h;exact⟨x,by omega⟩),fun z=>absurd (z0e (by decide) (by omega) z) (by decide),by
   obtain⟨x,hx⟩:=qv
   exact⟨-(d * x),by grind⟩⟩
  have le2:asB (f2 gLe (f2 gMulI (fC (.int 2)) (fVar 6)) (fVar 7)) [qI p,.val rowd,qL C,qL B,qI b,qI (n + 1:Nat),qI L,qI N,qI d,qO r,qI (d * v),y11,y12] s=some (decide (2 * L<=N),s) :=
   z0F (z9 (a:=.int (2 * L:Nat)) (b:=.int N) (z9 (a:=.int 2) (b:=.int L) rfl rfl (z5y (a:=2) (by decide) (by omega))) rfl (by
    simp only[gLe,gI,if_true]
    congr 2
    exact decide_eq_decide.mpr ⟨fun h=>by omega,fun h=>by omega⟩))
  have t5:=z3L (Gb:=asB (f2 gLe (f2 gMulI (fC (.int 2)) (fVar 6)) (fVar 7))) ((tn (δ:=[qI p,.val rowd,qL C,qL B,qI b,qI (n + 1:Nat),qI L,qI N,qI d,qO r,qI (d * v),y11,y12]) rfl).trans (by rw[decide_eq_false hd];rfl)) le2
  by_cases hL:2 * L<=N
  ·rw[decide_eq_true hL]at t5
   refine⟨r,C,d,N + 1 - L,1,qI d,qL r,qI (d * v),y11,y12,?_,⟨r3,W.rC,by omega,by omega,by omega,W.S.risen hp dd (z5C dr.1 dr.2 hd) M hL⟩⟩
   have b5:sUnp (.tup [3,4,5,6]) (eTup (aCons (fVar 2) (aCons (fVar 8) (aCons (fC (.int 1)) (aCons (f2 gSubI (f2 gAdd (fVar 7) (fC (.int 1))) (fVar 6)) aNil))))) [qI p,.val rowd,qL C,qL B,qI b,qI (n + 1:Nat),qI L,qI N,qI d,qO r,qI (d * v),y11,y12] s=some (.next [qI p,.val rowd,qL C,qL C,qI d,qI (1:Nat),qI (N + 1 - L:Nat),qI N,qI d,qO r,qI (d * v),y11,y12],s):=by
    unfold sUnp
    rw[z1x (ds:=[.list (C.map .int),.int d,.int 1,.int (N + 1 - L:Nat)]) (z7 (F:=fVar 2) rfl (z7 (F:=fVar 8) rfl (z7 (F:=fC (.int 1)) rfl (z7 (FL:=aNil) (z9 (a:=.int (N + 1:Nat)) (b:=.int L) (z9 (a:=.int N) (b:=.int 1) rfl rfl (z2I N)) rfl (z4p (by omega))) rfl)))) (zQ (by simp))]
    rfl
   unfold z06
   exact zm a1 (zm a2 (zm bi (zm a4 (zm (z5w t5 b5) (zm rfl rfl)))))
  ·rw[decide_eq_false hL]at t5
   refine⟨r,B,b,L,n + 1,qI d,qL r,qI (d * v),y11,y12,?_,⟨r3,W.rB,W.hb,by omega,by omega,W.S.stay hp dd M (by omega)⟩⟩
   unfold z06
   exact zm a1 (zm a2 (zm bi (zm a4 (zm (z0z t5) (zm rfl rfl)))))
theorem z9F{p:Int}{rowd:D}{row:List Int}(s:Sx)(hp:Prm p)(hr:seqOf rowd=some (row.map .int))(rr:Rs p row)(ll:row.length<=40) :
  ∃ (C B:List Int) (b:Int) (L n:Nat),z0h [.int p,rowd] s=some (.int L,s)/\Lw p (zc row) C B b L n row.length:=by
 have ht:=hp.two
 have one':¬ p∣(1:Int):=fun z=>absurd (z0e (by decide) (by omega) z) (by decide)
 have pl1:Pl 1 (zc [1]):=fun k hk=>z0V (by simpa using hk)
 have r1:Rs p [1]:=fun x hx=>by rw[List.mem_singleton.mp hx];omega
 have W0:Lw p (zc row) [1] [1] 1 0 1 0:=⟨r1,r1,by omega,by simp,by simp,z6K hp one' one' pl1 pl1⟩
 obtain⟨δ',s',e,hs,C,B,b,L,n,x7,x8,x9,x10,x11,x12,hδ,W⟩:=z2F (T:=.one 7) (G:=z06) (fun t δ s'=>s'=s/\∃ (C B:List Int) (b:Int) (L n:Nat) (x7 x8 x9 x10 x11 x12:Ce),δ=[qI p,.val rowd,qL C,qL B,qI b,qI n,qI L,x7,x8,x9,x10,x11,x12]/\Lw p (zc row) C B b L n t)
  (rng 0 row.length) [qI p,.val rowd,qL ([1]:List Int),qL ([1]:List Int),qI 1,qI (1:Nat),qI (0:Nat),.non,.non,.non,.non,.non,.non] s ⟨rfl,[1],[1],1,0,1,_,_,_,_,_,_,rfl,W0⟩ (fun t d δ s' hd zgB=>by
   obtain⟨hs,C,B,b,L,n,x7,x8,x9,x10,x11,x12,hδ,W⟩:=zgB
   subst hs hδ
   obtain⟨htn,rfl⟩:=z6r hd
   obtain⟨C1,B1,b1,L1,n1,y8,y9,y10,y11,y12,e1,W1⟩:=zco (c8:=x8) (c9:=x9) (c10:=x10) (c11:=x11) (c12:=x12) s' hp hr rr ll W htn
   exact⟨_,_,s',rfl,e1,rfl,C1,B1,b1,L1,n1,_,_,_,_,_,_,rfl,W1⟩)
 subst hs hδ
 rw[z1u]at W
 refine⟨C,B,b,L,n,z0d (n:=2) (m:=11) (G:=z1P) rfl ?_,W⟩
 have a1:z1p [qI p,.val rowd,qL ([1]:List Int),qL ([1]:List Int),qI 1,qI (1:Nat),qI (0:Nat),.non,.non,.non,.non,.non,.non] s'=some (.next [qI p,.val rowd,qL C,qL B,qI b,qI n,qI L,x7,x8,x9,x10,x11,x12],s'):=by
  unfold z1p sFor
  rw[z07 (n:=row.length) (s:=s') (s':=s') (F:=f1 gLen (fVar 1)) (zn (a:=rowd) rfl (by rw[z09 hr,List.length_map])) (by omega)]
  exact e
 unfold z1P
 exact zm (δ1:=[qI p,.val rowd,qL ([1]:List Int),qL ([1]:List Int),qI 1,qI (1:Nat),qI (0:Nat),.non,.non,.non,.non,.non,.non]) (s1:=s') rfl (zm a1 rfl)
theorem z7y{T:Tgt}{F:FE}{δc:Sl}{s:Sx}{f:Nat->Int}:∀ (n a:Nat),(∀ j,a<=j->j < a + n->∃ δ1,T.run (.int j) δc=some δ1/\F δ1 s=some (.int (f j),s))->compD T fTrue F δc (rng (a:Int) n) s=some (((List.range n).map fun t=>f (a + t)).map .int,s)
 | 0,a,_=>rfl
 | n + 1,a,h=>by
  obtain⟨δ1,e1,e2⟩:=h a (Nat.le_refl _) (by omega)
  have ih:=z7y (T:=T) (F:=F) (δc:=δc) (s:=s) (f:=f) n (a + 1) fun j h1 h2=>h j (by omega) (by omega)
  have hm:(List.range (n + 1)).map (fun t=>f (a + t))=f a::(List.range n).map fun t=>f (a + 1 + t):=by
   rw[List.range_succ_eq_map,List.map_cons,List.map_map]
   congr 1
   exact List.map_congr_left fun t _=>by show f (a + (t + 1))=_;rw[show a + (t + 1)=a + 1 + t by omega]
  rw[zca,hm,List.map_cons]
  rw[show((a + 1:Nat):Int)=(a:Int) + 1 by omega]at ih
  unfold compD
  rw[e1]
  simp only[Option.bind_some,fTrue,if_true,e2]
  rw[ih];rfl
theorem zcp{ks:List Int}{k:Int}(h:k∈ks)(h0:k≠0):gAnyI (ql ks)=some (.bool true):=by
 unfold gAnyI
 simp only[z3l,Option.map_some]
 congr 2
 exact List.any_eq_true.mpr ⟨k,h,decide_eq_true h0⟩
theorem z9G{p k:Int}{rowd:D}{L:Nat}{c4 c5:Ce}(s:Sx)(hp:Prm p)(h4:p < 4)(h1:1<=L)(h5:L<=4) :
  ∃ b:List Int,sSet 4 (f2 gAdd (eLst (aCons (fC (.int 1)) aNil)) (asL z0M)) [qI p,.val rowd,qI L,qI k,c4,c5] s=some (.next [qI p,.val rowd,qI L,qI k,qL b,c5],s)/\Rs p b/\b.length=L/\zc b 0=1:=by
 have ht:=hp.two
 have pq:∀ j,j < 3->0 < zc [1,p,p * p] j/\zc [1,p,p * p] j<=9:=fun j hj=>by
  have:p=2\/p=3:=by omega
  rcases this with h | h <;> subst h <;> match j,hj with
  | 0,_=>decide
  | 1,_=>decide
  | 2,_=>decide
 have ec:=z52 (T:=.one 0) (F:=f2 gModI (f2 gDivI (fVar 2) (f2 gIx (eLst (aCons (fC (.int 1)) (aCons (fVar 1) (aCons (f2 gMulI (fVar 1) (fVar 1)) aNil)))) (fVar 0))) (fVar 1)) (δc:=[.non,qI p,qI k]) (s:=s) (f:=fun j=>(k.fdiv (zc [1,p,p * p] j)).fmod p) (k:=L - 1) fun j hj=>by
  obtain⟨g1,g2⟩:=pq j (by omega)
  refine⟨[qI j,qI p,qI k],rfl,?_⟩
  have el:eLst (aCons (fC (.int 1)) (aCons (fVar 1) (aCons (f2 gMulI (fVar 1) (fVar 1)) aNil))) [qI j,qI p,qI k] s=some (.list (([1,p,p * p]:List Int).map .int),s):=z0S (z7 rfl (z7 (F:=fVar 1) rfl (z7 (FL:=aNil) (z9 (a:=.int p) (b:=.int p) rfl rfl (mulB (by omega) (by omega))) rfl))) (zQ (by simp))
  have dv:gDivI (.int k) (.int (zc [1,p,p * p] j))=some (.int (k.fdiv (zc [1,p,p * p] j))):=by
   have ok:divOk k (zc [1,p,p * p] j)=true:=by
    unfold divOk
    rw[decide_eq_true (show zc [1,p,p * p] j≠0 by omega),Bool.true_and]
    refine decide_eq_true ?_
    have h9:(zc [1,p,p * p] j).natAbs<=9:=by omega
    have:=Nat.log2_lt (n:=(zc [1,p,p * p] j).natAbs) (k:=4) (by omega)
    have h4:(zc [1,p,p * p] j).natAbs.log2 < 4:=this.mpr (by omega)
    omega
   simp only[gDivI,gI,ok,if_true]
  exact z9 (a:=.int (k.fdiv (zc [1,p,p * p] j))) (b:=.int p) (z9 (a:=.int k) (b:=.int (zc [1,p,p * p] j)) rfl (z9 (a:=ql ([1,p,p * p]:List Int)) (b:=.int j) el rfl (z0X rfl (by simp;omega))) dv) rfl (z3N (by omega) _)
 have e1:asL z0M [qI p,.val rowd,qI L,qI k,c4,c5] s=_:=z28 (z07 (n:=L - 1) (z9 (a:=.int L) (b:=.int 1) rfl rfl (z5v h1)) (by omega)) (by rw[z1u];omega) ec
 refine⟨1::(List.range (L - 1)).map fun j=>(k.fdiv (zc [1,p,p * p] j)).fmod p,zE (z9 (a:=.list [.int 1]) (b:=.list _) (z0S (z7 (FL:=aNil) rfl rfl) (zQ (by simp))) e1 ?_),fun x hx=>?_,by simp;omega,rfl⟩
 ·rw[catL (by simp;omega)];rfl
 ·rcases List.mem_cons.mp hx with h | h
  ·rw[h];omega
  ·obtain⟨j,_,rfl⟩:=List.mem_map.mp h
   exact z14 (by omega)
theorem zcq{p:Int}{k:D}{rowd:D}{row b:List Int}{L:Nat}{c5:Ce}(s:Sx)(hp:Prm p)(hr:seqOf rowd=some (row.map .int))(rr:Rs p row)(rb:Rs p b)(lb:b.length=L)(h1:1<=L)(hL:L<=row.length)(ll:row.length<=40) :
  sSetL 5 z1H [qI p,.val rowd,qI L,.val k,qL b,c5] s=some (.next [qI p,.val rowd,qI L,.val k,qL b,.val (.list (((List.range (row.length - (L - 1))).map fun t=>(cvz (zc b) (zc row) (L - 1 + t) L).fmod p).map .int))],s):=by
 have ht:=hp.two
 have ec:=z7y (T:=.one 0) (F:=f2 gModI (f1 gSum (asL z0N)) (fVar 1)) (δc:=[.non,qI p,qL b,.val rowd,qI L]) (s:=s) (f:=fun i=>(cvz (zc b) (zc row) i L).fmod p) (row.length - (L - 1)) (L - 1) fun i hi1 hi2=>by
  refine⟨[qI i,qI p,qL b,.val rowd,qI L],rfl,?_⟩
  have e2:asL z0N [qI i,qI p,qL b,.val rowd,qI L] s=some (.list (((List.range L).map fun j=>zc b j * zc row (i - j)).map .int),s) :=
   z28 (ds:=rng 0 L) (s1:=s) (z07 (n:=L) (F:=fVar 4) rfl (by omega)) (by rw[z1u];omega) (z52 (T:=.one 0) (F:=f2 gMulI (f2 gIx (fVar 1) (fVar 0)) (f2 gIx (fVar 2) (f2 gSubI (fVar 3) (fVar 0)))) (δc:=[.non,qL b,.val rowd,qI i]) (s:=s) (f:=fun j=>zc b j * zc row (i - j)) (k:=L) (fun j hj=>⟨[qI j,qL b,.val rowd,qI i],rfl,z9 (a:=.int (zc b j)) (b:=.int (zc row (i - j))) (s1:=s) (z9 (a:=ql b) (b:=.int j) rfl rfl (z0X (d:=ql b) rfl (by omega))) (z9 (a:=rowd) (b:=.int (i - j:Nat)) (s1:=s) rfl (z9 (a:=.int i) (b:=.int j) rfl rfl (z4p (by omega))) (z0X hr (by omega))) (mulR (by omega) (rb.zc (by omega) _) (rr.zc (by omega) _))⟩))
  have es:=zbh (p:=p) (B:=b) (l:=row) (i:=i) (c:=L) hp rb rr (by omega) (by omega)
  rw[z3r]at es
  exact z9 (a:=.int (cvz (zc b) (zc row) i L)) (b:=.int p) (zn (g:=gSum) e2 es) rfl (z3N (by omega) _)
 have er:iRange2 (f2 gSubI (fVar 2) (fC (.int 1))) (f1 gLen (fVar 1)) [qI p,.val rowd,qI L,.val k,qL b,c5] s=some (rng ((L - 1:Nat):Int) (row.length - (L - 1)),s):=z3q (z9 (a:=.int L) (b:=.int 1) rfl rfl (z5v h1)) (zn (a:=rowd) rfl (by rw[z09 hr,List.length_map])) (by omega) (by omega)
 exact zbd (zbc er (by simp[rng];omega) ec)
theorem zcr{p:Int}{rowd:D}{row C B:List Int}{b:Int}{L n:Nat}(s:Sx)(hp:Prm p)(hr:seqOf rowd=some (row.map .int))(rr:Rs p row)(ll:row.length<=40)(S:Bm p (zc row) (zc C) (zc B) b L n row.length) :
  z00 [.int p,rowd,.int L] s=some (.bool false,s):=by
 have ht:=hp.two
 have hLN:=S.ln
 refine z0d (n:=3) (m:=3) (G:=zZ) rfl ?_
 show zZ [qI p,.val rowd,qI L,.non,.non,.non] s=_
 have fin:∀ {K:Nat},K<=1000->eIf (tAndF (asB (f2 gLt (fVar 0) (fC (.int 4)))) (asB (fChain gLt gLt (fC (.int 0)) (fVar 2) (fC (.int 5))))) (f2 gIx (eLst (aCons (fC (.int 1)) (aCons (fVar 0) (aCons (f2 gMulI (fVar 0) (fVar 0)) (aCons (f2 gMulI (f2 gMulI (fVar 0) (fVar 0)) (fVar 0)) aNil))))) (f2 gSubI (fVar 2) (fC (.int 1)))) (fC (.int 0)) [qI p,.val rowd,qI L,.non,.non,.non] s=some (.int K,s)->(∃ c3 c4 c5,forD (.one 3) z0O (rng 0 K) [qI p,.val rowd,qI L,.non,.non,.non] s=some (.next [qI p,.val rowd,qI L,c3,c4,c5],s))->zZ [qI p,.val rowd,qI L,.non,.non,.non] s=some (.ret (.bool false),s):=fun{K} hK h1 zgC=>by
  obtain⟨c3,c4,c5,h2⟩:=zgC
  have a1:z0P [qI p,.val rowd,qI L,.non,.non,.non] s=some (.next [qI p,.val rowd,qI L,c3,c4,c5],s):=by
   unfold z0P sFor
   rw[z07 (n:=K) h1 hK]
   exact h2
  unfold zZ
  exact zm a1 rfl
 have t1:asB (f2 gLt (fVar 0) (fC (.int 4))) [qI p,.val rowd,qI L,.non,.non,.non] s=some (decide (p < 4),s):=z0F (z9 (a:=.int p) (b:=.int 4) rfl rfl (by simp only[gLt,gI,if_true]))
 have stop:(tAndF (asB (f2 gLt (fVar 0) (fC (.int 4)))) (asB (fChain gLt gLt (fC (.int 0)) (fVar 2) (fC (.int 5)))) [qI p,.val rowd,qI L,.non,.non,.non] s=some (false,s))->zZ [qI p,.val rowd,qI L,.non,.non,.non] s=some (.ret (.bool false),s):=fun h=>fin (K:=0) (by decide) (zeR h rfl) ⟨.non,.non,.non,rfl⟩
 by_cases hp4:p < 4
 ·rw[decide_eq_true hp4]at t1
  by_cases h0:0 < L
  ·have g0:gLt (.int 0) (.int L)=some (.bool true):=by simp only[gLt,gI,if_true,decide_eq_true (show(0:Int) < (L:Int) by omega)]
   by_cases h5:L < 5
   ·have g5:gLt (.int L) (.int 5)=some (.bool true):=by simp only[gLt,gI,if_true,decide_eq_true (show(L:Int) < 5 by omega)]
    have t2:asB (fChain gLt gLt (fC (.int 0)) (fVar 2) (fC (.int 5))) [qI p,.val rowd,qI L,.non,.non,.non] s=some (true,s):=z0F (z8c (a:=.int 0) (b:=.int L) (c:=.int 5) rfl rfl g0 rfl g5)
    have hpp:p=2\/p=3:=by omega
    have p2:p * p<=9/\0<=p * p:=by rcases hpp with h | h <;> subst h <;> decide
    have p3:p * p * p<=27/\0<=p * p * p:=by rcases hpp with h | h <;> subst h <;> decide
    have el:eLst (aCons (fC (.int 1)) (aCons (fVar 0) (aCons (f2 gMulI (fVar 0) (fVar 0)) (aCons (f2 gMulI (f2 gMulI (fVar 0) (fVar 0)) (fVar 0)) aNil)))) [qI p,.val rowd,qI L,.non,.non,.non] s=some (.list (([1,p,p * p,p * p * p]:List Int).map .int),s) :=
     z0S (z7 rfl (z7 (F:=fVar 0) rfl (z7 (z9 (a:=.int p) (b:=.int p) rfl rfl (mulB (by omega) (by omega))) (z7 (FL:=aNil) (z9 (a:=.int (p * p)) (b:=.int p) (z9 (a:=.int p) (b:=.int p) rfl rfl (mulB (by omega) (by omega))) rfl (mulB (by omega) (by omega))) rfl)))) (zQ (by simp))
    obtain⟨K,hK,hKL⟩:∃ K:Nat,zc [1,p,p * p,p * p * p] (L - 1)=(K:Int)/\K<=1000:=by
     have hb:0<=zc [1,p,p * p,p * p * p] (L - 1)/\zc [1,p,p * p,p * p * p] (L - 1)<=1000:=by
      have:L=1\/L=2\/L=3\/L=4:=by omega
      rcases this with h | h | h | h <;> subst h
      ·show(0:Int)<=1/\(1:Int)<=1000;decide
      ·show 0<=p/\p<=1000;omega
      ·show 0<=p * p/\p * p<=1000;omega
      ·show 0<=p * p * p/\p * p * p<=1000;omega
     exact⟨(zc [1,p,p * p,p * p * p] (L - 1)).toNat,by omega,by omega⟩
    have ix:=z0X (d:=ql ([1,p,p * p,p * p * p]:List Int)) (l:=[1,p,p * p,p * p * p]) (k:=L - 1) rfl (by simp;omega)
    rw[hK]at ix
    refine fin hKL (zeQ (z3L t1 t2) (z9 (a:=ql ([1,p,p * p,p * p * p]:List Int)) (b:=.int (L - 1:Nat)) el (z9 (a:=.int L) (b:=.int 1) rfl rfl (z5v h0)) ix)) ?_
    obtain⟨δ',s',e,hs,c3,c4,c5,hδ⟩:=z2F (T:=.one 3) (G:=z0O) (fun t δ s'=>s'=s/\∃ c3 c4 c5:Ce,δ=[qI p,.val rowd,qI L,c3,c4,c5]) (rng 0 K) [qI p,.val rowd,qI L,.non,.non,.non] s ⟨rfl,_,_,_,rfl⟩ (fun t d δ s' hd zgD=>by
     obtain⟨hs,c3,c4,c5,hδ⟩:=zgD
     subst hs hδ
     obtain⟨htn,rfl⟩:=z6r hd
     obtain⟨bl,eb,rb,lb,b0⟩:=z9G (p:=p) (k:=(t:Int)) (rowd:=rowd) (c4:=c4) (c5:=c5) s' hp hp4 h0 (by omega)
     have es:=zcq (k:=.int t) (c5:=c5) s' hp hr rr rb lb h0 hLN ll
     have hany:∃ k,k∈(List.range (row.length - (L - 1))).map (fun t=>(cvz (zc bl) (zc row) (L - 1 + t) L).fmod p)/\k≠0:=by
      refine Decidable.byContradiction fun hn=>?_
      have hall:∀ i,L - 1<=i->i < row.length->p∣cvz (zc bl) (zc row) i (L - 1 + 1):=fun i h1 h2=>by
       rw[show L - 1 + 1=L by omega]
       have hz:(cvz (zc bl) (zc row) i L).fmod p=0:=Decidable.byContradiction fun hz=>hn ⟨_,List.mem_map.mpr ⟨i - (L - 1),List.mem_range.mpr (by omega),by rw[show L - 1 + (i - (L - 1))=i by omega]⟩,hz⟩
       obtain⟨x,hx⟩:=z0T (p:=p) (x:=cvz (zc bl) (zc row) i L) (by omega)
       exact⟨-x,by grind⟩
      have:=S.mi (zc bl) (L - 1) ⟨by rw[show L - 1 + 1=bl.length by omega];exact z5S bl,hall⟩ (by rw[b0];exact fun z=>absurd (z0e (by decide) (by omega) z) (by decide))
      omega
     obtain⟨kk,hk1,hk2⟩:=hany
     have ea:=zcp hk1 hk2
     refine⟨[qI p,.val rowd,qI L,qI t,c4,c5],[qI p,.val rowd,qI L,qI t,qL bl,.val (.list (((List.range (row.length - (L - 1))).map fun t=>(cvz (zc bl) (zc row) (L - 1 + t) L).fmod p).map .int))],s',rfl,?_,rfl,_,_,_,rfl⟩
     exact zm eb (zm es (z0z (z3M (z6C (zn (g:=gAnyI) (a:=.list (((List.range (row.length - (L - 1))).map fun t=>(cvz (zc bl) (zc row) (L - 1 + t) L).fmod p).map .int)) rfl ea))))))
    subst hs hδ
    exact⟨c3,c4,c5,e⟩
   ·have g5:gLt (.int L) (.int 5)=some (.bool false):=by simp only[gLt,gI,if_true,decide_eq_false (show ¬ (L:Int) < 5 by omega)]
    exact stop (z3L t1 (z0F (z8c (a:=.int 0) (b:=.int L) (c:=.int 5) rfl rfl g0 rfl g5)))
  ·have g0:gLt (.int 0) (.int L)=some (.bool false):=by simp only[gLt,gI,if_true,decide_eq_false (show ¬ (0:Int) < (L:Int) by omega)]
   exact stop (z3L t1 (z0F (zaY (a:=.int 0) (b:=.int L) rfl rfl g0)))
 ·rw[decide_eq_false hp4]at t1
  exact stop (z8h t1)
theorem zdX{Fa:FE}{Fl Fh:FP}{δ:Sl}{s:Sx}{xs ys:List D}{lo hi:Option Int}(ha:Fa δ s=some (.list xs,s))(hl:Fl δ s=some (lo,s))(hh:Fh δ s=some (hi,s))(e:L3.cutD xs lo hi=ys):fSl Fa Fl Fh δ s=some (.list ys,s):=by
 unfold fSl;rw[ha];simp only[Option.bind_some,hl,hh,gSlD,e];rfl
theorem zcs{F:FE}{δ:Sl}{s:Sx}{i:Int}(h:F δ s=some (.int i,s)):pInt F δ s=some (some i,s):=by
 unfold pInt;rw[h];rfl
theorem Sh.low{p:Int}{R:Nat->Int}{L N:Nat}{T B:List Int}(hp:Prm p)(F:Sh p R L N T B)(hL:L<=40):Low p T B T B where
 rT:=F.rT
 rB:=F.rB
 nT:=F.nT
 nB:=F.nB
 lT:=by have:=F.lT;omega
 lB:=by have:=F.lB;omega
 b0:=F.b0
 one:=F.one
 co:=fun f rf nf f0 d1 d2=>zgV hp F rf nf f0 d1 d2
 eq:=fun k=>by rw[z6G (z5S T) (z5S B)];exact⟨0,by omega⟩
theorem Sh.best{p:Int}{row T B:List Int}{L:Nat}(hp:Prm p)(F:Sh p (zc row) L row.length T B)(rr:Rs p row):nts (dif p T B row)=row.length:=by
 have ht:=hp.two
 have h1:=zbe (A:=row.length) (by omega) F.b0 F.one rr (Nat.le_refl _) fun k hk=>by
  unfold tells
  rw[z3r]
  exact F.tl k hk
 have h2:=zcX (dif p T B row)
 rw[z8l]at h2
 omega
theorem zbi{p:Int}{row:List Int}(s:Sx)(hp:Prm p)(rr:Rs p row)(ll:row.length<=40):z19 [.int p,.list (row.map .int)] s=some (.bool true,s):=by
 have ht:=hp.two
 obtain⟨L,X,C,B,b,n,e1,S,h1,h2⟩:=z3b (rowd:=ql row) s hp rfl rr ll
 obtain⟨C2,B2,b2,L2,n2,e2,W⟩:=z9F (rowd:=ql row) s hp rfl rr ll
 obtain rfl:L=L2:=S.one W.S
 have hLN:=S.ln
 have e3:=zcr (rowd:=ql row) s hp rfl rr ll S
 have ln:gLen (ql row)=some (.int (row.length:Int)):=by rw[z09 (xs:=row.map .int) rfl,List.length_map]
 have a1:sSet 2 (fCall z01 (aCons (fVar 0) (aCons (fVar 1) aNil))) [qI p,qL row,.non,.non] s=some (.next [qI p,qL row,.val (.tuple [.int L,X]),.non],s):=zE (zk (ds:=[.int p,.list (row.map .int)]) rfl e1)
 have a2:sSet 3 (fCall z0h (aCons (fVar 0) (aCons (fVar 1) aNil))) [qI p,qL row,.val (.tuple [.int L,X]),.non] s=some (.next [qI p,qL row,.val (.tuple [.int L,X]),qI L],s):=zE (zk (ds:=[.int p,.list (row.map .int)]) rfl e2)
 have t3:tOrF (tNotF (asT (f1 (gInst "tuple") (fVar 2)))) (tOrF (asB (f2 gNe (f1 gLen (fVar 2)) (fC (.int 2)))) (tOrF (tNotF (asT (fCall g__law_same (aCons (f2 gIx (fVar 2) (fC (.int 0))) (aCons (fVar 3) aNil))))) (asT (fCall z00 (aCons (fVar 0) (aCons (fVar 1) (aCons (fVar 3) aNil))))))) [qI p,qL row,.val (.tuple [.int L,X]),qI L] s=some (false,s) :=
  z5z (z3M (b:=true) (z6C (zn (a:=.tuple [.int L,X]) rfl rfl))) (z5z (z0F (z9 (a:=.int 2) (b:=.int 2) (zn (a:=.tuple [.int L,X]) rfl rfl) rfl (zc2 2))) (z5z (z3M (b:=true) (z6C (zk (ds:=[.int L,.int L]) (z7 (z9 (a:=.tuple [.int L,X]) (b:=.int 0) rfl rfl rfl) (z7 (F:=fVar 3) (FL:=aNil) rfl rfl)) (zbY 5 (L:Int) s)))) (z6C (zk (ds:=[.int p,.list (row.map .int),.int L]) rfl e3))))
 have t4:asB (f2 gGt (f2 gMulI (fC (.int 2)) (fVar 3)) (f1 gLen (fVar 1))) [qI p,qL row,.val (.tuple [.int L,X]),qI L] s=some (decide (row.length < 2 * L),s) :=
  z0F (z9 (a:=.int (2 * L:Nat)) (b:=.int (row.length:Int)) (z9 (a:=.int 2) (b:=.int L) rfl rfl (z5y (a:=2) (by decide) (by omega))) (zn (a:=ql row) rfl ln) (by
   simp only[gGt,gI,if_true]
   exact congrArg (fun b=>some (PyData.bool b)) (decide_eq_decide.mpr ⟨fun h=>by omega,fun h=>by omega⟩)))
 refine z0d (n:=2) (m:=2) (G:=z2k) rfl ?_
 show z2k [qI p,qL row,.non,.non] s=_
 unfold z2k
 refine zm a1 (zm a2 (zm (z0z t3) ?_))
 by_cases h:row.length < 2 * L
 ·rw[decide_eq_true h]at t4
  rw[h1 h]at t4 ⊢
  have a4:sIf (asB (f2 gGt (f2 gMulI (fC (.int 2)) (fVar 3)) (f1 gLen (fVar 1)))) (sRet (f2 gIs (f2 gIx (fVar 2) (fC (.int 1))) (fC .none))) sNext [qI p,qL row,.val (.tuple [.int L,.none]),qI L] s=some (.ret (.bool true),s):=z5w t4 (z0n (z9 (a:=.none) (b:=.none) (z9 (a:=.tuple [.int L,.none]) (b:=.int 1) rfl rfl rfl) rfl rfl))
  unfold sSeq
  rw[a4]
 ·rw[decide_eq_false h]at t4
  obtain⟨T,B',rfl,F⟩:=h2 (by omega)
  have lw:=F.low hp (by omega)
  have q1:=zdQ s hp lw
  have q2:=z9D (T:=T) (rd:=ql row) s hp F.rB (by have:=F.lB;omega) F.b0 rfl (by omega)
  rw[F.best hp rr]at q2
  have ix:f2 gIx (fVar 2) (fC (.int 1)) [qI p,qL row,.val (.tuple [.int L,oneD T B']),qI L] s=some (oneD T B',s):=z9 (a:=.tuple [.int L,oneD T B']) (b:=.int 1) rfl rfl rfl
  have t5:tOrF (tNotF (asT (fCall zV (aCons (fVar 0) (aCons (f2 gIx (fVar 2) (fC (.int 1))) aNil))))) (asB (f2 gLt (fCall z0g (aCons (fVar 0) (aCons (fVar 1) (aCons (f2 gIx (fVar 2) (fC (.int 1))) aNil)))) (f1 gLen (fVar 1)))) [qI p,qL row,.val (.tuple [.int L,oneD T B']),qI L] s=some (false,s) :=
   z5z (z3M (b:=true) (z6C (zk (ds:=[.int p,oneD T B']) (z7 (F:=fVar 0) rfl (z7 (FL:=aNil) ix rfl)) q1))) (z0F (z9 (a:=.int (row.length:Int)) (b:=.int (row.length:Int)) (zk (ds:=[.int p,.list (row.map .int),oneD T B']) (z7 (F:=fVar 0) rfl (z7 (F:=fVar 1) rfl (z7 (FL:=aNil) ix rfl))) q2) (zn (a:=ql row) rfl ln) (by simp[gLt,gI])))
  have lT:gLen (qt T)=some (.int (T.length:Int)):=by rw[z09 (xs:=T.map .int) rfl,List.length_map]
  have lB:gLen (qt B')=some (.int (B'.length:Int)):=by rw[z09 (xs:=B'.map .int) rfl,List.length_map]
  have hT:=F.lT
  have hB:=F.lB
  have g1:gLe (.int (T.length:Int)) (.int L)=some (.bool true):=by simp only[gLe,gI,if_true,decide_eq_true (show(T.length:Int)<=(L:Int) by omega)]
  have g2:gLe (.int (B'.length:Int)) (.int (L + 1:Nat))=some (.bool true):=by simp only[gLe,gI,if_true,decide_eq_true (show(B'.length:Int)<=((L + 1:Nat):Int) by omega)]
  refine zm (z0z t4) (zm (z0z t5) (z0n (z7s (z9 (a:=.int (T.length:Int)) (b:=.int L) (zn (a:=qt T) (z9 (a:=oneD T B') (b:=.int 0) ix rfl rfl) lT) rfl g1) (z9 (a:=.int (B'.length:Int)) (b:=.int (L + 1:Nat)) (zn (a:=qt B') (z9 (a:=oneD T B') (b:=.int 1) ix rfl rfl) lB) (z9 (a:=.int L) (b:=.int 1) rfl rfl (z2I L)) g2))))
theorem Gen.row{p:Int}{R R' f:Nat->Int}{L N:Nat}(g:Gen p R f L N)(h:∀ j,j < N->R j=R' j):Gen p R' f L N:=⟨g.pl,fun i h1 h2=>by
 rw[<- z4s (R:=R) (R':=R') (fun j hj=>h j (by omega))]
 exact g.z i h1 h2⟩
theorem Bm.grows{p:Int}{R R' C B C' B':Nat->Int}{b b':Int}{L L' n n' N:Nat}(S:Bm p R C B b L n N)(S':Bm p R' C' B' b' L' n' (N + 1))(h:∀ j,j < N->R' j=R j):L<=L':=S.mi _ _ ((S'.g.less (by omega)).row h) S'.c0
theorem zct{p:Int}{row:List Int}{t L:Nat}{C B:Nat->Int}{b:Int}{n:Nat}{c0:Ce}(s:Sx)(hp:Prm p)(rr:Rs p row)(ll:row.length<=24)(ht:t < row.length)(S:Bm p (zc (row.take t)) C B b L n t) :
  ∃ (L1:Nat) (C1 B1:Nat->Int) (b1:Int) (n1:Nat),z6A [c0,qD,qI p,qL row,qL row,qI L,qI (1 + t:Nat)] s=some (.next [c0,qD,qI p,qL row,qL row,qI L1,qI (1 + t:Nat)],s)/\Bm p (zc (row.take (t + 1))) C1 B1 b1 L1 n1 (t + 1):=by
 have rt:Rs p (row.take (1 + t)):=rr.take _
 have lt:(row.take (1 + t)).length=1 + t:=by rw[List.length_take];omega
 obtain⟨L1,X1,C1,B1,b1,n1,e1,S1,_⟩:=z3b (rowd:=ql (row.take (1 + t))) s hp rfl rt (by omega)
 obtain⟨L2,X2,C2,B2,b2,n2,e2,S2,_⟩:=z3b (rowd:=qt (row.take (1 + t))) s hp rfl rt (by omega)
 obtain rfl:L1=L2:=S1.one S2
 have q:=zbi (row:=row.take (1 + t)) s hp rt (by omega)
 rw[lt,Nat.add_comm 1 t]at S1
 have hg:L<=L1:=S.grows S1 fun j hj=>by rw[z8m (by omega),z8m (by omega)]
 have sl:fSl (fVar 3) pNo (pInt (fVar 6)) [c0,qD,qI p,qL row,qL row,qI L,qI (1 + t:Nat)] s=some (.list ((row.take (1 + t)).map .int),s):=zdX (xs:=row.map .int) rfl rfl (zcs rfl) z92
 have t1:tOrF (tNotF (asT (fCall z19 (aCons (fVar 2) (aCons (fSl (fVar 3) pNo (pInt (fVar 6))) aNil))))) (asB (f2 gLt (f2 gIx (fCall z01 (aCons (fVar 2) (aCons (f1 gTuple (fSl (fVar 3) pNo (pInt (fVar 6)))) aNil))) (fC (.int 0))) (fVar 5))) [c0,qD,qI p,qL row,qL row,qI L,qI (1 + t:Nat)] s=some (false,s) :=
  z5z (z3M (b:=true) (z6C (zk (ds:=[.int p,.list ((row.take (1 + t)).map .int)]) (z7 (F:=fVar 2) rfl (z7 (FL:=aNil) sl rfl)) q))) (z0F (z9 (a:=.int L1) (b:=.int L) (z9 (a:=.tuple [.int L1,X2]) (b:=.int 0) (zk (ds:=[.int p,.tuple ((row.take (1 + t)).map .int)]) (z7 (F:=fVar 2) rfl (z7 (FL:=aNil) (zn (g:=gTuple) (a:=ql (row.take (1 + t))) sl rfl) rfl)) e2) rfl rfl) rfl (by simp only[gLt,gI,if_true,decide_eq_false (show ¬ (L1:Int) < (L:Int) by omega)])))
 refine⟨L1,zc C1,zc B1,b1,n1,?_,S1⟩
 unfold z6A
 exact zm (z0z t1) (zE (z9 (a:=.tuple [.int L1,X1]) (b:=.int 0) (zk (ds:=[.int p,.list ((row.take (1 + t)).map .int)]) (z7 (F:=fVar 2) rfl (z7 (FL:=aNil) sl rfl)) e1) rfl rfl))
theorem zdY:∀ cells:List Int,0 < cells.length->cells.length<=63->∃ s',zbX zdF (cells,0)=some (.ret (.bool true),s'):=fun cells h0 h1=>by
 have g0:Good (16 + 100 + 3 + 1) ((cells,0):Sx):=⟨h0,h1,(by show(0:Int)<=0;decide),(by show(0:Int) + ((16 + 100 + 3 + 1:Nat):Int) < 1000000;decide)⟩
 obtain⟨p,s1,e1,hp,g1⟩:=zb4 (n:=16 + 100 + 3) g0
 have ht:=hp.two
 obtain⟨x,s2,e2,hx,g2⟩:=z13 (n:=16 + 100 + 2) (m:=12) g1 (by decide) (by decide)
 obtain⟨y,s3,e3,hy,g3⟩:=z13 (n:=16 + 100 + 1) (m:=12) g2 (by decide) (by decide)
 obtain⟨z,s4,e4,hz,g4⟩:=z13 (n:=16 + 100) (m:=8) g3 (by decide) (by decide)
 obtain⟨many,hm1,hm2,em⟩:∃ many:Nat,1<=many/\many<=24/\gIx (.list [.int (1 + x:Nat),.int (13 + y:Nat)]) (.int (if (z:Int)=0 then 1 else 0))=some (.int many):=by
  by_cases hz0:(z:Int)=0
  ·rw[if_pos hz0];exact⟨13 + y,by omega,by omega,rfl⟩
  ·rw[if_neg hz0];exact⟨1 + x,by omega,by omega,rfl⟩
 obtain⟨l,s5,e5,rl,ll,g5⟩:=zbf (n:=16) hp hm1 hm2 s4 g4
 have one':¬ p∣(1:Int):=fun z=>absurd (z0e (by decide) (by omega) z) (by decide)
 have pl1:Pl 1 (zc [1]):=fun k hk=>z0V (by simpa using hk)
 obtain⟨δ',s6,e6,hs,L,C,B,b,n,x6,hδ,S⟩:=z2F (T:=.one 6) (G:=z6A) (fun t δ s'=>s'=s5/\∃ (L:Nat) (C B:Nat->Int) (b:Int) (n:Nat) (x6:Ce),δ=[.non,qD,qI p,qL l,qL l,qI L,x6]/\Bm p (zc (l.take t)) C B b L n t) (rng ((1:Nat):Int) l.length) [.non,qD,qI p,qL l,qL l,qI (0:Nat),.non] s5 ⟨rfl,0,zc [1],zc [1],1,1,.non,rfl,z6K hp one' one' pl1 pl1⟩ (fun t d δ s hd zgE=>by
  obtain⟨hs,L,C,B,b,n,x6,hδ,S⟩:=zgE
  subst hs hδ
  obtain⟨htn,rfl⟩:=z6H hd
  obtain⟨L1,C1,B1,b1,n1,e,S'⟩:=zct (c0:=.non) s hp rl (by omega) htn S
  exact⟨_,_,s,rfl,e,rfl,L1,C1,B1,b1,n1,_,rfl,S'⟩)
 subst hs hδ
 refine⟨s6,?_⟩
 have ei:f1 gInt (f2 gEq (fCall zg (aCons (fVar 1) (aCons (fC (.int 8)) aNil))) (fC (.int 0))) [.non,qD,qI p,.non,.non,.non,.non] s3=some (.int (if (z:Int)=0 then 1 else 0),s4):=by
  refine zn (a:=.bool (decide ((z:Int)=0))) (z9 (a:=.int z) (b:=.int 0) (zk (ds:=[.dict [],.int 8]) rfl e4) rfl (z1b _ _)) ?_
  by_cases h0:(z:Int)=0
  ·rw[if_pos h0,decide_eq_true h0];rfl
  ·rw[if_neg h0,decide_eq_false h0];rfl
 have em':f2 gIx (eLst (aCons (f2 gAdd (fC (.int 1)) (fCall zg (aCons (fVar 1) (aCons (fC (.int 12)) aNil)))) (aCons (f2 gAdd (fC (.int 13)) (fCall zg (aCons (fVar 1) (aCons (fC (.int 12)) aNil)))) aNil))) (f1 gInt (f2 gEq (fCall zg (aCons (fVar 1) (aCons (fC (.int 8)) aNil))) (fC (.int 0)))) [.non,qD,qI p,.non,.non,.non,.non] s1=some (.int many,s4) :=
  z9 (z0S (z7 (z9 (a:=.int 1) (b:=.int x) (s1:=s1) rfl (zk (ds:=[.dict [],.int 12]) rfl e2) (show gAdd (.int 1) (.int x)=some (.int (1 + x:Nat)) by simp[gAdd,gAddI,gI])) (z7 (FL:=aNil) (z9 (a:=.int 13) (b:=.int y) (s1:=s2) rfl (zk (ds:=[.dict [],.int 12]) rfl e3) (show gAdd (.int 13) (.int y)=some (.int (13 + y:Nat)) by simp[gAdd,gAddI,gI])) rfl)) (small2 _ _)) ei em
 have ln:gLen (ql l)=some (.int (l.length:Int)):=by rw[z09 (xs:=l.map .int) rfl,List.length_map]
 have er:iRange2 (fC (.int 1)) (f2 gAdd (f1 gLen (fVar 3)) (fC (.int 1))) [.non,qD,qI p,qL l,qL l,qI (0:Nat),.non] s6=some (rng ((1:Nat):Int) (l.length + 1 - 1),s6):=z3q (a:=1) (b:=l.length + 1) rfl (z9 (a:=.int (l.length:Int)) (b:=.int 1) (zn (a:=ql l) rfl ln) rfl (z2I _)) (by omega) (by omega)
 rw[Nat.add_sub_cancel]at er
 unfold zbX
 refine zm (δ1:=[.non,qD,qI p,.non,.non,.non,.non]) (s1:=s1) (zE (zk (ds:=[.dict []]) rfl e1)) (zm (δ1:=[.non,qD,qI p,qL l,.non,.non,.non]) (s1:=s6) (zE (zk (ds:=[.dict [],.int p,.int many]) (z7 (F:=fVar 1) rfl (z7 (F:=fVar 2) rfl (z7 (FL:=aNil) em' rfl))) e5)) (zm (δ1:=[.non,qD,qI p,qL l,qL l,.non,.non]) (s1:=s6) rfl (zm (δ1:=[.non,qD,qI p,qL l,qL l,qI (0:Nat),.non]) (s1:=s6) rfl (zm (δ1:=[.non,qD,qI p,qL l,qL l,qI L,x6]) (s1:=s6) ?_ (z0n (z9 (a:=ql l) (b:=ql l) rfl rfl (zc5 l)))))))
 unfold zaE sFor
 rw[er]
 exact e6
theorem zeX{f:Addr}{fd:FuncData}(F:Fun K "law" "law" z81 f fd)(hb:∃ f fd,FnOk P w K mg base CX0 1 f fd ["_law_script"] (spBegin K)/\mg "_law_begin"=some (.ref f)/\PySem.W.keepIn K (.ref f)=true/\Binds K fd ["_law_script"] [])(z0A:Cal P w K mg base "shortest_by" ["p","row"] 5 z01)(zC:Cal P w K mg base "_law_take" ["_law_state","_law_many"] 1 zg)(z3e:Cal P w K mg base "_law_prime" ["_law_state"] 2 z1F)(z2K:Cal P w K mg base "_law_row_by" ["_law_state","_law_p","_law_many"] 3 z1n)(z3f:Cal P w K mg base "_law_right" ["_law_p","_law_row"] 8 z19)(z4u:mg "int"=none)(zN:mg "len"=none)(z0J:mg "list"=none)(zI:mg "range"=none)(zP:mg "tuple"=none)
  (run:∀ cells:List Int,0 < cells.length->cells.length<=63->∃ s',zbX zdF (cells,0)=some (.ret (.bool true),s')):FnOk P w K mg base CX0 9 f fd ["_law_script"] (spLaw K):=by
 obtain⟨fb,fdb,Gb,mb,kb,bb⟩:=hb
 have nd:=sc_law.nd
 refine F.ok sc_law (fun vs H Q E zgF=>by obtain⟨a,ns,e,_⟩:=zgF;subst e;rfl) (fun cdv A outer s H vs Q E hr zgG=>?_)
 obtain⟨a,ns,e,sq,hl,q⟩:=zgG
 subst e
 refine⟨_,zK (z2u (i:=1) nd rfl (by first | exact Or.inl rfl | exact Or.inr rfl) (z7K Gb (hr.mono (by decide)) rfl mb kb bb .nil pass0 (zS (pv 0) z0U)))
  (DSs.any ((dss_cons (ds_set (i:=2) nd (zH z3e hr (z8 (dv 1) zj)))
   (dss_cons (ds_set (i:=3) nd (zH z2K hr (z8 (dv 1) (z8 (dv 2) (z8 (z0c (z1A (z8 (de_op dadd (de_int).w (zH zC hr (z8 (dv 1) (z8 de_int zj))).w) (z8 (de_op dadd (de_int).w (zH zC hr (z8 (dv 1) (z8 de_int zj))).w) zj))).w (z4I zcG rfl z4u (z2a (deq hr.units) (zH zC hr (z8 (dv 1) (z8 de_int zj))).w (de_int).w (nomark _)).w).w (fun _ _=>rfl)) zj)))))
   (dss_cons (ds_set (i:=4) nd (z4I z7S rfl z0J (dv 3).w))
   (dss_cons (ds_set (i:=5) nd de_int)
   (dss_cons (z2M (z3Z zI de_int (de_op dadd (z0v z05 rfl zN (dv 3).w).w (de_int).w)) (z0o (i:=6) nd) (dss_cons (z1U (z6l (z3Y (z20 (zH z3f hr (z8 (dv 2) (z8 (z2b (dv 3) z7c (z4C (dv 6).w)) zj))).w (fun _=>rfl))) (z5e (z04 dlt (z0c (zH z0A hr (z8 (dv 2) (z8 (z4I z2C rfl zP (z2b (dv 3) z7c (z4C (dv 6).w)).w) zj))).w (de_int).w (fun _ _=>rfl)).w (dv 5).w (nomark _)))).t (zh (zG z5c)) z08)
   (zh (ds_set (i:=5) nd (z0c (zH z0A hr (z8 (dv 2) (z8 (z2b (dv 3) z7c (z4C (dv 6).w)) zj))).w (de_int).w (fun _ _=>rfl))))))
   (zh (zG (z2a (deq hr.units) (dv 3).w (dv 4).w (nomark _))))))))):DSs _ _ zbX)),?_⟩
 refine⟨_,rfl,a,ns,rfl,sq,hl,fun st c H' same h1 h2=>?_⟩
 obtain⟨s',hrun⟩:=run (beginCells ns) (z7b ns hl).1 (z7b ns hl).2
 refine⟨some (st,c),[],[],zdF,(beginCells ns,0),_,s',Al.repS (.non (.val (.st rfl) (.non (.non (.non (.non (.non .nil))))))) (fun q hq=>nomatch hq) (fun b o eb _=>same b o eb),(fun a c h=>by cases h;exact⟨h1,h2⟩),hrun,fun v H2 x S r=>by cases r;exact q H2⟩
end
theorem all_mk{l:PySem.W.OpenLaw}{w:World}{K:PySem.W.Frag}{h:Heap}{mg:Str->Option Value}{fa:Addr}(X:K.In h)(G:h.Ns mainGlobals mg)(hfa:mg "law"=some (.ref fa))
  {C0:Addr}
  {C1:Addr}
  (d0:FD K "inverse_by" z30)
  (d1:FD K "trimmed" z5k)
  (d2:FD K "paired" z6t)
  (d3:FD K "less_in" z43)
  (d4:FD K "product_in" z31)
  (d5:FD K "number_at" z3G)
  (d6:FD K "weighed" z5l)
  (d7:FD K "top_with" z3m)
  (d8:FD K "settled_by" z1B)
  (d9:FD K "shortest_by" z2G)
  (d10:FD K "_law_begin" z32)
  (d11:FD K "_law_take" z3H)
  (d12:FD K "_law_same" z3I)
  (d13:FD K "_law_prime" z33)
  (d14:FD K "_law_inverse" z2o)
  (d15:FD K "_law_cut" z4i)
  (d16:FD K "_law_left_by" z2p)
  (d17:FD K "_law_factor_by" z1J)
  (d18:FD K "_law_series_by" z1K)
  (d19:FD K "_law_poly_by" z0Y)
  (d20:FD K "_law_is_quotient_by" z0i)
  (d21:FD K "_law_agreed_by" z0Z)
  (d22:FD K "_law_row_by" z1d)
  (d23:FD K "_law_length_by" z10)
  (d24:FD K "_law_some_shorter" zU)
  (d25:FD K "_law_right" z34)
  (d26:FD K "law" z81)
  (aC0:PySem.W.nsIn K mainGlobals "PrimeField"=some (some (.ref C0))) (cl0:Cls K C0) (mk0:PySem.W.makesIn K C0=true) (kc0:PySem.W.keepIn K (.ref C0)=true)
  (na0_prime:PySem.W.findIn K (.ref C0) "prime"=some none)
  (na0_nought:PySem.W.findIn K (.ref C0) "nought"=some none)
  (na0_unit:PySem.W.findIn K (.ref C0) "unit"=some none)
  (m0___init__:MD K C0 "__init__" "PrimeField.__init__" z0j)
  (m0_added:MD K C0 "added" "PrimeField.added" z1e)
  (m0_lessened:MD K C0 "lessened" "PrimeField.lessened" z0K)
  (m0_multiplied:MD K C0 "multiplied" "PrimeField.multiplied" z0y)
  (m0_divided:MD K C0 "divided" "PrimeField.divided" z0W)
  (m0_simplest:MD K C0 "simplest" "PrimeField.simplest" z0L)
  (aC1:PySem.W.nsIn K mainGlobals "Mender"=some (some (.ref C1))) (cl1:Cls K C1) (mk1:PySem.W.makesIn K C1=true) (kc1:PySem.W.keepIn K (.ref C1)=true)
  (na1_field:PySem.W.findIn K (.ref C1) "field"=some none)
  (na1_off:PySem.W.findIn K (.ref C1) "off"=some none)
  (na1_rises:PySem.W.findIn K (.ref C1) "rises"=some none)
  (na1_below:PySem.W.findIn K (.ref C1) "below"=some none)
  (na1_failed:PySem.W.findIn K (.ref C1) "failed"=some none)
  (na1_fault:PySem.W.findIn K (.ref C1) "fault"=some none)
  (na1_since:PySem.W.findIn K (.ref C1) "since"=some none)
  (m1___init__:MD K C1 "__init__" "Mender.__init__" z0t)
  (m1_height:MD K C1 "height" "Mender.height" z22)
  (m1_grow:MD K C1 "grow" "Mender.grow" z1V)
  (m1_mended:MD K C1 "mended" "Mender.mended" z23)
  (m1_is_sure:MD K C1 "is_sure" "Mender.is_sure" z1L)
  (z_all:PySem.W.nsIn K mainGlobals "all"=some none)
  (z_any:PySem.W.nsIn K mainGlobals "any"=some none)
  (z_bool:PySem.W.nsIn K mainGlobals "bool"=some none)
  (z_divmod:PySem.W.nsIn K mainGlobals "divmod"=some none)
  (z_enumerate:PySem.W.nsIn K mainGlobals "enumerate"=some none)
  (z_int:PySem.W.nsIn K mainGlobals "int"=some none)
  (z_isinstance:PySem.W.nsIn K mainGlobals "isinstance"=some none)
  (z_len:PySem.W.nsIn K mainGlobals "len"=some none)
  (z_list:PySem.W.nsIn K mainGlobals "list"=some none)
  (z_max:PySem.W.nsIn K mainGlobals "max"=some none)
  (z_min:PySem.W.nsIn K mainGlobals "min"=some none)
  (z_range:PySem.W.nsIn K mainGlobals "range"=some none)
  (z_str:PySem.W.nsIn K mainGlobals "str"=some none)
  (z_sum:PySem.W.nsIn K mainGlobals "sum"=some none)
  (z_tuple:PySem.W.nsIn K mainGlobals "tuple"=some none)
  (z_zip:PySem.W.nsIn K mainGlobals "zip"=some none) :
  ∃ fd:FuncData,(∀ (s:Shared) (v:Value),BindsTo s fd ⟨[v],[]⟩ [("_law_script",v)])/\∀ base:Heap,K.In base->base.Ns mainGlobals mg->FnOk l.prog w K mg base CX0 9 fa fd ["_law_script"] (spLaw K):=by
 cases d26 with
 | @mk fL od an sl oc kV dc pm cd ct aL lL cL kL =>
 have e:=hfa.symm.trans (PySem.W.mg_of X G aL)
 cases e
 have z8q:=PySem.W.mg_none_of X G z_all
 have zdZ:=PySem.W.mg_none_of X G z_any
 have z5M:=PySem.W.mg_none_of X G z_bool
 have z6P:=PySem.W.mg_none_of X G z_divmod
 have z0q:=PySem.W.mg_none_of X G z_enumerate
 have z4u:=PySem.W.mg_none_of X G z_int
 have zA:=PySem.W.mg_none_of X G z_isinstance
 have zN:=PySem.W.mg_none_of X G z_len
 have z0J:=PySem.W.mg_none_of X G z_list
 have z9J:=PySem.W.mg_none_of X G z_max
 have z6Q:=PySem.W.mg_none_of X G z_min
 have zI:=PySem.W.mg_none_of X G z_range
 have zbm:=PySem.W.mg_none_of X G z_str
 have z9K:=PySem.W.mg_none_of X G z_sum
 have zP:=PySem.W.mg_none_of X G z_tuple
 have z8r:=PySem.W.mg_none_of X G z_zip
 have ii0:IsI K mg "PrimeField" "PrimeField.__init__" z0j ["prime","nought","unit"]:=MD.init X G aC0 cl0 mk0 kc0 (by intro x hx;simp only[List.mem_cons,List.not_mem_nil,or_false]at hx;(rcases hx with rfl | rfl | rfl) <;> first | exact na0_prime | exact na0_nought | exact na0_unit) m0___init__
 have j_PrimeField_added:=MD.is aC0 cl0 m0_added
 have j_PrimeField_lessened:=MD.is aC0 cl0 m0_lessened
 have j_PrimeField_multiplied:=MD.is aC0 cl0 m0_multiplied
 have j_PrimeField_divided:=MD.is aC0 cl0 m0_divided
 have j_PrimeField_simplest:=MD.is aC0 cl0 m0_simplest
 have ii1:IsI K mg "Mender" "Mender.__init__" z0t ["field","off","rises","below","failed","fault","since"]:=MD.init X G aC1 cl1 mk1 kc1 (by intro x hx;simp only[List.mem_cons,List.not_mem_nil,or_false]at hx;(rcases hx with rfl | rfl | rfl | rfl | rfl | rfl | rfl) <;> first | exact na1_field | exact na1_off | exact na1_rises | exact na1_below | exact na1_failed | exact na1_fault | exact na1_since) m1___init__
 have j_Mender_height:=MD.is aC1 cl1 m1_height
 have j_Mender_grow:=MD.is aC1 cl1 m1_grow
 have j_Mender_mended:=MD.is aC1 cl1 m1_mended
 have j_Mender_is_sure:=MD.is aC1 cl1 m1_is_sure
 have f_below:∀ c∈(["Mender"]:List Str),FCal K c "below":=by intro c hc;simp only[List.mem_cons,List.not_mem_nil,or_false]at hc;(rcases hc with rfl) <;> first | exact⟨C1,aC1,cl1,na1_below⟩
 have f_failed:∀ c∈(["Mender"]:List Str),FCal K c "failed":=by intro c hc;simp only[List.mem_cons,List.not_mem_nil,or_false]at hc;(rcases hc with rfl) <;> first | exact⟨C1,aC1,cl1,na1_failed⟩
 have f_fault:∀ c∈(["Mender"]:List Str),FCal K c "fault":=by intro c hc;simp only[List.mem_cons,List.not_mem_nil,or_false]at hc;(rcases hc with rfl) <;> first | exact⟨C1,aC1,cl1,na1_fault⟩
 have f_field:∀ c∈(["Mender"]:List Str),FCal K c "field":=by intro c hc;simp only[List.mem_cons,List.not_mem_nil,or_false]at hc;(rcases hc with rfl) <;> first | exact⟨C1,aC1,cl1,na1_field⟩
 have f_nought:∀ c∈(["PrimeField"]:List Str),FCal K c "nought":=by intro c hc;simp only[List.mem_cons,List.not_mem_nil,or_false]at hc;(rcases hc with rfl) <;> first | exact⟨C0,aC0,cl0,na0_nought⟩
 have f_off:∀ c∈(["Mender"]:List Str),FCal K c "off":=by intro c hc;simp only[List.mem_cons,List.not_mem_nil,or_false]at hc;(rcases hc with rfl) <;> first | exact⟨C1,aC1,cl1,na1_off⟩
 have f_prime:∀ c∈(["PrimeField"]:List Str),FCal K c "prime":=by intro c hc;simp only[List.mem_cons,List.not_mem_nil,or_false]at hc;(rcases hc with rfl) <;> first | exact⟨C0,aC0,cl0,na0_prime⟩
 have f_rises:∀ c∈(["Mender"]:List Str),FCal K c "rises":=by intro c hc;simp only[List.mem_cons,List.not_mem_nil,or_false]at hc;(rcases hc with rfl) <;> first | exact⟨C1,aC1,cl1,na1_rises⟩
 have f_since:∀ c∈(["Mender"]:List Str),FCal K c "since":=by intro c hc;simp only[List.mem_cons,List.not_mem_nil,or_false]at hc;(rcases hc with rfl) <;> first | exact⟨C1,aC1,cl1,na1_since⟩
 have f_unit:∀ c∈(["PrimeField"]:List Str),FCal K c "unit":=by intro c hc;simp only[List.mem_cons,List.not_mem_nil,or_false]at hc;(rcases hc with rfl) <;> first | exact⟨C0,aC0,cl0,na0_unit⟩
 have z7D:=FD.is X G d0
 have zbk:=FD.is X G d1
 have zcv:=FD.is X G d2
 have zbj:=FD.is X G d3
 have z7E:=FD.is X G d4
 have z8p:=FD.is X G d5
 have zbl:=FD.is X G d6
 have z9I:=FD.is X G d7
 have z7F:=FD.is X G d8
 have z6O:=FD.is X G d9
 have z7A:=FD.is X G d10
 have z8o:=FD.is X G d11
 have z8n:=FD.is X G d12
 have z7B:=FD.is X G d13
 have z5T:=FD.is X G d14
 have z9H:=FD.is X G d15
 have z5U:=FD.is X G d16
 have z4P:=FD.is X G d17
 have z4R:=FD.is X G d18
 have z5V:=FD.is X G d19
 have z3i:=FD.is X G d20
 have z4O:=FD.is X G d21
 have z6N:=FD.is X G d22
 have z4Q:=FD.is X G d23
 have z3R:=FD.is X G d24
 have z7C:=FD.is X G d25
 refine⟨PySem.W.fnOf "law" "law" (defArgs z81) (defBody z81) (defScope z81) .none kV dc pm an cd ct,fun s v=>.of_eq rfl,fun base _ _=>?_⟩
 have k_PrimeField:KCal l.prog w K mg base "PrimeField" 1 ["prime","nought","unit"] z0k:=z2S ii0
 have z4d:MCal l.prog w K mg base "PrimeField" "added" 1 zF:=z3J j_PrimeField_added f_prime
 have z3c:MCal l.prog w K mg base "PrimeField" "lessened" 1 zD:=z2T j_PrimeField_lessened f_prime
 have z2J:MCal l.prog w K mg base "PrimeField" "multiplied" 1 zy:=z2y j_PrimeField_multiplied f_prime
 have z3g:Cal l.prog w K mg base "inverse_by" ["prime","one"] 1 z1C:=z6u z7D
 have z3t:MCal l.prog w K mg base "PrimeField" "divided" 2 zw:=z35 j_PrimeField_divided z3g f_prime
 have z3d:MCal l.prog w K mg base "PrimeField" "simplest" 1 zL:=z2U j_PrimeField_simplest zP
 have z5J:MCal l.prog w K mg base "Mender" "height" 1 zu:=z4J j_Mender_height f_rises
 have z3Q:Cal l.prog w K mg base "number_at" ["field","row","place"] 1 z24:=z7i z8p zN f_nought
 have m_added:∀ c g,([("PrimeField",zF)]:List (Str × GF)).lookup c=some g->∃ k,k<=1/\MCal l.prog w K mg base c "added" k g:=(z2c ⟨1,(by decide),z4d⟩ z2Z)
 have m_multiplied:∀ c g,([("PrimeField",zy)]:List (Str × GF)).lookup c=some g->∃ k,k<=1/\MCal l.prog w K mg base c "multiplied" k g:=(z2c ⟨1,(by decide),z2J⟩ z2Z)
 have z2B:Cal l.prog w K mg base "weighed" ["field","weights","row","place"] 2 z1E:=z9r zbl z3Q z0q f_nought m_added m_multiplied
 have z1q:Cal l.prog w K mg base "trimmed" ["nought","row"] 1 z1f:=z9s zbk zN zP
 have z2l:Cal l.prog w K mg base "product_in" ["field","one","other"] 2 z02:=z6v z7E z1q z0q zN f_nought m_added m_multiplied
 have z6M:Cal l.prog w K mg base "paired" ["field","one","other"] 1 z3n:=zaC zcv zN z0J z9J z8r f_nought
 have m_lessened:∀ c g,([("PrimeField",zD)]:List (Str × GF)).lookup c=some g->∃ k,k<=1/\MCal l.prog w K mg base c "lessened" k g:=(z2c ⟨1,(by decide),z3c⟩ z2Z)
 have z5L:Cal l.prog w K mg base "less_in" ["field","one","other"] 2 z25:=z9t zbj z1q z6M f_nought m_lessened
 have m_simplest:∀ c g,([("PrimeField",zL)]:List (Str × GF)).lookup c=some g->∃ k,k<=1/\MCal l.prog w K mg base c "simplest" k g:=(z2c ⟨1,(by decide),z3d⟩ z2Z)
 have z5K:MCal l.prog w K mg base "Mender" "mended" 3 z03:=z4K j_Mender_mended z2l z5L f_below f_failed f_fault f_field f_nought f_since m_simplest
 have zcu:MCal l.prog w K mg base "Mender" "grow" 1 z46:=z5P j_Mender_grow
 have m_height:∀ c g,([("Mender",zu)]:List (Str × GF)).lookup c=some g->∃ k,k<=1/\MCal l.prog w K mg base c "height" k g:=(z2c ⟨1,(by decide),z5J⟩ z2Z)
 have z4N:MCal l.prog w K mg base "Mender" "is_sure" 2 zR:=z4j j_Mender_is_sure f_off m_height
 have z4t:Cal l.prog w K mg base "top_with" ["field","below","row","many"] 3 z2z:=z82 z9I z2B z1q zI f_nought
 have m_divided:∀ c g,([("PrimeField",zw)]:List (Str × GF)).lookup c=some g->∃ k,k<=2/\MCal l.prog w K mg base c "divided" k g:=(z2c ⟨2,(by decide),z3t⟩ z2Z)
 have z3h:Cal l.prog w K mg base "settled_by" ["field","top","below"] 3 z18:=z6w z7F zP f_nought m_divided
 have m_is_sure:∀ c g,([("Mender",zR)]:List (Str × GF)).lookup c=some g->∃ k,k<=2/\MCal l.prog w K mg base c "is_sure" k g:=(z2c ⟨2,(by decide),z4N⟩ z2Z)
 have m_mended:∀ c g,([("Mender",z03)]:List (Str × GF)).lookup c=some g->∃ k,k<=3/\MCal l.prog w K mg base c "mended" k g:=(z2c ⟨3,(by decide),z5K⟩ z2Z)
 have z0A:Cal l.prog w K mg base "shortest_by" ["p","row"] 5 z01:=z5Q aC1 (z9u aC1 ii1 f_unit) (z9v aC1 j_Mender_grow ii1 z2B zN f_below f_field f_nought f_off m_height m_mended) z6O z4t z3h zN zI f_below m_height m_is_sure k_PrimeField
 have z7z:=z6x (P:=l.prog) (w:=w) (base:=base) z7A z0J
 have zC:Cal l.prog w K mg base "_law_take" ["_law_state","_law_many"] 1 zg:=z7l z8o zN z6P
 have z3P:Cal l.prog w K mg base "_law_same" ["_law_found","_law_due"] 7 g__law_same:=z48 z8n z8q z5M z4u zA zN z0J zbm zP z8r 6
 have z3e:Cal l.prog w K mg base "_law_prime" ["_law_state"] 2 z1F:=z6y z7B zC
 have z0E:Cal l.prog w K mg base "_law_inverse" ["_law_p","_law_one"] 1 zO:=z5q z5T
 have z1Y:Cal l.prog w K mg base "_law_cut" ["_law_numbers"] 1 z0R:=z8a z9H z0J zP
 have z2s:Cal l.prog w K mg base "_law_left_by" ["_law_p","_law_one","_law_other"] 2 z0p:=z5r z5U z0E z1Y zN z0J zI zP
 have z1R:Cal l.prog w K mg base "_law_factor_by" ["_law_p","_law_one","_law_other"] 3 z0D:=z4k z4P z2s
 have hC__law_series_by:CalC l.prog w K mg base "_law_series_by" ["_law_p","_law_one","_law_many"] 1 zY:=z4l z4R zN z6Q zI
 have z1T:Cal l.prog w K mg base "_law_series_by" ["_law_p","_law_one","_law_many"] 1 z1M:=hC__law_series_by.cal
 have z1z:Cal l.prog w K mg base "_law_poly_by" ["_law_state","_law_p","_law_most"] 2 z0b:=z5s z5V zC z1Y z4u zI
 have z0Q:Cal l.prog w K mg base "_law_is_quotient_by" ["_law_p","_law_thing"] 4 zV:=z2V z3i z1R z8q z5M z4u zA zN zP
 have z1Q:Cal l.prog w K mg base "_law_agreed_by" ["_law_p","_law_row","_law_one"] 2 z0g:=z4m z4O z1T zN z6Q zI
 have z2K:Cal l.prog w K mg base "_law_row_by" ["_law_state","_law_p","_law_many"] 3 z1n:=z5R z6N zC z1z hC__law_series_by zI
 have z1S:Cal l.prog w K mg base "_law_length_by" ["_law_p","_law_row"] 2 z0h:=z4n z4Q z0E z0q zN z9J z6Q zI z9K
 have z17:Cal l.prog w K mg base "_law_some_shorter" ["_law_p","_law_row","_law_n"] 1 z00:=z3s z3R zdZ zN zI z9K
 have z3f:Cal l.prog w K mg base "_law_right" ["_law_p","_law_row"] 8 z19:=z6z z7C z0A z3P z0Q z1Q z1S z17 zA zN zP
 exact zeX (z8z (st:=z81) lL cL kL) z7z z0A zC z3e z2K z3f z4u zN z0J zI zP zdY
theorem walk{l:PySem.W.OpenLaw}{q:Program}{loose:List Str}{XP:(Str->Option Value)->Heap->Prop}{YP:World->Heap->Prop}{d:DefRec}{K:Params->PySem.W.Frag}(hn:l.most=some 63)(hdf:d.params.defaults=[])
  (hY:∀ (w:World) (h:Heap),YP w h->(K w.params).In h)
  (F:∀ (w:World) (mg:Str->Option Value) (fa:Addr) (h:Heap),(K w.params).In h->h.Ns mainGlobals mg->mg d.name=some (.ref fa) ->
   ∃ fd:FuncData,(∀ (s:Shared) (u:Value),BindsTo s fd ⟨[u],[]⟩ [("_law_script",u)])/\∀ base:Heap,(K w.params).In base->base.Ns mainGlobals mg->FnOk l.prog w (K w.params) mg base CX0 9 fa fd ["_law_script"] (spLaw (K w.params))) :
  PySem.W.WalkO q loose XP YP l.row.toRowW d [] (fun f vs=>PySem.call f vs) :=
 L2.walk_ofK (n:=63) (k:=9) (x:="_law_script") (CX:=CX0) (sp:=spLaw) hn (by decide) hdf ⟨rfl,by decide,by decide⟩ hY F (fun _ H a ns hl _ hS=>⟨a,ns,rfl,hS,hl,fun _=>rfl⟩) fun _ _ _ _ z=>z
end Law
namespace PySem.W.Fast
theorem tw4948370520251588570:True:=⟨⟩
theorem tw16810340452174522181:True:=⟨⟩
theorem tw4231556329093588451:True:=⟨⟩
theorem tw11408640678082294621:True:=⟨⟩
theorem tw2519803366867396384:True:=⟨⟩
theorem tw1167109401299155223:True:=⟨⟩
theorem tw9278525079614598162:True:=⟨⟩
theorem tw14897680445318486526:True:=⟨⟩
theorem tw860041956472360280:True:=⟨⟩
theorem tw3717817438965724202:True:=⟨⟩
theorem tw975698493105040773:True:=⟨⟩
theorem tw11970742395206954568:True:=⟨⟩
theorem tw3269982448323015391:True:=⟨⟩
theorem tw15317344869691585481:True:=⟨⟩
theorem tw11060603563793888141:True:=⟨⟩
theorem tw9825292264187656190:True:=⟨⟩
end PySem.W.Fast
open PySem PySem.W PyProof.Rows
set_option maxRecDepth 100000 in
set_option maxHeartbeats 0 in
theorem PySem.Challenge.cw_farquotient_k54_shortest_by_a_prime_holds : PySem.Challenge.rw_farquotient_k54_shortest_by_a_prime.Holds := by
 w_on;o_law;k_head;(case hw=>w_witness2)
 k_fill
 refine Law.walk (l:=PySem.Challenge.rw_farquotient_k54_shortest_by_a_prime) rfl rfl (fun w h Y=>PySem.W.kIn_of Y) ?F
 case F =>
  intro w mg fa h KX G hmg
  refine' Law.all_mk KX G hmg (.mk ?a0 ?l0 ?c0 ?k0) (.mk ?a1 ?l1 ?c1 ?k1) (.mk ?a2 ?l2 ?c2 ?k2) (.mk ?a3 ?l3 ?c3 ?k3) (.mk ?a4 ?l4 ?c4 ?k4) (.mk ?a5 ?l5 ?c5 ?k5) (.mk ?a6 ?l6 ?c6 ?k6) (.mk ?a7 ?l7 ?c7 ?k7) (.mk ?a8 ?l8 ?c8 ?k8) (.mk ?a9 ?l9 ?c9 ?k9) (.mk ?a10 ?l10 ?c10 ?k10) (.mk ?a11 ?l11 ?c11 ?k11) (.mk ?a12 ?l12 ?c12 ?k12) (.mk ?a13 ?l13 ?c13 ?k13) (.mk ?a14 ?l14 ?c14 ?k14) (.mk ?a15 ?l15 ?c15 ?k15) (.mk ?a16 ?l16 ?c16 ?k16) (.mk ?a17 ?l17 ?c17 ?k17) (.mk ?a18 ?l18 ?c18 ?k18) (.mk ?a19 ?l19 ?c19 ?k19) (.mk ?a20 ?l20 ?c20 ?k20) (.mk ?a21 ?l21 ?c21 ?k21) (.mk ?a22 ?l22 ?c22 ?k22) (.mk ?a23 ?l23 ?c23 ?k23) (.mk ?a24 ?l24 ?c24 ?k24) (.mk ?a25 ?l25 ?c25 ?k25) (.mk ?a26 ?l26 ?c26 ?k26) ?aC0 ⟨?pg0,?hd0,?po0,?sa0⟩ ?mk0 ?kc0 ?na0_prime ?na0_nought ?na0_unit (.mk ?am0___init__ ?im0___init__ ?lm0___init__ ?cm0___init__ ?km0___init__) (.mk ?am0_added ?im0_added ?lm0_added ?cm0_added ?km0_added) (.mk ?am0_lessened ?im0_lessened ?lm0_lessened ?cm0_lessened ?km0_lessened) (.mk ?am0_multiplied ?im0_multiplied ?lm0_multiplied ?cm0_multiplied ?km0_multiplied) (.mk ?am0_divided ?im0_divided ?lm0_divided ?cm0_divided ?km0_divided) (.mk ?am0_simplest ?im0_simplest ?lm0_simplest ?cm0_simplest ?km0_simplest) ?aC1 ⟨?pg1,?hd1,?po1,?sa1⟩ ?mk1 ?kc1 ?na1_field ?na1_off ?na1_rises ?na1_below ?na1_failed ?na1_fault ?na1_since (.mk ?am1___init__ ?im1___init__ ?lm1___init__ ?cm1___init__ ?km1___init__) (.mk ?am1_height ?im1_height ?lm1_height ?cm1_height ?km1_height) (.mk ?am1_grow ?im1_grow ?lm1_grow ?cm1_grow ?km1_grow) (.mk ?am1_mended ?im1_mended ?lm1_mended ?cm1_mended ?km1_mended) (.mk ?am1_is_sure ?im1_is_sure ?lm1_is_sure ?cm1_is_sure ?km1_is_sure) ?z_all ?z_any ?z_bool ?z_divmod ?z_enumerate ?z_int ?z_isinstance ?z_len ?z_list ?z_max ?z_min ?z_range ?z_str ?z_sum ?z_tuple ?z_zip
  (case a0=>k_is)
  (case l0=>k_is)
  (case c0=>k_is)
  (case k0=>k_is)
  (case a1=>k_is)
  (case l1=>k_is)
  (case c1=>k_is)
  (case k1=>k_is)
  (case a2=>k_is)
  (case l2=>k_is)
  (case c2=>k_is)
  (case k2=>k_is)
  (case a3=>k_is)
  (case l3=>k_is)
  (case c3=>k_is)
  (case k3=>k_is)
  (case a4=>k_is)
  (case l4=>k_is)
  (case c4=>k_is)
  (case k4=>k_is)
  (case a5=>k_is)
  (case l5=>k_is)
  (case c5=>k_is)
  (case k5=>k_is)
  (case a6=>k_is)
  (case l6=>k_is)
  (case c6=>k_is)
  (case k6=>k_is)
  (case a7=>k_is)
  (case l7=>k_is)
  (case c7=>k_is)
  (case k7=>k_is)
  (case a8=>k_is)
  (case l8=>k_is)
  (case c8=>k_is)
  (case k8=>k_is)
  (case a9=>k_is)
  (case l9=>k_is)
  (case c9=>k_is)
  (case k9=>k_is)
  (case a10=>k_is)
  (case l10=>k_is)
  (case c10=>k_is)
  (case k10=>k_is)
  (case a11=>k_is)
  (case l11=>k_is)
  (case c11=>k_is)
  (case k11=>k_is)
  (case a12=>k_is)
  (case l12=>k_is)
  (case c12=>k_is)
  (case k12=>k_is)
  (case a13=>k_is)
  (case l13=>k_is)
  (case c13=>k_is)
  (case k13=>k_is)
  (case a14=>k_is)
  (case l14=>k_is)
  (case c14=>k_is)
  (case k14=>k_is)
  (case a15=>k_is)
  (case l15=>k_is)
  (case c15=>k_is)
  (case k15=>k_is)
  (case a16=>k_is)
  (case l16=>k_is)
  (case c16=>k_is)
  (case k16=>k_is)
  (case a17=>k_is)
  (case l17=>k_is)
  (case c17=>k_is)
  (case k17=>k_is)
  (case a18=>k_is)
  (case l18=>k_is)
  (case c18=>k_is)
  (case k18=>k_is)
  (case a19=>k_is)
  (case l19=>k_is)
  (case c19=>k_is)
  (case k19=>k_is)
  (case a20=>k_is)
  (case l20=>k_is)
  (case c20=>k_is)
  (case k20=>k_is)
  (case a21=>k_is)
  (case l21=>k_is)
  (case c21=>k_is)
  (case k21=>k_is)
  (case a22=>k_is)
  (case l22=>k_is)
  (case c22=>k_is)
  (case k22=>k_is)
  (case a23=>k_is)
  (case l23=>k_is)
  (case c23=>k_is)
  (case k23=>k_is)
  (case a24=>k_is)
  (case l24=>k_is)
  (case c24=>k_is)
  (case k24=>k_is)
  (case a25=>k_is)
  (case l25=>k_is)
  (case c25=>k_is)
  (case k25=>k_is)
  (case a26=>k_is)
  (case l26=>k_is)
  (case c26=>k_is)
  (case k26=>k_is)
  (case aC0=>k_is)
  (case pg0=>k_is)
  (case hd0=>k_is)
  (case po0=>k_is)
  (case sa0=>k_is)
  (case mk0=>k_is)
  (case kc0=>k_is)
  (case na0_prime=>k_is)
  (case na0_nought=>k_is)
  (case na0_unit=>k_is)
  (case am0___init__=>k_is)
  (case im0___init__=>k_is)
  (case lm0___init__=>k_is)
  (case cm0___init__=>k_is)
  (case km0___init__=>k_is)
  (case am0_added=>k_is)
  (case im0_added=>k_is)
  (case lm0_added=>k_is)
  (case cm0_added=>k_is)
  (case km0_added=>k_is)
  (case am0_lessened=>k_is)
  (case im0_lessened=>k_is)
  (case lm0_lessened=>k_is)
  (case cm0_lessened=>k_is)
  (case km0_lessened=>k_is)
  (case am0_multiplied=>k_is)
  (case im0_multiplied=>k_is)
  (case lm0_multiplied=>k_is)
  (case cm0_multiplied=>k_is)
  (case km0_multiplied=>k_is)
  (case am0_divided=>k_is)
  (case im0_divided=>k_is)
  (case lm0_divided=>k_is)
  (case cm0_divided=>k_is)
  (case km0_divided=>k_is)
  (case am0_simplest=>k_is)
  (case im0_simplest=>k_is)
  (case lm0_simplest=>k_is)
  (case cm0_simplest=>k_is)
  (case km0_simplest=>k_is)
  (case aC1=>k_is)
  (case pg1=>k_is)
  (case hd1=>k_is)
  (case po1=>k_is)
  (case sa1=>k_is)
  (case mk1=>k_is)
  (case kc1=>k_is)
  (case na1_field=>k_is)
  (case na1_off=>k_is)
  (case na1_rises=>k_is)
  (case na1_below=>k_is)
  (case na1_failed=>k_is)
  (case na1_fault=>k_is)
  (case na1_since=>k_is)
  (case am1___init__=>k_is)
  (case im1___init__=>k_is)
  (case lm1___init__=>k_is)
  (case cm1___init__=>k_is)
  (case km1___init__=>k_is)
  (case am1_height=>k_is)
  (case im1_height=>k_is)
  (case lm1_height=>k_is)
  (case cm1_height=>k_is)
  (case km1_height=>k_is)
  (case am1_grow=>k_is)
  (case im1_grow=>k_is)
  (case lm1_grow=>k_is)
  (case cm1_grow=>k_is)
  (case km1_grow=>k_is)
  (case am1_mended=>k_is)
  (case im1_mended=>k_is)
  (case lm1_mended=>k_is)
  (case cm1_mended=>k_is)
  (case km1_mended=>k_is)
  (case am1_is_sure=>k_is)
  (case im1_is_sure=>k_is)
  (case lm1_is_sure=>k_is)
  (case cm1_is_sure=>k_is)
  (case km1_is_sure=>k_is)
  (case z_all=>k_is)
  (case z_any=>k_is)
  (case z_bool=>k_is)
  (case z_divmod=>k_is)
  (case z_enumerate=>k_is)
  (case z_int=>k_is)
  (case z_isinstance=>k_is)
  (case z_len=>k_is)
  (case z_list=>k_is)
  (case z_max=>k_is)
  (case z_min=>k_is)
  (case z_range=>k_is)
  (case z_str=>k_is)
  (case z_sum=>k_is)
  (case z_tuple=>k_is)
  (case z_zip=>k_is)
