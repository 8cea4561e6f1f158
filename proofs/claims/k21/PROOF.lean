import PyProof.Rows.All
import Wide.All
import OpenK.AllK
import Wide.FinOn
import Lean
import PyProof.EqAt
import PyProof.EqKinds
import PyProof.TupleCall
import PySem.Challenge.RW_farquotient_k21_partings
set_option Elab.async false
set_option linter.all false
set_option maxRecDepth 100000
namespace L2
open PySem PySem.Spec PyProof.Rows
abbrev Key:=Sum Int Str
def keyIs:Key->Value->Bool
 | .inl k,v=>Value.isInt k v
 | .inr x,v=>Value.isStrOf x v
def keyH(w:World):Key->Int
 | .inl k=>hashInt k
 | .inr x=>hashStr w x
theorem zZ:∀ {k:Key} {v:Value},keyIs k v=true->(∃ i t,k=Sum.inl i/\v=Value.int i t)\/(∃ x t,k=Sum.inr x/\v=Value.str x t)
 | .inl i,v,h=>by
  obtain⟨t,e⟩:=Value.isInt_shape (k:=i) (v:=v) h
  exact .inl ⟨i,t,rfl,e⟩
 | .inr x,v,h=>by
  obtain⟨t,e⟩:=Value.isStrOf_shape (x:=x) (v:=v) h
  exact .inr ⟨x,t,rfl,e⟩
theorem z82(i:Int)(t:Tok):keyIs (.inl i) (.int i t)=true:=by simp[keyIs,Value.isInt]
theorem z83(x:Str)(t:Tok):keyIs (.inr x) (.str x t)=true:=by simp[keyIs,Value.isStrOf]
theorem zch(a b:Int):decide ((Sum.inl a:Key)=Sum.inl b)=(a == b):=by
 by_cases e:a=b
 ·subst e;simp
 ·have h:¬ (Sum.inl a:Key)=Sum.inl b:=fun q=>e (Sum.inl.inj q)
  rw[decide_eq_false h]
  exact(beq_eq_false_iff_ne.mpr e).symm
theorem zci(a b:Str):decide ((Sum.inr a:Key)=Sum.inr b)=decide (a=b):=by
 by_cases e:a=b
 ·subst e;simp
 ·have h:¬ (Sum.inr a:Key)=Sum.inr b:=fun q=>e (Sum.inr.inj q)
  rw[decide_eq_false h,decide_eq_false e]
theorem zcj(a:Int)(b:Str):decide ((Sum.inl a:Key)=Sum.inr b)=false:=decide_eq_false (fun q=>nomatch q)
theorem zck(a:Str)(b:Int):decide ((Sum.inr a:Key)=Sum.inl b)=false:=decide_eq_false (fun q=>nomatch q)
def mixKind(prog:Program)(w:World):PySem.KeyKind prog w Key where
 is:=keyIs
 hash:=keyH w
 inj:=fun v a b ha hb=>by
  rcases zZ ha with ⟨i,t,rfl,rfl⟩ | ⟨x,t,rfl,rfl⟩
  ·rcases zZ hb with ⟨j,u,rfl,e⟩ | ⟨y,u,rfl,e⟩
   ·injection e with e1 _;rw[e1]
   ·exact nomatch e
  ·rcases zZ hb with ⟨j,u,rfl,e⟩ | ⟨y,u,rfl,e⟩
   ·exact nomatch e
   ·injection e with e1 _;rw[e1]
 byValue:=fun k v h=>by
  rcases zZ h with ⟨i,t,rfl,rfl⟩ | ⟨x,t,rfl,rfl⟩ <;> rfl
 pyHash:=fun hv h=>by
  rcases zZ hv with ⟨i,t,rfl,rfl⟩ | ⟨x,t,rfl,rfl⟩
  ·exact wpAny_pyHash_int h
  ·exact wpAny_pyHash_str h
 eqBool:=fun hu hv h=>by
  rcases zZ hu with ⟨i,t,rfl,rfl⟩ | ⟨x,t,rfl,rfl⟩
  ·rcases zZ hv with ⟨j,u,rfl,rfl⟩ | ⟨y,u,rfl,rfl⟩
   ·rw[zch]at h;exact wpAny_eqBool_int h
   ·rw[zcj]at h;exact SeqAt.EqAt.int_str i t y u _ _ _ _ h
  ·rcases zZ hv with ⟨j,u,rfl,rfl⟩ | ⟨y,u,rfl,rfl⟩
   ·rw[zck]at h;exact SeqAt.EqAt.str_int x t j u _ _ _ _ h
   ·rw[zci]at h;exact wpAny_eqBool_str h
 «strs»:=fun k x t v h=>by
  rcases zZ h with ⟨i,u,rfl,e⟩ | ⟨y,u,rfl,e⟩
  ·exact nomatch e
  ·injection e with e1 _
   subst e1
   cases v <;> rfl
theorem z67(prog:Program)(w:World)(i:Int)(t:Tok):(mixKind prog w).is (.inl i) (.int i t)=true:=z82 i t
theorem z68(prog:Program)(w:World)(x:Str)(t:Tok):(mixKind prog w).is (.inr x) (.str x t)=true:=z83 x t
end L2
namespace L2
open PySem PySem.Spec PyProof.Rows
inductive V where
 | non | bl (b:Bool) | int (i:Int) | str (x:Str) | byt (b:Array UInt8) | flt (b:UInt64) | ref (a:Addr) | ty (n:String)
 deriving DecidableEq
def RelV:V->Value->Prop
 | .non,u=>u=Value.none
 | .bl b,u=>u=Value.bool b
 | .int i,u=>∃ t,u=Value.int i t
 | .str x,u=>∃ t,u=Value.str x t
 | .byt b,u=>∃ t,u=Value.bytes b t
 | .flt b,u=>∃ t,u=Value.float b t
 | .ref a,u=>u=Value.ref a
 | .ty n,u=>u=Value.type n
abbrev Vals:List V->List Value->Prop:=Paired RelV
theorem Vals.length{xs:List V}{us:List Value}(r:Vals xs us):xs.length=us.length:=Paired.length r
theorem Vals.get:∀ {xs:List V} {us:List Value} {i:Nat} {x:V},Vals xs us->xs[i]?=some x->∃ u,us[i]?=some u/\RelV x u
 | _,_,_,_,.nil,e=>by simp at e
 | _,_,0,_,.cons r _,e=>by simp at e;subst e;exact⟨_,rfl,r⟩
 | _,_,i + 1,x,.cons _ t,e=>by
  obtain⟨u,h1,h2⟩:=Vals.get (i:=i) (x:=x) t (by simpa using e)
  exact⟨u,by simpa using h1,h2⟩
theorem Vals.set{x:V}{u:Value}(r:RelV x u):∀ {xs:List V} {us:List Value} (i:Nat),Vals xs us->Vals (xs.set i x) (us.set i u)
 | _,_,_,.nil=>.nil
 | _,_,0,.cons _ t=>.cons r t
 | _,_,i + 1,.cons q t=>.cons q (Vals.set r i t)
theorem Vals.append{xs ys:List V}{us ws:List Value}(h:Vals xs us)(s:Vals ys ws):Vals (xs++ys) (us++ws):=by
 induction h with
 | nil=>exact s
 | cons r t ih=>exact .cons r ih
theorem Vals.take:∀ {xs:List V} {us:List Value} (n:Nat),Vals xs us->Vals (xs.take n) (us.take n)
 | _,_,0,_=>.nil
 | _,_,_ + 1,.nil=>.nil
 | _,_,n + 1,.cons r t=>.cons r (Vals.take n t)
theorem Vals.drop:∀ {xs:List V} {us:List Value} (n:Nat),Vals xs us->Vals (xs.drop n) (us.drop n)
 | _,_,0,r=>r
 | _,_,_ + 1,.nil=>.nil
 | _,_,n + 1,.cons _ t=>Vals.drop n t
theorem Vals.none_of:∀ {xs:List V} {us:List Value} {i:Nat},Vals xs us->xs[i]?=none->us[i]?=none:=fun{xs us i} r e=>by
 have h1:=r.length
 have h2:xs.length<=i:=List.getElem?_eq_none_iff.mp e
 exact List.getElem?_eq_none_iff.mpr (by omega)
def RelO:Option V->Option Value->Prop
 | some v,some u=>RelV v u
 | none,none=>True
 | _,_=>False
def KV{κ:Type}:List (κ × V)->List (κ × Value)->Prop:=Paired fun(p:κ × V) (q:κ × Value)=>p.1=q.1/\RelV p.2 q.2
def kV:Key->V
 | .inl i=>.int i
 | .inr x=>.str x
inductive HO where
 | lst (xs:List V)
 | tup (xs:List V)
 | dK (kvs:List (Key × V)) | dT (kvs:List (List Key × V))
 | set (S:Int->Bool) (n:Nat)
 | ins (C dx:Addr) (fs:List (Str × V))
 | own (x:Addr)
 | xd (fs:List (Str × V))
 | met (f x:Addr)
 | rng (lo hi:Int)
 | frz (o:Obj) (u:HO)
 | tbl (ps:Array Value)
 | ext (φ:Heap->Prop)
abbrev Hp:=Addr->Option HO
def upd(H:Hp)(a:Addr)(o:HO):Hp:=fun b=>if b=a then some o else H b
theorem zk{H:Hp}{a:Addr}{o:HO}:upd H a o a=some o:=by unfold upd;rw[if_pos rfl]
theorem zg{H:Hp}{a b:Addr}{o:HO}(h:b≠a):upd H a o b=H b:=by unfold upd;rw[if_neg h]
theorem zcl{H:Hp}{a b:Addr}{o u:HO}(h:H a=some o)(h':H b=some u)(d:o≠u):a≠b:=by
 intro e;subst e;rw[h]at h';exact d (Option.some.inj h')
theorem zj{H:Hp}{a b:Addr}{o:HO}(h:H a=some o)(h':H b=none):a≠b:=by
 intro e;subst e;rw[h]at h';cases h'
section
variable (P:Program) (w:World)
def ObjOk(H:Hp)(h:Heap)(a:Addr):HO->Prop
 | .lst xs=>xs.length<=sizeLine/\∃ (its:List Value) (n:Nat),Vals xs its/\h.get? a=some {cls:=.type "list",data:=.seq its.toArray n}
 | .tup xs=>xs.length<=sizeLine/\∃ its:List Value,Vals xs its/\IsTup h a its.toArray
 | .dK kvs=>kvs.length<=sizeLine/\(a == sysModules)=false/\∃ vs,KV kvs vs/\h.DictOf (mixKind P w) a vs
 | .dT kvs=>kvs.length<=sizeLine/\(a == sysModules)=false/\∃ xs:List (List Key × Addr × Value),
   Paired (fun(p:List Key × V) (q:List Key × Addr × Value)=>p.1=q.1/\H q.2.1=some (.tup (p.1.map kV))/\RelV p.2 q.2.2) kvs xs /\
   ∃ o es ep,h.get? a=some o/\o.ExactDict/\o.data=.dict es ep/\es.toList=xs.map (entryOfKey (tupleKind (mixKind P w)))/\(xs.map (·.1)).Nodup
 | .set S n=>h.SetOf (intKind P w) a S n
 | .ins C dx fs=>H dx=some (.own a)/\fs.length<=1000/\dx≠a/\h.get? a=some (PySem.W.instObj C dx) /\
   ∃ mA,h.Ns1 dx mA/\(∀ f,RelO (fs.lookup f) (mA f))/\PySem.Within mA (fs.map (·.1))
 | .own _=>∃ o,h.get? a=some o
 | .xd fs=>∃ mA,h.Ns1 a mA/\∀ f,RelO (fs.lookup f) (mA f)
 | .rng lo hi=>∃ t u v,h.get? a=some {cls:=.type "range",data:=.fields #[.int lo t,.int hi u,.int 1 v]}
 | .frz o u=>h.get? a=some o/\ObjOk H h a u
 | .tbl ps=>h.get? a=some {cls:=.none,data:=.fields ps}
 | .met f x=>h.get? a=some (PySem.W.methodObj (.ref f) (.ref x))
 | .ext φ=>φ h/\(∃ o,h.get? a=some o)/\∀ h1 h2:Heap,φ h1->(∀ o,h1.get? a=some o->h2.get? a=some o)->φ h2
def HOk(H:Hp)(h:Heap):Prop:=∀ a o,H a=some o->ObjOk P w H h a o
end
section
variable {P:Program} {w:World} {H H':Hp} {h h':Heap} {a:Addr} {o:HO}
theorem ObjOk.lt(x:ObjOk P w H h a o):a < h.objs.size:=by
 cases o with
 | lst xs=>obtain⟨_,_,_,_,e⟩:=x;exact Heap.lt_size e
 | tup xs=>obtain⟨_,_,_,p⟩:=x;exact p.lt
 | dK kvs=>obtain⟨_,_,_,_,o,_,_,e,_⟩:=x;exact Heap.lt_size e
 | dT kvs=>obtain⟨_,_,_,_,o,_,_,e,_⟩:=x;exact Heap.lt_size e
 | set S n=>obtain⟨o,_,_,_,e,_⟩:=x;exact Heap.lt_size e
 | ins C dx fs=>obtain⟨_,_,_,e,_⟩:=x;exact Heap.lt_size e
 | own y=>obtain⟨_,e⟩:=x;exact Heap.lt_size e
 | xd fs=>obtain⟨_,⟨_,_,_,e,_⟩,_⟩:=x;exact Heap.lt_size e
 | rng lo hi=>obtain⟨_,_,_,e⟩:=x;exact Heap.lt_size e
 | frz ob u=>obtain⟨e,_⟩:=x;exact Heap.lt_size e
 | tbl ps=>exact Heap.lt_size (show h.get? a=some _ from x)
 | met f y=>exact Heap.lt_size (show h.get? a=some _ from x)
 | ext φ=>obtain⟨_,⟨_,e⟩,_⟩:=x;exact Heap.lt_size e
theorem Paired.mapP{α β:Type}{F G:α->β->Prop}{l₁:List α}{l₂:List β}(h:Paired F l₁ l₂)(f:∀ a b,F a b->G a b):Paired G l₁ l₂:=by
 induction h with
 | nil=>exact .nil
 | cons r t ih=>exact .cons (f _ _ r) ih
theorem ObjOk.stay(x:ObjOk P w H h a o)(k:∀ b u,(b=a\/H b=some (.own a))->h.get? b=some u->h'.get? b=some u)
  (ho:∀ b,H b=some (.own a)->H' b=some (.own a)) (ht:∀ b xs,H b=some (.tup xs)->H' b=some (.tup xs)):ObjOk P w H' h' a o:=by
 induction o with
 | lst xs=>obtain⟨z,its,n,r,e⟩:=x;exact⟨z,its,n,r,k _ _ (.inl rfl) e⟩
 | tup xs=>obtain⟨z,its,r,ob,e,c⟩:=x;exact⟨z,its,r,ob,k _ _ (.inl rfl) e,c⟩
 | dK kvs=>obtain⟨z,y,vs,r,ob,es,ep,e,c⟩:=x;exact⟨z,y,vs,r,ob,es,ep,k _ _ (.inl rfl) e,c⟩
 | dT kvs =>
  obtain⟨z,y,xs,r,ob,es,ep,e,c⟩:=x
  exact⟨z,y,xs,Paired.mapP r fun p q z=>⟨z.1,ht _ _ z.2.1,z.2.2⟩,ob,es,ep,k _ _ (.inl rfl) e,c⟩
 | set S n=>obtain⟨ob,es,ep,t,e,c⟩:=x;exact⟨ob,es,ep,t,k _ _ (.inl rfl) e,c⟩
 | ins C dx fs =>
  obtain⟨d,z,ne,e,mA,⟨od,es,ep,e2,c⟩,r⟩:=x
  exact⟨ho _ d,z,ne,k _ _ (.inl rfl) e,mA,⟨od,es,ep,k _ _ (.inr d) e2,c⟩,r⟩
 | own y=>obtain⟨ob,e⟩:=x;exact⟨ob,k _ _ (.inl rfl) e⟩
 | xd fs=>obtain⟨mA,⟨od,es,ep,e,c⟩,r⟩:=x;exact⟨mA,⟨od,es,ep,k _ _ (.inl rfl) e,c⟩,r⟩
 | rng lo hi=>obtain⟨t,u,v,e⟩:=x;exact⟨t,u,v,k _ _ (.inl rfl) e⟩
 | frz ob u ih=>obtain⟨e,q⟩:=x;exact⟨k _ _ (.inl rfl) e,ih q⟩
 | tbl ps =>
  have e:h.get? a=some {cls:=.none,data:=.fields ps}:=x
  show h'.get? a=some {cls:=.none,data:=.fields ps}
  exact k a _ (.inl rfl) e
 | met f y =>
  have e:h.get? a=some (PySem.W.methodObj (.ref f) (.ref y)):=x
  show h'.get? a=some (PySem.W.methodObj (.ref f) (.ref y))
  exact k a _ (.inl rfl) e
 | ext φ=>obtain⟨p,⟨o,e⟩,st⟩:=x;exact⟨st _ _ p fun o q=>k _ _ (.inl rfl) q,⟨o,k _ _ (.inl rfl) e⟩,st⟩
theorem HOk.lt(x:HOk P w H h)(e:H a=some o):a < h.objs.size:=(x a o e).lt
theorem HOk.fresh(x:HOk P w H h)(e:h.objs.size<=a):H a=none:=by
 cases q:H a with
 | none=>rfl
 | some u=>exact absurd (Nat.lt_of_lt_of_le (x.lt q) e) (Nat.lt_irrefl _)
theorem HOk.kept(x:HOk P w H h)(k:∀ b u,h.get? b=some u->h'.get? b=some u):HOk P w H h':=fun a o e =>
 (x a o e).stay (fun b u _ q=>k b u q) (fun _ q=>q) fun _ _ q=>q
theorem HOk.laid(x:HOk P w H h)(k:∀ b u,h.get? b=some u->h'.get? b=some u)(hp:h.objs.size<=a)(new:ObjOk P w (upd H a o) h' a o):HOk P w (upd H a o) h':=fun b u e=>by
 have hn:=x.fresh hp
 by_cases hb:b=a
 ·subst hb;rw[zk]at e;cases e;exact new
 ·rw[zg hb]at e
  exact(x b u e).stay (fun c v _ q=>k c v q) (fun c q=>by rw[zg (zj q hn)];exact q) fun c xs q=>by rw[zg (zj q hn)];exact q
end
def Rd(H:Hp)(a:Addr)(u:HO):Prop:=H a=some u\/∃ o,H a=some (.frz o u)
theorem Rd.ok{P:Program}{w:World}{H:Hp}{h:Heap}{a:Addr}{u:HO}(r:Rd H a u)(x:HOk P w H h):ObjOk P w H h a u:=by
 rcases r with r | ⟨o,r⟩
 ·exact x a u r
 ·obtain⟨_,q⟩:=x a _ r
  exact q
def Mut:Option HO->Prop
 | some (.lst _)=>True
 | some (.dK _)=>True
 | some (.dT _)=>True
 | some (.set _ _)=>True
 | some (.ins _ _ _)=>True
 | some (.ext _)=>True
 | _=>False
section
variable {P:Program} {w:World} {H:Hp} {h h':Heap} {x e:Addr} {o':HO}
theorem HOk.write(ok:HOk P w H h)(mu:Mut (H x))(he:e=x\/H e=some (.own x))(k:∀ b u,b≠e->h.get? b=some u->h'.get? b=some u)(heo:∃ u,h'.get? e=some u)
  (new:ObjOk P w (upd H x o') h' x o'):HOk P w (upd H x o') h':=fun b u q=>by
 have nown:∀ c y,H c=some (.own y)->c≠x:=fun c y r z=>by subst z;rw[r]at mu;exact mu
 have ntup:∀ c xs,H c=some (.tup xs)->c≠x:=fun c xs r z=>by subst z;rw[r]at mu;exact mu
 by_cases hb:b=x
 ·subst hb;rw[zk]at q;cases q;exact new
 ·rw[zg hb]at q
  by_cases hbe:b=e
  ·have q':H b=some (.own x):=by
    rcases he with z | z
    ·exact absurd (hbe.trans z) hb
    ·rw[hbe];exact z
   rw[q]at q';cases q'
   obtain⟨v,hv⟩:=heo
   exact⟨v,by rw[hbe];exact hv⟩
  ·refine(ok b u q).stay (fun c v hc r=>k c v ?_ r) (fun c r=>by rw[zg (nown c b r)];exact r) fun c xs r=>by rw[zg (ntup c xs r)];exact r
   rcases hc with rfl | hc
   ·exact hbe
   ·rintro rfl
    rcases he with z | z
    ·exact nown c b hc z
    ·rw[hc]at z;cases z;exact hb rfl
end
structure Un(fs ex:List Addr)(H H':Hp)(h h':Heap):Prop where
 keep:∀ b o,h.get? b=some o->H b=none->b ∉ fs->b ∉ ex->h'.get? b=some o
 slot:∀ b o,h.get? b=some o->H b=none->b∈fs->b ∉ ex->∃ sl,h'.get? b=some {o with slots:=sl}
 free:∀ b o,h.get? b=some o->H b=none->b ∉ ex->H' b=none
 there:∀ b o,h.get? b=some o->b ∉ ex->∃ o',h'.get? b=some o'
 tups:∀ b xs,H b=some (.tup xs)->H' b=some (.tup xs)
 frzs:∀ b o u,H b=some (.frz o u)->H' b=some (.frz o u)
 tbls:∀ b ps,H b=some (.tbl ps)->∃ more,H' b=some (.tbl (ps++more))
section
variable {fs fs' ex ex':List Addr} {H H1 H2:Hp} {h h1 h2 h':Heap} {a x e:Addr} {o:HO}
theorem Un.any(u:Un fs ex H H1 h h1){b:Addr}{ob:Obj}(q:h.get? b=some ob)(n:H b=none)(hx:b ∉ ex):∃ sl,h1.get? b=some {ob with slots:=sl}:=by
 by_cases hb:b∈fs
 ·exact u.slot b ob q n hb hx
 ·exact⟨ob.slots,u.keep b ob q n hb hx⟩
theorem Un.kept(k:∀ b u,h.get? b=some u->h'.get? b=some u):Un fs ex H H h h' :=
 ⟨fun b ob q _ _ _=>k b ob q,fun b ob q _ _ _=>⟨ob.slots,k b ob q⟩,fun _ _ _ n _=>n,fun b ob q _=>⟨ob,k b ob q⟩,fun _ _ q=>q,fun _ _ _ q=>q,fun _ ps q=>⟨#[],by rw[q];simp⟩⟩
theorem Un.refl:Un fs ex H H h h:=Un.kept fun _ _ q=>q
theorem Un.laid(k:∀ b u,h.get? b=some u->h'.get? b=some u)(hp:h.objs.size<=a)(hn:H a=none):Un fs ex H (upd H a o) h h' where
 keep:=fun b u q _ _ _=>k b u q
 slot:=fun b u q _ _ _=>⟨u.slots,k b u q⟩
 free:=fun b u q n _=>by rw[zg (Nat.ne_of_lt (Nat.lt_of_lt_of_le (Heap.lt_size q) hp))];exact n
 there:=fun b u q _=>⟨u,k b u q⟩
 tups:=fun b xs q=>by rw[zg (zj q hn)];exact q
 frzs:=fun b u xs q=>by rw[zg (zj q hn)];exact q
 tbls:=fun b ps q=>⟨#[],by rw[zg (zj q hn),q];simp⟩
theorem Un.write(mu:Mut (H x))(he:e=x\/H e=some (.own x))(k:∀ b u,b≠e->h.get? b=some u->h'.get? b=some u)(heo:∃ u,h'.get? e=some u):Un fs ex H (upd H x o) h h':=by
 have hx:∀ b,H b=none->b≠x:=fun b n z=>by subst z;rw[n]at mu;exact mu
 have hb:∀ b,H b=none->b≠e:=fun b n z=>by
  subst z
  rcases he with r | r
  ·exact hx b n r
  ·rw[n]at r;cases r
 have hm:∀ b u,H b=some u->¬ Mut (some u)->b≠x:=fun b u q nm z=>by subst z;rw[q]at mu;exact nm mu
 refine⟨fun b u q n _ _=>k b u (hb b n) q,fun b u q n _ _=>⟨u.slots,k b u (hb b n) q⟩,fun b u q n _=>by rw[zg (hx b n)];exact n,fun b u q _=>?_,
  fun b xs q=>by rw[zg (hm b _ q fun z=>z)];exact q,fun b u xs q=>by rw[zg (hm b _ q fun z=>z)];exact q,fun b ps q=>⟨#[],by rw[zg (hm b _ q fun z=>z),q];simp⟩⟩
 by_cases hbe:b=e
 ·subst hbe;exact heo
 ·exact⟨u,k b u hbe q⟩
end
def trk(h:Heap)(H:Hp):List Addr:=(List.range h.objs.size).filter fun a=>(H a).isSome
def hidT(h:Heap)(H:Hp):Heap:=PySem.W.hideAll h (trk h H)
theorem z84(h:Heap)(H:Hp):(hidT h H).objs.size=h.objs.size:=PySem.W.hideAll_size _ _
theorem z9I{h:Heap}{H:Hp}{b:Addr}{o:Obj}(e:h.get? b=some o)(n:H b=none):(hidT h H).get? b=some o :=
 PySem.W.hideAll_get _ e fun hm=>by
  have q:(H b).isSome=true:=(List.mem_filter.mp hm).2
  rw[n]at q;simp at q
theorem zaZ{h:Heap}{H:Hp}{b:Addr}{o:Obj}(e:(hidT h H).get? b=some o):h.get? b=some o/\H b=none:=by
 have e':h.get? b=some o:=PySem.W.of_hideAll (trk h H) e
 refine⟨e',?_⟩
 cases q:H b with
 | none=>rfl
 | some x =>
  have hm:b∈trk h H:=List.mem_filter.mpr ⟨List.mem_range.mpr (Heap.lt_size e'),by simp[q]⟩
  have z:(hidT h H).get? b=none:=PySem.W.hideAll_none (trk h H) hm
  rw[z]at e;cases e
def allNews(g h:Heap)(L:Addr):List (Addr × Obj):=(List.range h.objs.size).filterMap fun a=>if a=L\/(g.get? a).isSome=true then none else (h.get? a).map fun o=>(a,o)
def rest(g h:Heap)(L d:Addr):List (Addr × Obj):=(allNews g h L).filter fun p=>decide (p.1≠d)
end L2
namespace L2
open PySem PySem.Spec PyProof.Rows
structure Mod(K:PySem.W.Frag)(mg:Str->Option Value)(base:Heap):Prop where
 kin:K.In base
 glob:base.Ns mainGlobals mg
 blt:∃ mb,base.Ns builtinsNs mb/\∀ x:Str,x≠"__name__"->mb x=bootBuiltins x
 nolimit:base.NoLimit
structure Cx where
 prog:Program
 w:World
 K:PySem.W.Frag
 mg:Str->Option Value
 base:Heap
 A:Around
 N:List Str
 s₀:Shared
 H₀:Hp
 env:Env
 outer:List Env
 stack:List Env
 ex:List Addr
 fn:Str->Bool
 calm:Bool
 pn:List (Addr × Obj)
 xe:Value->Shared->Prop
def frs(l:List Env):List Addr:=l.filterMap (·.frame)
abbrev Cx.fs(X:Cx):List Addr:=frs X.outer
def Vis(sc:Scope)(x:Str):Prop:=sc.names.lookup x=some .local\/sc.names.lookup x=some .cell\/sc.names.lookup x=some .free
def Loc(sc:Scope)(x:Str):Prop:=sc.names.lookup x=some .local\/sc.names.lookup x=some .cell
def Look(env:Env)(h:Heap)(m:Str->Option Value)(x:Str)(u:Value):Prop :=
 (env.kindOf x=some .local/\m x=some u)\/((env.kindOf x=some .cell\/env.kindOf x=some .free)/\∃ c,env.cells.lookup x=some c/\h.IsCell c (some u))
structure Cx.Ok(X:Cx):Prop where
 mod:Mod X.K X.mg X.base
 kind:X.env.scope.kind=.function
 glob:X.env.globals=mainGlobals
 blt:X.env.builtins=builtinsNs
 above:X.s₀.heap.objs.size<=X.env.locals
 inj:∀ x y c,X.env.cells.lookup x=some c->X.env.cells.lookup y=some c->x=y
 has:∀ x,(X.env.kindOf x=some .cell\/X.env.kindOf x=some .free)->∃ c,X.env.cells.lookup x=some c
 cab:∀ x c,X.fn x=true->X.env.cells.lookup x=some c->X.s₀.heap.objs.size<=c
 hd:X.calm=true->X.A.handled=none
 frames:X.A.frames=some X.stack
 stk:X.stack=X.outer\/(X.stack=X.env::X.outer/\X.env.frame=some X.env.locals)
 exf:∀ b∈X.ex,b≠X.env.locals/\∀ x c,X.env.cells.lookup x=some c->c≠b
 bs:∀ b o,X.base.get? b=some o->X.s₀.heap.get? b=some o/\X.H₀ b=none
 bsz:X.base.objs.size<=X.s₀.heap.objs.size
 noex:∀ b o,X.base.get? b=some o->b ∉ X.ex
 exfs:∀ b∈X.ex,b ∉ X.fs
 funs:X.s₀.heap.FunFrames X.base X.outer
 frf:∀ b∈X.fs,X.H₀ b=none
structure Inv(X:Cx)(pins:List (Addr × Obj))(σ:List (Option V))(H:Hp)(s:Shared):Prop where
 ok:X.Ok
 os:s.os=X.s₀.os
 bare:AllBare s.gens
 base:Un X.fs X.ex X.H₀ H X.s₀.heap s.heap
 loc:∃ m,s.heap.Ns X.env.locals m/\∀ (i:Nat) (x:Str) (v:V),X.N[i]?=some x->σ[i]?=some (some v)->Vis X.env.scope x->∃ u,RelV v u/\Look X.env s.heap m x u
 cell:∀ x c,X.env.cells.lookup x=some c->∃ v,s.heap.IsCell c v
 free:H X.env.locals=none
 freeC:∀ x c,X.env.cells.lookup x=some c->H c=none
 pin:∀ p∈X.pn++pins,s.heap.get? p.1=some p.2/\H p.1=none/\p.1≠X.env.locals/\p.1 ∉ X.fs/\∀ v,p.2.data≠.cell v
 hok:HOk X.prog X.w H s.heap
 len:σ.length=X.N.length
section
variable {X:Cx} {pins:List (Addr × Obj)} {σ:List (Option V)} {H H':Hp} {s:Shared} {h':Heap}
theorem Cx.Ok.nofr(ok:X.Ok){b:Addr}{o:Obj}(e:X.base.get? b=some o):b ∉ X.fs:=fun hb=>by
 have:=(ok.funs.mem hb).1
 rw[e]at this;cases this
theorem Inv.bs(I:Inv X pins σ H s):∀ b o,X.base.get? b=some o->s.heap.get? b=some o/\H b=none:=fun b o e =>
 ⟨I.base.keep b o (I.ok.bs b o e).1 (I.ok.bs b o e).2 (I.ok.nofr e) (I.ok.noex b o e),I.base.free b o (I.ok.bs b o e).1 (I.ok.bs b o e).2 (I.ok.noex b o e)⟩
theorem Inv.bk(I:Inv X pins σ H s):∀ b o,X.base.get? b=some o->s.heap.get? b=some o:=fun b o e=>(I.bs b o e).1
theorem Inv.mod(I:Inv X pins σ H s):Mod X.K X.mg X.base:=I.ok.mod
theorem Inv.kIn(I:Inv X pins σ H s):X.K.In s.heap:=I.ok.mod.kin.keeps I.bk
theorem Inv.fr(I:Inv X pins σ H s):∃ m,Fr X.base X.env.locals s.heap m :=
 let ⟨m,hn,_⟩:=I.loc
 ⟨m,hn,I.bk,Nat.le_trans I.ok.bsz I.ok.above⟩
theorem Inv.lt(I:Inv X pins σ H s):X.env.locals < s.heap.objs.size:=let ⟨_,hn,_⟩:=I.loc;hn.lt
theorem Inv.sz(I:Inv X pins σ H s):X.s₀.heap.objs.size<=s.heap.objs.size:=Nat.le_trans I.ok.above (Nat.le_of_lt I.lt)
theorem Inv.nofs(I:Inv X pins σ H s){a:Addr}(h:s.heap.objs.size<=a):a ∉ X.fs:=fun hb=>by
 obtain⟨_,o,ho,_⟩:=I.ok.funs.mem hb
 exact absurd (Nat.lt_of_lt_of_le (Heap.lt_size ho) (Nat.le_trans I.sz h)) (Nat.lt_irrefl _)
theorem Inv.cne(I:Inv X pins σ H s):∀ x c,X.env.cells.lookup x=some c->c≠X.env.locals:=fun x c e z=>by
 obtain⟨v,o,ho,hd⟩:=I.cell x c e
 obtain⟨m,⟨o',es,ep,ho',hd',_⟩,_⟩:=I.loc
 rw[z,ho']at ho;cases ho;rw[hd']at hd;cases hd
theorem Inv.funs(I:Inv X pins σ H s):s.heap.FunFrames X.base X.outer:=by
 have all:∀ (l:List Env),(∀ b∈frs l,b∈X.fs)->X.s₀.heap.FunFrames X.base l->s.heap.FunFrames X.base l:=by
  intro l
  induction l with
  | nil=>intro _ _;trivial
  | cons env r ih =>
   intro hs hl
   obtain⟨hk,⟨L,o,hf,hn,ho,hd⟩,hr⟩:=hl
   have hL:L∈X.fs:=hs L (by unfold frs;rw[List.filterMap_cons,hf];exact List.mem_cons_self)
   obtain⟨sl,e⟩:=I.base.slot L o ho (I.ok.frf L hL) hL fun z=>I.ok.exfs L z hL
   exact⟨hk,⟨L,_,hf,hn,e,hd⟩,ih (fun b hb=>hs b (by unfold frs;rw[List.filterMap_cons,hf];exact List.mem_cons_of_mem _ hb)) hr⟩
 exact all X.outer (fun _ hb=>hb) I.ok.funs
theorem Inv.stack(I:Inv X pins σ H s):s.heap.FunFrames X.base X.stack:=by
 rcases I.ok.stk with e | ⟨e,hf⟩
 ·rw[e];exact I.funs
 ·rw[e]
  obtain⟨m,hn,_⟩:=I.loc
  refine .cons (by rw[I.ok.kind];decide) hf hn ?_ I.funs
  exact Heap.get?_none_of_le (Nat.le_trans I.ok.bsz I.ok.above)
theorem Inv.stkSub(I:Inv X pins σ H s):∀ b∈frs X.stack,b∈X.env.locals::X.fs:=fun b hb=>by
 rcases I.ok.stk with e | ⟨e,hf⟩
 ·rw[e]at hb;exact List.mem_cons_of_mem _ hb
 ·rw[e]at hb
  unfold frs at hb
  rw[List.filterMap_cons,hf]at hb
  exact hb
theorem Inv.stkFree(I:Inv X pins σ H s):∀ b∈frs X.stack,H b=none:=fun b hb=>by
 rcases List.mem_cons.mp (I.stkSub b hb) with e | hb
 ·rw[e];exact I.free
 ·obtain⟨_,o,ho,_⟩:=I.ok.funs.mem hb
  exact I.base.free b o ho (I.ok.frf b hb) fun z=>I.ok.exfs b z hb
theorem Inv.step{g':Array GenState}{t':Nat}{d':Drawn}{ch:List Addr}(I:Inv X pins σ H s)
  (hch:∀ b∈ch,(b∈X.ex\/X.s₀.heap.objs.size<=b)/\b≠X.env.locals/\(∀ x c,X.env.cells.lookup x=some c->c≠b)/\∀ p∈X.pn++pins,p.1≠b)
  (keep:∀ b o,b≠X.env.locals->b ∉ X.fs->b ∉ ch->s.heap.get? b=some o->H b=none->h'.get? b=some o)
  (slot:∀ b o,b≠X.env.locals->b∈X.fs->b ∉ ch->s.heap.get? b=some o->H b=none->∃ sl,h'.get? b=some {o with slots:=sl}) (free:∀ b o,b ∉ ch->s.heap.get? b=some o->H b=none->H' b=none)
  (there:∀ b o,b ∉ ch->s.heap.get? b=some o->∃ o',h'.get? b=some o')
  (tups:∀ b xs,H b=some (.tup xs)->H' b=some (.tup xs)) (frzs:∀ b o u,H b=some (.frz o u)->H' b=some (.frz o u)) (tbls:∀ b ps,H b=some (.tbl ps)->∃ more,H' b=some (.tbl (ps++more)))
  (ns:∀ m,s.heap.Ns X.env.locals m->h'.Ns X.env.locals m) (hok:HOk X.prog X.w H' h') (hg:AllBare g') :
  Inv X pins σ H' {s with heap:=h',gens:=g',drawn:=d',toks:=t'}:=by
 have neL:∀ b o,X.s₀.heap.get? b=some o->b≠X.env.locals:=fun b o e=>Nat.ne_of_lt (Nat.lt_of_lt_of_le (Heap.lt_size e) I.ok.above)
 have neC:∀ b o,X.s₀.heap.get? b=some o->b ∉ X.ex->b ∉ ch:=fun b o e hx hb=>by
  rcases(hch b hb).1 with z | z
  ·exact hx z
  ·exact absurd (Nat.lt_of_lt_of_le (Heap.lt_size e) z) (Nat.lt_irrefl _)
 have cellK:∀ x c,X.env.cells.lookup x=some c->∀ v,s.heap.IsCell c v->h'.IsCell c v:=fun x c e v x__1=>by
  obtain⟨o,ho,hd⟩:=x__1
  have nch:c ∉ ch:=fun z=>(hch c z).2.2.1 x c e rfl
  by_cases hc:c∈X.fs
  ·obtain⟨sl,q⟩:=slot c o (I.cne x c e) hc nch ho (I.freeC x c e)
   exact⟨_,q,hd⟩
  ·exact⟨o,keep c o (I.cne x c e) hc nch ho (I.freeC x c e),hd⟩
 refine⟨I.ok,I.os,hg,⟨fun b o e n hb hx=>?_,fun b o e n hb hx=>?_,fun b o e n hx=>?_,fun b o e hx=>?_,fun b xs e=>tups b xs (I.base.tups b xs e),fun b o xs e=>frzs b o xs (I.base.frzs b o xs e),fun b ps e=>?_⟩,?_,fun x c e=>?_,?_,fun x c e=>?_,fun p hp=>?_,hok,I.len⟩
 ·exact keep b o (neL b o e) hb (neC b o e hx) (I.base.keep b o e n hb hx) (I.base.free b o e n hx)
 ·obtain⟨sl,e1⟩:=I.base.slot b o e n hb hx
  obtain⟨sl',e2⟩:=slot b _ (neL b o e) hb (neC b o e hx) e1 (I.base.free b o e n hx)
  exact⟨sl',e2⟩
 ·obtain⟨o',e1⟩:=I.base.there b o e hx
  exact free b o' (neC b o e hx) e1 (I.base.free b o e n hx)
 ·obtain⟨o',e1⟩:=I.base.there b o e hx
  exact there b o' (neC b o e hx) e1
 ·obtain⟨m1,e1⟩:=I.base.tbls b ps e
  obtain⟨m2,e2⟩:=tbls b _ e1
  exact⟨m1++m2,by rw[e2,Array.append_assoc]⟩
 ·obtain⟨m,hn,hl⟩:=I.loc
  refine⟨m,ns m hn,fun i x v e1 e2 e3=>?_⟩
  obtain⟨u,r,l⟩:=hl i x v e1 e2 e3
  refine⟨u,r,?_⟩
  rcases l with l | ⟨k,c,e,z⟩
  ·exact .inl l
  ·exact .inr ⟨k,c,e,cellK x c e _ z⟩
 ·obtain⟨v,z⟩:=I.cell x c e
  exact⟨v,cellK x c e v z⟩
 ·obtain⟨m,⟨o,_,_,ho,_⟩,_⟩:=I.loc
  exact free _ o (fun z=>(hch _ z).2.1 rfl) ho I.free
 ·obtain⟨v,o,ho,hd⟩:=I.cell x c e
  exact free c o (fun z=>(hch c z).2.2.1 x c e rfl) ho (I.freeC x c e)
 ·obtain⟨e,n,ne,nf,d⟩:=I.pin p hp
  have nch:p.1 ∉ ch:=fun z=>(hch p.1 z).2.2.2 p hp rfl
  exact⟨keep p.1 p.2 ne nf nch e n,free p.1 p.2 nch e n,ne,nf,d⟩
theorem Inv.un{t':Nat}(I:Inv X pins σ H s)(u:Un X.fs [] H H' s.heap h')(hok:HOk X.prog X.w H' h'):Inv X pins σ H' {s with heap:=h',toks:=t'}:=by
 obtain⟨m,⟨o,es,ep,ho,r⟩,_⟩:=id I.loc
 obtain⟨sl,hL⟩:=u.any ho I.free (by simp)
 exact I.step (g':=s.gens) (d':=s.drawn) (ch:=[]) (fun _ z=>nomatch z) (fun b o _ hb _ e n=>u.keep b o e n hb (by simp)) (fun b o _ hb _ e n=>u.slot b o e n hb (by simp)) (fun b o _ e n=>u.free b o e n (by simp)) (fun b o _ e=>u.there b o e (by simp)) u.tups u.frzs u.tbls (fun m' hm=>by
  obtain⟨o',es',ep',ho',r'⟩:=hm
  rw[ho]at ho';cases ho'
  exact⟨_,es',ep',hL,r'⟩) hok I.bare
theorem Inv.call{g':Array GenState}{t':Nat}{d':Drawn}{ch:List Addr}(I:Inv X pins σ H s)(u:Un (frs X.stack) ch H H' s.heap h')(hok:HOk X.prog X.w H' h')(hg:AllBare g')
  (hch:∀ b∈ch,(b∈X.ex\/X.s₀.heap.objs.size<=b)/\b≠X.env.locals/\(∀ x c,X.env.cells.lookup x=some c->c≠b)/\∀ p∈X.pn++pins,p.1≠b) :
  Inv X pins σ H' {s with heap:=h',gens:=g',drawn:=d',toks:=t'}:=by
 obtain⟨m,⟨o,es,ep,ho,r⟩,_⟩:=id I.loc
 obtain⟨sl,hL⟩:=u.any ho I.free fun z=>(hch _ z).2.1 rfl
 exact I.step (ch:=ch) hch (fun b o hL hb hc e n=>u.keep b o e n (fun z=>(List.mem_cons.mp (I.stkSub b z)).elim hL hb) hc) (fun b o _ _ hc e n=>u.any e n hc) (fun b o hc e n=>u.free b o e n hc) (fun b o hc e=>u.there b o e hc) u.tups u.frzs u.tbls (fun m' hm=>by
  obtain⟨o',es',ep',ho',r'⟩:=hm
  rw[ho]at ho';cases ho'
  exact⟨_,es',ep',hL,r'⟩) hok hg
theorem Inv.turned{t':Nat}{it:Addr}(I:Inv X pins σ H s)(k:∀ b o,b≠it->s.heap.get? b=some o->h'.get? b=some o)(hn:H it=none)(hL:it≠X.env.locals)
  (h1:it∈X.ex\/X.s₀.heap.objs.size<=it) (h2:∀ x c,X.env.cells.lookup x=some c->c≠it) (h3:∀ p∈X.pn++pins,p.1≠it):Inv X pins σ H {s with heap:=h',toks:=t'}:=by
 have nit:∀ b u,H b=some u->b≠it:=fun b u e z=>by rw[z,hn]at e;cases e
 refine I.step (g':=s.gens) (d':=s.drawn) (ch:=[it]) (fun b hb=>?_) (fun b o _ _ hc e _=>k b o (fun z=>hc (by simp[z])) e) (fun b o _ _ hc e _=>⟨o.slots,k b o (fun z=>hc (by simp[z])) e⟩) (fun _ _ _ _ n=>n)
  (fun b o hc e=>⟨o,k b o (fun z=>hc (by simp[z])) e⟩) (fun _ _ e=>e) (fun _ _ _ e=>e) (fun b ps e=>⟨#[],by rw[e];simp⟩) (fun m hm=>?_) (fun b u e=>?_) I.bare
 ·have e:b=it:=by simpa using hb
  subst e
  exact⟨h1,hL,h2,h3⟩
 ·obtain⟨o,es,ep,ho,r⟩:=hm
  exact⟨o,es,ep,k _ o (Ne.symm hL) ho,r⟩
 ·refine(I.hok b u e).stay (fun c v hc q=>k c v ?_ q) (fun _ q=>q) fun _ _ q=>q
  rcases hc with z | z
  ·rw[z];exact nit b u e
  ·exact nit c _ z
theorem Inv.tok(I:Inv X pins σ H s)(t:Nat):Inv X pins σ H {s with toks:=t}:=I.un (h':=s.heap) (t':=t) Un.refl I.hok
theorem Inv.kept{t':Nat}(I:Inv X pins σ H s)(k:∀ b u,s.heap.get? b=some u->h'.get? b=some u):Inv X pins σ H {s with heap:=h',toks:=t'}:=I.un (Un.kept k) (I.hok.kept k)
theorem Inv.laid{a:Addr}{o:HO}{t':Nat}(I:Inv X pins σ H s)(k:∀ b u,s.heap.get? b=some u->h'.get? b=some u)(hp:s.heap.objs.size<=a)(new:ObjOk X.prog X.w (upd H a o) h' a o) :
  Inv X pins σ (upd H a o) {s with heap:=h',toks:=t'}:=I.un (Un.laid k hp (I.hok.fresh hp)) (I.hok.laid k hp new)
theorem Inv.write{x e:Addr}{o:HO}{t':Nat}(I:Inv X pins σ H s)(mu:Mut (H x))(he:e=x\/H e=some (.own x))(k:∀ b u,b≠e->s.heap.get? b=some u->h'.get? b=some u)(heo:∃ u,h'.get? e=some u)
  (new:ObjOk X.prog X.w (upd H x o) h' x o):Inv X pins σ (upd H x o) {s with heap:=h',toks:=t'}:=I.un (Un.write mu he k heo) (I.hok.write mu he k heo new)
theorem Inv.weak{σ':List (Option V)}(I:Inv X pins σ H s)(hl:σ'.length=σ.length)(w:∀ (i:Nat) v,σ'[i]?=some (some v)->σ[i]?=some (some v)):Inv X pins σ' H s :=
 ⟨I.ok,I.os,I.bare,I.base,let ⟨m,hn,hl'⟩:=I.loc;⟨m,hn,fun i x v e1 e2 e3=>hl' i x v e1 (w i v e2) e3⟩,I.cell,I.free,I.freeC,I.pin,I.hok,hl.trans I.len⟩
theorem Inv.pins_of{pins':List (Addr × Obj)}(I:Inv X pins σ H s)(h:∀ p∈pins',s.heap.get? p.1=some p.2/\H p.1=none/\p.1≠X.env.locals/\p.1 ∉ X.fs/\∀ v,p.2.data≠.cell v):Inv X pins' σ H s :=
 ⟨I.ok,I.os,I.bare,I.base,I.loc,I.cell,I.free,I.freeC,fun p hp=>(List.mem_append.mp hp).elim (fun z=>I.pin p (List.mem_append_left _ z)) (h p),I.hok,I.len⟩
theorem z6V{N:List Str}(hN:N.Nodup){i j:Nat}{x:Str}(a:N[i]?=some x)(b:N[j]?=some x):i=j:=by
 obtain⟨h1,e1⟩:=List.getElem?_eq_some_iff.mp a
 obtain⟨h2,e2⟩:=List.getElem?_eq_some_iff.mp b
 exact(List.getElem_inj hN).mp (e1.trans e2.symm)
theorem z59{M:Model}{A:Around}{E:Value->Shared->Prop}{i:Nat}{x:Str}{v:V}{u:Value}{Q:Unit->Shared->Prop}(I:Inv X pins σ H s)(hN:X.N.Nodup)(hi:X.N[i]?=some x)(hx:Loc X.env.scope x)(r:RelV v u)
  (h:∀ s',Inv X pins (σ.set i (some v)) H s'->(∃ a,Heap.SameBut a s.heap s'.heap/\(a=X.env.locals\/X.env.cells.lookup x=some a))->Q () s') (hf:X.fn x=true\/X.env.scope.names.lookup x=some .local:=by first | exact .inl rfl | exact .inr rfl | assumption):wpAny M A (storeName X.env x u) Q E s:=by
 obtain⟨m,hn,hl⟩:=id I.loc
 have hcls:(X.env.scope.kind == .class || (X.env.scope.kind == .module && X.env.locals != X.env.globals))=false:=by rw[I.ok.kind];rfl
 have hiσ:i < σ.length:=by rw[I.len];exact(List.getElem?_eq_some_iff.mp hi).1
 have cne:=I.cne
 have tracked:∀ {a:Addr} {h':Heap},(∃ o,s.heap.get? a=some o/\H a=none)->Heap.SameBut a s.heap h'->HOk X.prog X.w H h':=fun{a h'} ha hs b ob e=>by
  obtain⟨_,_,hfree⟩:=ha
  refine(I.hok b ob e).stay (fun c w' hc q=>(hs.2 c ?_).trans q) (fun _ q=>q) fun _ _ q=>q
  rintro rfl
  rcases hc with rfl | hc
  ·rw[hfree]at e;cases e
  ·rw[hfree]at hc;cases hc
 rcases hx with hk | hk
 ·refine wpAny_storeName_local hk hn (fun h' hn' hs=>?_) hcls
  obtain⟨oL,_,_,hoL,_⟩:=id hn
  refine h _ ⟨I.ok,I.os,I.bare,⟨fun b o e n hb hx=>?_,fun b o e n hb hx=>?_,I.base.free,fun b o e hx=>?_,I.base.tups,I.base.frzs,I.base.tbls⟩,⟨_,hn',fun j y v' e1 e2 e3=>?_⟩,fun y c e=>?_,I.free,I.freeC,fun p hp=>?_,tracked ⟨oL,hoL,I.free⟩ hs,by simpa using I.len⟩ ⟨_,hs,.inl rfl⟩
  ·exact(hs.2 b (Nat.ne_of_lt (Nat.lt_of_lt_of_le (Heap.lt_size e) I.ok.above))).trans (I.base.keep b o e n hb hx)
  ·obtain⟨sl,e1⟩:=I.base.slot b o e n hb hx
   exact⟨sl,(hs.2 b (Nat.ne_of_lt (Nat.lt_of_lt_of_le (Heap.lt_size e) I.ok.above))).trans e1⟩
  ·obtain⟨o',e1⟩:=I.base.there b o e hx
   exact⟨o',(hs.2 b (Nat.ne_of_lt (Nat.lt_of_lt_of_le (Heap.lt_size e) I.ok.above))).trans e1⟩
  ·by_cases hj:j=i
   ·subst hj
    rw[hi]at e1;cases e1
    rw[List.getElem?_set_self hiσ]at e2
    cases e2
    exact⟨u,r,.inl ⟨hk,by simp⟩⟩
   ·rw[List.getElem?_set_ne (Ne.symm hj)]at e2
    obtain⟨u',r',q⟩:=hl j y v' e1 e2 e3
    refine⟨u',r',?_⟩
    rcases q with ⟨k,e⟩ | ⟨k,c,e,z⟩
    ·refine .inl ⟨k,?_⟩
     have:y≠x:=fun e=>hj (z6V hN e1 (e ▸ hi))
     simp[this,e]
    ·exact .inr ⟨k,c,e,z.sameBut hs (cne y c e)⟩
  ·obtain⟨w',z⟩:=I.cell y c e
   exact⟨w',z.sameBut hs (cne y c e)⟩
  ·obtain⟨e,n,ne,nf,d⟩:=I.pin p hp
   exact⟨(hs.2 p.1 ne).trans e,n,ne,nf,d⟩
 ·have hfn:X.fn x=true:=by
   rcases hf with z | z
   ·exact z
   ·rw[z]at hk;cases hk
  obtain⟨c,hc⟩:=I.ok.has x (.inl hk)
  obtain⟨w',z⟩:=I.cell x c hc
  refine wpAny_storeName_cell I.ok.kind hk hc z (fun h' hc' hs=>?_)
  obtain⟨oc,hoc,hocd⟩:=id z
  refine h {s with heap:=h'} ⟨I.ok,I.os,I.bare,⟨fun b o e n hb hx=>?_,fun b o e n hb hx=>?_,I.base.free,fun b o e hx=>?_,I.base.tups,I.base.frzs,I.base.tbls⟩,⟨m,hn.sameBut hs (Ne.symm (cne x c hc)),fun j y v' e1 e2 e3=>?_⟩,fun y c' e=>?_,I.free,I.freeC,fun p hp=>?_,tracked ⟨oc,hoc,I.freeC x c hc⟩ hs,by simpa using I.len⟩ ⟨c,hs,.inr hc⟩
  ·exact(hs.2 b (Nat.ne_of_lt (Nat.lt_of_lt_of_le (Heap.lt_size e) (I.ok.cab x c hfn hc)))).trans (I.base.keep b o e n hb hx)
  ·obtain⟨sl,e1⟩:=I.base.slot b o e n hb hx
   exact⟨sl,(hs.2 b (Nat.ne_of_lt (Nat.lt_of_lt_of_le (Heap.lt_size e) (I.ok.cab x c hfn hc)))).trans e1⟩
  ·obtain⟨o',e1⟩:=I.base.there b o e hx
   exact⟨o',(hs.2 b (Nat.ne_of_lt (Nat.lt_of_lt_of_le (Heap.lt_size e) (I.ok.cab x c hfn hc)))).trans e1⟩
  ·by_cases hj:j=i
   ·subst hj
    rw[hi]at e1;cases e1
    rw[List.getElem?_set_self hiσ]at e2
    cases e2
    exact⟨u,r,.inr ⟨.inl hk,c,hc,hc'⟩⟩
   ·rw[List.getElem?_set_ne (Ne.symm hj)]at e2
    obtain⟨u',r',q⟩:=hl j y v' e1 e2 e3
    refine⟨u',r',?_⟩
    rcases q with q | ⟨k,c',e,z'⟩
    ·exact .inl q
    ·refine .inr ⟨k,c',e,z'.sameBut hs ?_⟩
     rintro rfl
     exact hj (z6V hN e1 (I.ok.inj _ _ _ e hc ▸ hi))
  ·by_cases hcc:c'=c
   ·subst hcc;exact⟨_,hc'⟩
   ·obtain⟨w2,z2⟩:=I.cell y c' e
    exact⟨w2,z2.sameBut hs hcc⟩
  ·obtain⟨e,n,ne,nf,d⟩:=I.pin p hp
   refine⟨(hs.2 p.1 ?_).trans e,n,ne,nf,d⟩
   intro q
   rw[q,hoc]at e
   have q':oc=p.2:=Option.some.inj e
   exact d w' (by rw[<- q'];exact hocd)
theorem z2E{M:Model}{A:Around}{E:Value->Shared->Prop}{i:Nat}{x:Str}{v:V}{u:Value}{Q:Unit->Shared->Prop}(I:Inv X pins σ H s)(hN:X.N.Nodup)(hi:X.N[i]?=some x)(hx:Loc X.env.scope x)(r:RelV v u)
  (h:∀ s',Inv X pins (σ.set i (some v)) H s'->Q () s') (hf:X.fn x=true\/X.env.scope.names.lookup x=some .local:=by first | exact .inl rfl | exact .inr rfl | assumption):wpAny M A (storeName X.env x u) Q E s :=
 z59 I hN hi hx r (fun s' I' _=>h s' I') hf
theorem Inv.call'{s':Shared}{ch:List Addr}(I:Inv X pins σ H s)(ho:s'.os=s.os)(u:Un (frs X.stack) ch H H' s.heap s'.heap)(hok:HOk X.prog X.w H' s'.heap)(hg:AllBare s'.gens)
  (hch:∀ b∈ch,(b∈X.ex\/X.s₀.heap.objs.size<=b)/\b≠X.env.locals/\(∀ x c,X.env.cells.lookup x=some c->c≠b)/\∀ p∈X.pn++pins,p.1≠b):Inv X pins σ H' s':=by
 obtain⟨h',g',d',t',o'⟩:=s'
 have e:o'=s.os:=ho
 subst e
 exact I.call (g':=g') (t':=t') (d':=d') u hok hg hch
end
abbrev XK:=Value->Option Addr->Hp->Prop
abbrev St:=List (Option V)
abbrev VK:=V->Hp->Prop
abbrev TE:=St->Hp->VK->Prop
abbrev TT:=St->Hp->(Bool->Hp->Prop)->Prop
abbrev TA:=St->Hp->(List V->Hp->Prop)->Prop
structure Ends where
 nx:St->Hp->Prop
 rt:VK
 bk:St->Hp->Prop:=fun _ _=>False
 ct:St->Hp->Prop:=fun _ _=>False
abbrev TS:=Ends->St->Hp->Prop
inductive NP(X:Cx)(pins:List (Addr × Obj))(Q:St->Hp->Prop)(s':Shared):Prop
 | mk (σ':St) (H':Hp) (h0:Inv X pins σ' H' s') (h1:Q σ' H')
inductive RP(X:Cx)(pins:List (Addr × Obj))(Q:VK)(u:Value)(s':Shared):Prop
 | mk (v:V) (σ':St) (H':Hp) (h0:Inv X pins σ' H' s') (h1:RelV v u) (h2:Q v H')
inductive EP(X:Cx)(pins:List (Addr × Obj))(σ:St)(Q:VK)(u:Value)(s':Shared):Prop
 | mk (v:V) (H':Hp) (h0:Inv X pins σ H' s') (h1:RelV v u) (h2:Q v H')
inductive TP(X:Cx)(pins:List (Addr × Obj))(σ:St)(Q:Bool->Hp->Prop)(b:Bool)(s':Shared):Prop
 | mk (H':Hp) (h0:Inv X pins σ H' s') (h1:Q b H')
inductive AP(X:Cx)(pins:List (Addr × Obj))(σ:St)(Q:List V->Hp->Prop)(us:List Value)(s':Shared):Prop
 | mk (vs:List V) (H':Hp) (h0:Inv X pins σ H' s') (h1:Vals vs us) (h2:Q vs H')
def SP(X:Cx)(pins:List (Addr × Obj))(D:Ends)(f:Flow)(s':Shared):Prop :=
 match f with
 | .next=>NP X pins D.nx s'
 | .brk=>NP X pins D.bk s'
 | .cont=>NP X pins D.ct s'
 | .ret u=>RP X pins D.rt u s'
def PE(X:Cx)(e:Expr)(t:TE):Prop :=
 ∀ (pins:List (Addr × Obj)) (s:Shared) (σ:St) (H:Hp) (Q:VK),Inv X pins σ H s->t σ H Q->wpAny (model X.prog X.w) X.A (eval e X.env) (EP X pins σ Q) X.xe s
def PT(X:Cx)(e:Expr)(t:TT):Prop :=
 ∀ (pins:List (Addr × Obj)) (s:Shared) (σ:St) (H:Hp) (Q:Bool->Hp->Prop),Inv X pins σ H s->t σ H Q->wpAny (model X.prog X.w) X.A (isTrue e X.env (eval e X.env)) (TP X pins σ Q) X.xe s
def PW(X:Cx)(e:Expr)(t:TT):Prop :=
 ∀ (whole:Sem Value) (pins:List (Addr × Obj)) (s:Shared) (σ:St) (H:Hp) (Q:Bool->Hp->Prop),Inv X pins σ H s->t σ H Q->wpAny (model X.prog X.w) X.A (isTrue e X.env whole) (TP X pins σ Q) X.xe s
theorem PW.pt{X:Cx}{e:Expr}{t:TT}(h:PW X e t):PT X e t:=h _
def PA(X:Cx)(es:List Expr)(t:TA):Prop :=
 ∀ (pos:Pos) (pins:List (Addr × Obj)) (s:Shared) (σ:St) (H:Hp) (Q:List V->Hp->Prop),Inv X pins σ H s->t σ H Q->wpAny (model X.prog X.w) X.A (spliced (backTo pos (starEach es X.env))) (AP X pins σ Q) X.xe s
def PS(X:Cx)(st:Stmt)(t:TS):Prop :=
 ∀ (pins:List (Addr × Obj)) (s:Shared) (σ:St) (H:Hp) (D:Ends),Inv X pins σ H s->t D σ H->wpAny (model X.prog X.w) X.A (exec st X.env) (SP X pins D) X.xe s
def PSs(X:Cx)(st:List Stmt)(t:TS):Prop :=
 ∀ (pins:List (Addr × Obj)) (s:Shared) (σ:St) (H:Hp) (D:Ends),Inv X pins σ H s->t D σ H->wpAny (model X.prog X.w) X.A (execs st X.env) (SP X pins D) X.xe s
theorem thn{α:Type}{t:Sem α}{Q Q':α->Shared->Prop}{M:Model}{A:Around}{E:Value->Shared->Prop}{s:Shared}(h:wpAny M A t Q E s)(hQ:∀ a s,Q a s->Q' a s):wpAny M A t Q' E s:=wpAny_mono h hQ fun _ _ x=>x
end L2
namespace L2
open PySem PySem.Spec PyProof.Rows
section
variable {X:Cx}
def tVar(i:Nat):TE:=fun σ H Q=>∃ v,σ[i]?=some (some v)/\Q v H
def tC(v:V):TE:=fun _ H Q=>Q v H
theorem zcm{i:Nat}{x:Str}{pos:Pos}(hN:X.N[i]?=some x)(hv:Vis X.env.scope x)(hd:(x == ("__debug__":Str))=false:=by decide)(hcd:(x == ("__classdict__":Str))=false:=by decide):PE X (.Name x pos) (tVar i):=by
 intro pins s σ H Q I h
 obtain⟨v,e,h⟩:=h
 obtain⟨m,hn,hl⟩:=I.loc
 obtain⟨u,r,l⟩:=hl i x v hN e hv
 have fin:EP X pins σ Q u s:=⟨v,H,I,r,h⟩
 rcases l with ⟨hk,hm⟩ | ⟨hk,c,hc,hcell⟩
 ·exact wpAny_Name (wpAny_loadName_local I.ok.kind hk hn hm fin) hd
 ·rcases hk with hk | hk
  ·exact wpAny_Name (wpAny_loadName_cell I.ok.kind hk hc hcell fin) hd
  ·exact wpAny_Name (wpAny_loadName_free I.ok.kind hk hc hcell fin hcd) hd
theorem z43{i j pos}:PE X (.Constant (.int i) j pos) (tC (.int i)):=fun _ _ _ H _ I h=>wpAny_Constant_int ⟨.int i,H,I.tok _,⟨_,rfl⟩,h⟩
theorem zeB{b j pos}:PE X (.Constant (.bool b) j pos) (tC (.bl b)):=fun _ _ _ H _ I h=>Constant_bool ⟨.bl b,H,I,rfl,h⟩
theorem zcn{j pos}:PE X (.Constant .none j pos) (tC .non):=fun _ _ _ H _ I h=>Constant_none ⟨.non,H,I,rfl,h⟩
theorem z3e{x j pos}:PE X (.Constant (.str x) j pos) (tC (.str x)):=fun _ _ _ H _ I h=>Calls.Constant_str ⟨.str x,H,I.tok _,⟨_,rfl⟩,h⟩
def Gl(X:Cx)(x:Str):Prop:=X.env.kindOf x=some .globalImplicit
theorem z85{E:Value->Shared->Prop}{pins:List (Addr × Obj)}{s:Shared}{σ:St}{H:Hp}{x:Str}{u:Value}{pos:Pos}{Q:Value->Shared->Prop}(I:Inv X pins σ H s)(hg:Gl X x)(hm:X.mg x=some u)(h:Q u s)
  (hd:(x == ("__debug__":Str))=false:=by decide):wpAny (model X.prog X.w) X.A (eval (.Name x pos) X.env) Q E s :=
 Calls.Name_function_global I.ok.kind hg (Calls.loadGlobal_global (by rw[I.ok.glob];exact I.mod.glob.keeps I.bk) hm h) hd
theorem z2e{E:Value->Shared->Prop}{pins:List (Addr × Obj)}{s:Shared}{σ:St}{H:Hp}{x:Str}{u:Value}{pos:Pos}{Q:Value->Shared->Prop}(I:Inv X pins σ H s)(hg:Gl X x)(hm:X.mg x=none)(hv:bootBuiltins x=some u)(h:Q u s)
  (hn:x≠"__name__":=by decide) (hd:(x == ("__debug__":Str))=false:=by decide):wpAny (model X.prog X.w) X.A (eval (.Name x pos) X.env) Q E s:=by
 obtain⟨mb,h1,h2⟩:=I.mod.blt
 exact Calls.Name_function_global I.ok.kind hg (Calls.loadGlobal_builtin (by rw[I.ok.glob];exact I.mod.glob.keeps I.bk) hm (by rw[I.ok.blt];exact h1.keeps I.bk) ((h2 x hn).trans hv) h) hd
theorem zb0{x:Str}{v:V}{u:Value}{pos:Pos}(hg:Gl X x)(hm:X.mg x=some u)(r:RelV v u)(hd:(x == ("__debug__":Str))=false:=by decide):PE X (.Name x pos) (tC v) :=
 fun _ _ _ H _ I h=>z85 I hg hm ⟨v,H,I,r,h⟩ hd
theorem zb1{x:Str}{v:V}{u:Value}{pos:Pos}(hg:Gl X x)(hm:X.mg x=none)(hv:bootBuiltins x=some u)(r:RelV v u)(hn:x≠"__name__":=by decide)(hd:(x == ("__debug__":Str))=false:=by decide):PE X (.Name x pos) (tC v) :=
 fun _ _ _ H _ I h=>z2e I hg hm hv ⟨v,H,I,r,h⟩ hn hd
variable {a b:Expr} {ta tb:TE} {pos:Pos}
variable {tA tB':TT} {rest:List Expr}
def tAnd(t u:TT):TT:=fun σ H Q=>t σ H fun c H1=>if c=true then u σ H1 Q else Q false H1
def tOr(t u:TT):TT:=fun σ H Q=>t σ H fun c H1=>if c=true then Q true H1 else u σ H1 Q
def tNot(t:TT):TT:=fun σ H Q=>t σ H fun c H1=>Q (!c) H1
theorem zb2(ha:PT X a tA):PW X (.BoolOp .And [a] pos) tA:=by
 intro wh pins s σ H Q I h
 refine isTrue_and (thn (ha pins s σ H Q I h) fun c s1 e=>?_)
 cases c with
 | true=>exact isTrue_and_nil e
 | false=>exact e
theorem zco(ha:PT X a tA):PW X (.BoolOp .Or [a] pos) tA:=by
 intro wh pins s σ H Q I h
 refine isTrue_or (thn (ha pins s σ H Q I h) fun c s1 e=>?_)
 cases c with
 | false=>exact isTrue_or_nil e
 | true=>exact e
theorem zcp(ha:PT X a tA)(hb:PW X (.BoolOp .And (b::rest) pos) tB'):PW X (.BoolOp .And (a::b::rest) pos) (tAnd tA tB'):=by
 intro wh pins s σ H Q I h
 refine isTrue_and (thn (ha pins s σ H _ I h) fun c s1 x__2=>?_)
 obtain⟨H1,I1,q1⟩:=x__2
 cases c with
 | true=>exact hb wh pins s1 σ H1 Q I1 q1
 | false=>exact⟨H1,I1,q1⟩
theorem zeC(ha:PT X a tA)(hb:PW X (.BoolOp .Or (b::rest) pos) tB'):PW X (.BoolOp .Or (a::b::rest) pos) (tOr tA tB'):=by
 intro wh pins s σ H Q I h
 refine isTrue_or (thn (ha pins s σ H _ I h) fun c s1 x__3=>?_)
 obtain⟨H1,I1,q1⟩:=x__3
 cases c with
 | true=>exact⟨H1,I1,q1⟩
 | false=>exact hb wh pins s1 σ H1 Q I1 q1
theorem zcq(ha:PT X a tA):PT X (.UnaryOp .Not a pos) (tNot tA):=by
 intro pins s σ H Q I h
 exact isTrue_not (thn (ha pins s σ H (fun c H1=>Q (!c) H1) I h) fun c s1 x__4=>(by obtain⟨H1,I1,q1⟩:=x__4;exact⟨H1,I1,q1⟩))
def tAndV(ta tb:TE):TE:=fun σ H Q=>ta σ H fun x H1=>∃ c,x=.bl c/\if c=true then tb σ H1 Q else Q (.bl false) H1
def tNotV(ta:TE):TE:=fun σ H Q=>ta σ H fun x H1=>∃ c,x=.bl c/\Q (.bl (!c)) H1
theorem zcr{op}{t:TE}(h:PE X a t):PE X (.BoolOp op [a] pos) t:=fun pins s σ H Q I hw=>BoolOp_one (h pins s σ H Q I hw)
theorem zcs(ha:PE X a ta)(hb:PE X (.BoolOp .And (b::rest) pos) tb):PE X (.BoolOp .And (a::b::rest) pos) (tAndV ta tb):=by
 intro pins s σ H Q I h
 refine BoolOp_and (thn (ha pins s σ H _ I h) fun v s1 x__5=>?_)
 obtain⟨x,H1,I1,r1,q1⟩:=x__5
 obtain⟨c,rfl,q1⟩:=q1
 cases r1
 refine wpAny_truthy_bool ?_
 cases c with
 | true=>exact hb pins s1 σ H1 Q I1 q1
 | false=>exact⟨.bl false,H1,I1,rfl,q1⟩
theorem zct(ha:PE X a ta):PE X (.UnaryOp .Not a pos) (tNotV ta):=by
 intro pins s σ H Q I h
 refine UnaryOp_ (thn (ha pins s σ H _ I h) fun v s1 x__6=>?_)
 obtain⟨x,H1,I1,r1,q1⟩:=x__6
 obtain⟨c,rfl,q1⟩:=q1
 cases r1
 exact not_of (wpAny_truthy_bool ⟨.bl (!c),H1,I1,rfl,q1⟩)
end
end L2
namespace L2
open PySem PySem.Spec PyProof.Rows
def SqL(K:PySem.W.Frag)(H:Hp)(a:Addr)(xs:List V):Prop :=
 Rd H a (.lst xs) \/
  ∃ (o:Obj) (its:Array Value) (n:Nat),K.lookup a=some o/\o.cls=.type "list"/\o.dict=none/\o.data=.seq its n/\its.size<=sizeLine/\Vals xs its.toList
def SqT(K:PySem.W.Frag)(H:Hp)(a:Addr)(xs:List V):Prop :=
 Rd H a (.tup xs) \/
  ∃ (o:Obj) (its:Array Value) (n:Nat),K.lookup a=some o/\o.cls=.type "tuple"/\o.data=.seq its n/\its.size<=sizeLine/\Vals xs its.toList
def absV:Value->Option V
 | .none=>some .non
 | .bool b=>some (.bl b)
 | .int i _=>some (.int i)
 | .str x _=>some (.str x)
 | .bytes b _=>some (.byt b)
 | .float b _=>some (.flt b)
 | .ref a=>some (.ref a)
 | .type n=>some (.ty n)
 | _=>none
theorem RelV.abs{x:V}{u:Value}(r:RelV x u):absV u=some x:=by
 cases x with
 | non=>cases r;rfl
 | bl _=>cases r;rfl
 | int _=>obtain⟨t,rfl⟩:=r;rfl
 | str _=>obtain⟨t,rfl⟩:=r;rfl
 | byt _=>obtain⟨t,rfl⟩:=r;rfl
 | flt _=>obtain⟨t,rfl⟩:=r;rfl
 | ref _=>cases r;rfl
 | ty _=>cases r;rfl
theorem RelV.inj{x y:V}{u:Value}(r:RelV x u)(q:RelV y u):x=y:=Option.some.inj (r.abs.symm.trans q.abs)
theorem Vals.inj{xs ys:List V}{us:List Value}(h:Vals xs us)(g:Vals ys us):xs=ys:=by
 induction h generalizing ys with
 | nil=>cases g;rfl
 | cons r t ih =>
  cases g with
  | cons r' t'=>rw[r.inj r',ih t']
section
variable {X:Cx} {pins:List (Addr × Obj)} {σ:St} {H:Hp} {s:Shared} {a:Addr} {xs ys:List V}
theorem SqL.of{K:PySem.W.Frag}(h:H a=some (.lst xs)):SqL K H a xs:=.inl (.inl h)
theorem SqT.of{K:PySem.W.Frag}(h:H a=some (.tup xs)):SqT K H a xs:=.inl (.inl h)
theorem Inv.list(I:Inv X pins σ H s)(h:SqL X.K H a xs):∃ its:List Value,Vals xs its/\PlainL s.heap a its.toArray/\xs.length<=sizeLine:=by
 rcases h with h | ⟨o,its,n,hk,hc,hd,hs,hz,r⟩
 ·obtain⟨z,its,n,r,e⟩:=h.ok I.hok
  exact⟨its,r,⟨_,n,e,rfl,rfl,rfl⟩,z⟩
 ·refine⟨its.toList,r,⟨o,n,I.kIn a o hk,hc,hd,by simpa using hs⟩,?_⟩
  have e:=r.length
  simp only[Array.length_toList]at e
  omega
theorem Inv.tuple(I:Inv X pins σ H s)(h:SqT X.K H a xs):∃ its:List Value,Vals xs its/\IsTup s.heap a its.toArray/\xs.length<=sizeLine:=by
 rcases h with h | ⟨o,its,n,hk,hc,hs,hz,r⟩
 ·obtain⟨z,its,r,p⟩:=h.ok I.hok
  exact⟨its,r,p,z⟩
 ·refine⟨its.toList,r,⟨o,I.kIn a o hk,hc,n,by simpa using hs⟩,?_⟩
  have e:=r.length
  simp only[Array.length_toList]at e
  omega
theorem Inv.list_inj(I:Inv X pins σ H s)(h:SqL X.K H a xs)(h':SqL X.K H a ys):xs=ys:=by
 obtain⟨its,r,⟨o,n,e,_,_,d⟩,_⟩:=I.list h
 obtain⟨its',r',⟨o',n',e',_,_,d'⟩,_⟩:=I.list h'
 rw[e]at e';cases e'
 rw[d]at d'
 injection d' with d1 _
 have:its=its':=by simpa using congrArg Array.toList d1
 subst this
 exact r.inj r'
theorem Inv.tuple_inj(I:Inv X pins σ H s)(h:SqT X.K H a xs)(h':SqT X.K H a ys):xs=ys:=by
 obtain⟨its,r,⟨o,e,_,n,d⟩,_⟩:=I.tuple h
 obtain⟨its',r',⟨o',e',_,n',d'⟩,_⟩:=I.tuple h'
 rw[e]at e';cases e'
 rw[d]at d'
 injection d' with d1 _
 have:its=its':=by simpa using congrArg Array.toList d1
 subst this
 exact r.inj r'
end
abbrev Cx.wish(X:Cx)(E:Value->Shared->Prop):Cx:={X with xe:=E}
abbrev Cx.nox(X:Cx):Cx:=X.wish fun _ _=>False
theorem Cx.Ok.wish{X:Cx}(ok:X.Ok)(E:Value->Shared->Prop):(X.wish E).Ok :=
 ⟨ok.mod,ok.kind,ok.glob,ok.blt,ok.above,ok.inj,ok.has,ok.cab,ok.hd,ok.frames,ok.stk,ok.exf,ok.bs,ok.bsz,ok.noex,ok.exfs,ok.funs,ok.frf⟩
theorem Cx.Ok.unwish{X:Cx}{E:Value->Shared->Prop}(ok:(X.wish E).Ok):X.Ok :=
 ⟨ok.mod,ok.kind,ok.glob,ok.blt,ok.above,ok.inj,ok.has,ok.cab,ok.hd,ok.frames,ok.stk,ok.exf,ok.bs,ok.bsz,ok.noex,ok.exfs,ok.funs,ok.frf⟩
section
variable {X:Cx} {pins:List (Addr × Obj)} {σ:St} {H:Hp} {s:Shared} {E:Value->Shared->Prop}
theorem Inv.wish(I:Inv X pins σ H s)(E:Value->Shared->Prop):Inv (X.wish E) pins σ H s:=⟨I.ok.wish E,I.os,I.bare,I.base,I.loc,I.cell,I.free,I.freeC,I.pin,I.hok,I.len⟩
theorem Inv.unwish(I:Inv (X.wish E) pins σ H s):Inv X pins σ H s:=⟨I.ok.unwish,I.os,I.bare,I.base,I.loc,I.cell,I.free,I.freeC,I.pin,I.hok,I.len⟩
theorem SP.unwish{D:Ends}{f:Flow}{s':Shared}(h:SP (X.wish E) pins D f s'):SP X pins D f s':=by
 cases f with
 | next=>obtain⟨σ',H',I,q⟩:=h;exact⟨σ',H',I.unwish,q⟩
 | brk=>obtain⟨σ',H',I,q⟩:=h;exact⟨σ',H',I.unwish,q⟩
 | cont=>obtain⟨σ',H',I,q⟩:=h;exact⟨σ',H',I.unwish,q⟩
 | ret u=>obtain⟨v,σ',H',I,r,q⟩:=h;exact⟨v,σ',H',I.unwish,r,q⟩
theorem PSs.nox{st:List Stmt}{t:TS}(h:PSs X.nox st t):PSs X st t:=fun pins s σ H D I hw =>
 wpAny_mono (h pins s σ H D (I.wish _) hw) (fun _ _ q=>q.unwish) fun _ _ z=>False.elim z
end
section
variable {X:Cx} {st:Stmt} {rest:List Stmt} {t u:TS} {e:Expr} {te:TE} {pos:Pos}
def tNext:TS:=fun D σ H=>D.nx σ H
def tSeq(t u:TS):TS:=fun D σ H=>t {D with nx:=u D} σ H
theorem z86:PSs X [] tNext:=fun _ _ σ H _ I h=>wpAny_execs_nil ⟨σ,H,I,h⟩
theorem z0E(h1:PS X st t)(h2:PSs X rest u):PSs X (st::rest) (tSeq t u):=by
 intro pins s σ H D I h
 refine wpAny_execs_cons (thn (h1 pins s σ H {D with nx:=u D} I h) fun f s1 q=>?_)
 cases f with
 | next =>
  obtain⟨σ',H',I',q⟩:=q
  exact h2 pins s1 σ' H' D I' q
 | ret v=>exact q
 | brk=>exact q
 | cont=>exact q
theorem z4k(h1:PS X st t):PSs X [st] t:=by
 intro pins s σ H D I h
 refine wpAny_execs_cons (thn (h1 pins s σ H D I h) fun f s1 q=>?_)
 cases f with
 | next=>exact wpAny_execs_nil q
 | ret v=>exact q
 | brk=>exact q
 | cont=>exact q
theorem Inv.quiet{pins:List (Addr × Obj)}{σ:St}{H:Hp}{s:Shared}(I:Inv X pins σ H s):interactive X.env=false:=by simp[interactive,I.ok.kind]
def tDrop(te:TE):TS:=fun D σ H=>te σ H fun _ H1=>D.nx σ H1
theorem z69(he:PE X e te)(hs:swapsWith e none pos.line X.env=pure false:=by rfl):PS X (.Expr e pos) (tDrop te):=by
 intro pins s σ H D I h
 exact wpAny_Expr_any (thn (he pins s σ H _ I h) fun v s1 x__7=>(by obtain⟨x,H1,I1,r1,q1⟩:=x__7;exact⟨σ,H1,I1,q1⟩)) I.quiet hs
def tRet(te:TE):TS:=fun D σ H=>te σ H D.rt
theorem z6W(he:PE X e te):PS X (.Return (some e) pos) (tRet te):=by
 intro pins s σ H D I h
 exact wpAny_Return_some (thn (he pins s σ H _ I h) fun v s1 x__8=>(by obtain⟨x,H1,I1,r1,q1⟩:=x__8;exact⟨x,σ,H1,I1,r1,q1⟩))
def tIfS(c:TT)(t u:TS):TS:=fun D σ H=>c σ H fun b H1=>if b=true then t D σ H1 else u D σ H1
theorem zcu{c:Expr}{a b:List Stmt}{tc:TT}(hc:PT X c tc)(ha:PSs X a t)(hb:PSs X b u):PS X (.If c a b pos) (tIfS tc t u):=by
 intro pins s σ H D I h
 refine wpAny_If (thn (hc pins s σ H _ I h) fun d s1 x__9=>?_)
 obtain⟨H1,I1,q1⟩:=x__9
 cases d with
 | true=>exact ha pins s1 σ H1 D I1 q1
 | false=>exact hb pins s1 σ H1 D I1 q1
end
abbrev TG:=V->St->Hp->(St->Hp->Prop)->Prop
abbrev TGs:=List V->St->Hp->(St->Hp->Prop)->Prop
def PG(X:Cx)(target:Expr)(t:TG):Prop :=
 ∀ (pins:List (Addr × Obj)) (s:Shared) (σ:St) (H:Hp) (v:V) (u:Value) (Q:St->Hp->Prop),Inv X pins σ H s->RelV v u->t v σ H Q ->
  wpAny (model X.prog X.w) X.A (assign target X.env u) (fun _ s'=>NP X pins Q s') X.xe s
def PGs(X:Cx)(ts:List Expr)(t:TGs):Prop :=
 ∀ (pins:List (Addr × Obj)) (s:Shared) (σ:St) (H:Hp) (vs:List V) (us:List Value) (Q:St->Hp->Prop),Inv X pins σ H s->Vals vs us->t vs σ H Q ->
  wpAny (model X.prog X.w) X.A (assignInOrder ((assignEach ts X.env).map (·.2)) us) (fun _ s'=>NP X pins Q s') X.xe s
abbrev TSet:=V->V->V->Hp->(Hp->Prop)->Prop
def PSet(X:Cx)(t:TSet):Prop :=
 ∀ (pins:List (Addr × Obj)) (s:Shared) (σ:St) (H:Hp) (o i v:V) (ov iv u:Value) (Q:Hp->Prop),Inv X pins σ H s->RelV o ov->RelV i iv->RelV v u->t o i v H Q ->
  wpAny (model X.prog X.w) X.A (setItem ov iv u) (fun _ s'=>∃ H',Inv X pins σ H' s'/\Q H') X.xe s
abbrev TIp:=V->V->Hp->VK->Prop
def PIp(X:Cx)(op:Operator)(t:TIp):Prop :=
 ∀ (pins:List (Addr × Obj)) (s:Shared) (σ:St) (H:Hp) (x y:V) (v u:Value) (Q:VK),Inv X pins σ H s->RelV x v->RelV y u->t x y H Q ->
  wpAny (model X.prog X.w) X.A (inplaceOp op v u) (EP X pins σ Q) X.xe s
section
variable {X:Cx} {pos:Pos}
def gName(i:Nat):TG:=fun v σ H Q=>Q (σ.set i (some v)) H
theorem z6a{i:Nat}{x:Str}(hN:X.N.Nodup)(hi:X.N[i]?=some x)(hx:Loc X.env.scope x)(hf:X.fn x=true\/X.env.scope.names.lookup x=some .local:=by first | exact .inl rfl | exact .inr rfl | assumption):PG X (.Name x pos) (gName i):=by
 intro pins s σ H v u Q I r h
 exact wpAny_assign_Name (z2E I hN hi hx r (fun s' I'=>⟨_,H,I',h⟩) hf)
def gNil:TGs:=fun vs σ H Q=>vs=[]/\Q σ H
def gCons(t:TG)(u:TGs):TGs:=fun vs σ H Q=>∃ v r,vs=v::r/\t v σ H fun σ' H'=>u r σ' H' Q
theorem z87:PGs X [] gNil:=by
 intro pins s σ H vs us Q I r h
 obtain⟨e,h⟩:=h
 subst e
 cases r
 exact assignInOrder_nil ⟨σ,H,I,h⟩
theorem z4l{e:Expr}{es:List Expr}{t:TG}{u:TGs}(h1:PG X e t)(h2:PGs X es u)
  (hs:(assignEach (e::es) X.env).map (·.2)=assign e X.env::(assignEach es X.env).map (·.2):=by rfl):PGs X (e::es) (gCons t u):=by
 intro pins s σ H vs us Q I r h
 obtain⟨v,vr,e1,h⟩:=h
 subst e1
 cases r with
 | cons r rr =>
  rw[hs]
  refine assignInOrder_cons (thn (h1 pins s σ H _ _ _ I r h) fun _ s1 zeW=>?_)
  obtain⟨σ1,H1,I1,q1⟩:=zeW
  exact h2 pins s1 σ1 H1 _ _ Q I1 rr q1
def gTup(K:PySem.W.Frag)(n:Nat)(t:TGs):TG:=fun v σ H Q=>∃ a xs,v=.ref a/\SqT K H a xs/\xs.length=n/\t xs σ H Q
theorem zav{es:List Expr}{k:Nat}{t:TGs}{n:Nat}(hc:X.calm=true)(h:PGs X es t)
  (hn:(assignEach es X.env).length=n:=by rfl) (hst:(assignEach es X.env).findIdx? (·.1)=none:=by rfl):PG X (.Tuple es k pos) (gTup X.K n t):=by
 intro pins s σ H v u Q I r hw
 obtain⟨a,xs,e1,hq,hl,hw⟩:=hw
 subst e1
 cases r
 obtain⟨its,rv,ht,hz⟩:=I.tuple hq
 refine assign_Tuple_tuple (I.ok.hd hc) ht (by simp[hn,<- hl,rv.length]) hst fun h' hx=>?_
 have I1:Inv X pins σ H {s with heap:=h'}:=I.kept (t':=s.toks) fun b o e=>hx b o (Nat.ne_of_lt (Heap.lt_size e)) e
 exact h pins _ σ H xs _ Q I1 (by simpa using rv) hw
def gSub(to ti:TE)(t:TSet):TG:=fun v σ H Q=>to σ H fun o H1=>ti σ H1 fun i H2=>t o i v H2 fun H3=>Q σ H3
theorem zaw{o i:Expr}{to ti:TE}{t:TSet}(ho:PE X o to)(hi:PE X i ti)(hs:PSet X t)
  (ha:∀ v,assign (.Subscript o i pos) X.env v=(do
   let ov <- holding [v] (eval o X.env)
   let iv <- holding [v,ov] (eval i X.env)
   standAt pos
   holding [v,ov,iv] (setItem ov iv v)
   release [v,ov,iv] []):=by intro _;rfl):PG X (.Subscript o i pos) (gSub to ti t):=by
 intro pins s σ H v u Q I r h
 rw[ha]
 refine wpAny_bind (wpAny_holding (thn (ho pins s σ H _ I h) fun ov s1 zeX=>?_))
 obtain⟨x,H1,I1,r1,q1⟩:=zeX
 refine wpAny_bind (wpAny_holding (thn (hi pins s1 σ H1 _ I1 q1) fun iv s2 zeY=>?_))
 obtain⟨y,H2,I2,r2,q2⟩:=zeY
 refine wpAny_bind (wpAny_standAt (wpAny_bind (wpAny_holding (thn (hs pins s2 σ H2 x y v ov iv u _ I2 r1 r2 r q2) fun _ s3 zeZ=>?_))))
 obtain⟨H3,I3,q3⟩:=zeZ
 exact wpAny_release ⟨σ,H3,I3,q3⟩
def tAsg(te:TE)(g:TG):TS:=fun D σ H=>te σ H fun x H1=>g x σ H1 D.nx
theorem z88{tg e:Expr}{te:TE}{g:TG}(he:PE X e te)(hg:PG X tg g)(hs:swapsWithSole [tg] e pos.line X.env=pure false:=by rfl)(hw:swappedStores [tg] e X.env=pure none:=by rfl)
  (h1:(assignEach [tg] X.env).map (·.2)=[assign tg X.env]:=by rfl):PS X (.Assign [tg] e pos) (tAsg te g):=by
 intro pins s σ H D I h
 refine wpAny_Assign_stores (thn (he pins s σ H _ I h) fun v s1 zf0=>?_) hs hw
 obtain⟨x,H1,I1,r1,q1⟩:=zf0
 rw[h1]
 exact thn (hg pins s1 σ H1 x v _ I1 r1 q1) fun _ s2 q=>q
theorem z2F{i:Nat}{x:Str}{e:Expr}{te:TE}{pos':Pos}(hN:X.N.Nodup)(hi:X.N[i]?=some x)(hx:Loc X.env.scope x)(he:PE X e te)(hs:swapsWith e (some (.Name x pos')) pos.line X.env=pure false:=by rfl)(hf:X.fn x=true\/X.env.scope.names.lookup x=some .local:=by first | exact .inl rfl | exact .inr rfl | assumption) :
  PS X (.Assign [.Name x pos'] e pos) (tAsg te (gName i)):=by
 intro pins s σ H D I h
 refine wpAny_Assign_Name (thn (he pins s σ H _ I h) fun v s1 zf1=>?_) hs
 obtain⟨y,H1,I1,r1,q1⟩:=zf1
 exact z2E I1 hN hi hx r1 (fun s2 I2=>⟨_,H1,I2,q1⟩) hf
def tPar(i j:Nat)(ta:TA):TS:=fun D σ H=>ta σ H fun vs H1=>∃ v w,vs=[v,w]/\D.nx ((σ.set i (some v)).set j (some w)) H1
theorem z89{i j:Nat}{x y:Str}{a b:Expr}{ta:TA}{px py pt:Pos}{kt k2 pt2}(hc:X.calm=true)(hN:X.N.Nodup)(hi:X.N[i]?=some x)(hj:X.N[j]?=some y)(hij:i≠j)
  (hx:X.env.scope.names.lookup x=some .local) (hy:X.env.scope.names.lookup y=some .local) (ha:PA X [a,b] ta)
  (hw:swappedStores [.Tuple [.Name x px,.Name y py] kt pt] (.Tuple [a,b] k2 pt2) X.env=pure (some [x,y]))
  (hs:swapsWithSole [.Tuple [.Name x px,.Name y py] kt pt] (.Tuple [a,b] k2 pt2) pos.line X.env=pure false:=by rfl) :
  PS X (.Assign [.Tuple [.Name x px,.Name y py] kt pt] (.Tuple [a,b] k2 pt2) pos) (tPar i j ta):=by
 intro pins s σ H D I h
 rw[exec_Assign_arm]
 refine wpAny_bind (wpAny_standAt ?_)
 rw[hs]
 refine wpAny_bind (wpAny_pure ?_)
 rw[if_neg (by decide)]
 refine wpAny_bind (Tuple_ (thn (ha _ pins s σ H _ I h) fun us s1 zf2=>?_))
 obtain⟨vs,H1,I1,r1,q1⟩:=zf2
 obtain⟨v,w,e1,q1⟩:=q1
 subst e1
 obtain⟨u1,u2,rfl,rv,rw'⟩:∃ u1 u2,us=[u1,u2]/\RelV v u1/\RelV w u2:=by
  cases r1 with
  | cons p q =>
   cases q with
   | cons p' q' =>
    cases q'
    exact⟨_,_,rfl,p,p'⟩
 refine wpAny_newObj_type ?_ (by show 2<=sizeLine;decide)
 have I2:Inv X pins σ H1 {s1 with heap:=s1.heap.push {cls:=.type "tuple",data:=.seq [u1,u2].toArray}}:=I1.kept (t':=s1.toks) fun b o e=>Heap.get?_push_of_some _ e
 rw[hw]
 refine wpAny_bind (wpAny_pure ?_)
 show wpAny (model X.prog X.w) X.A (do rule "assign.swapped-stores";let items <- unpackItems (.ref s1.heap.objs.size) 2 none;assignInOrder [fun v=>bindName X.env y v,fun v=>bindName X.env x v] items.reverse;pure Flow.next) _ _ _
 refine wpAny_bind (wpAny_rule (wpAny_bind (unpackItems_tuple (items:=#[u1,u2]) (I.ok.hd hc) (IsTup.new s1.heap _) fun h' hx'=>?_)))
 have I3:=I2.kept (h':=h') (t':=s1.toks) fun b o e=>hx' b o (Nat.ne_of_lt (Heap.lt_size e)) e
 show wpAny _ _ (assignInOrder [fun v=>bindName X.env y v,fun v=>bindName X.env x v] [u2,u1] >>= fun _=>pure Flow.next) _ _ _
 refine wpAny_bind (assignInOrder_cons (wpAny_bindName (z2E I3 hN hj (.inl hy) rw' (fun s2 I4=>?_) (.inr hy))))
 refine assignInOrder_cons (wpAny_bindName (z2E I4 hN hi (.inl hx) rv (fun s3 I5=>assignInOrder_nil (wpAny_pure ?_)) (.inr hx)))
 rw[List.set_comm _ _ (Ne.symm hij)]at I5
 exact⟨_,H1,I5,q1⟩
def tAug(i:Nat)(te:TE)(ti:TIp):TS:=fun D σ H=>∃ x,σ[i]?=some (some x)/\te σ H fun y H1=>ti x y H1 fun z H2=>D.nx (σ.set i (some z)) H2
theorem zcv{i:Nat}{x:Str}{e:Expr}{te:TE}{op:Operator}{ti:TIp}{pos':Pos}(hN:X.N.Nodup)(hi:X.N[i]?=some x)(hx:Loc X.env.scope x)(he:PE X e te)(ho:PIp X op ti)(hf:X.fn x=true\/X.env.scope.names.lookup x=some .local:=by first | exact .inl rfl | exact .inr rfl | assumption) :
  PS X (.AugAssign (.Name x pos') op e pos) (tAug i te ti):=by
 intro pins s σ H D I h
 obtain⟨v,e1,h⟩:=h
 obtain⟨m,hn,hl⟩:=I.loc
 have vis:Vis X.env.scope x:=by rcases hx with k | k;exact .inl k;exact .inr (.inl k)
 obtain⟨u,r,l⟩:=hl i x v hi e1 vis
 refine wpAny_AugAssign_Name ?_
 have go:wpAny (model X.prog X.w) X.A (eval e X.env) (fun w s₂=>wpAny (model X.prog X.w) X.A (inplaceOp op u w) (fun r s₃=>wpAny (model X.prog X.w) X.A (storeName X.env x r) (fun _=>SP X pins D .next) X.xe s₃) X.xe s₂) X.xe s:=by
  refine thn (he pins s σ H _ I h) fun w s1 zf3=>?_
  obtain⟨y,H1,I1,r1,q1⟩:=zf3
  refine thn (ho pins s1 σ H1 v y u w _ I1 r r1 q1) fun z s2 zf4=>?_
  obtain⟨zv,H2,I2,r2,q2⟩:=zf4
  exact z2E I2 hN hi hx r2 (fun s3 I3=>⟨_,H2,I3,q2⟩) hf
 rcases l with ⟨hk,hm⟩ | ⟨hk,c,hc,hcell⟩
 ·exact wpAny_loadName_local I.ok.kind hk hn hm go
 ·rcases hk with hk | hk
  ·exact wpAny_loadName_cell I.ok.kind hk hc hcell go
  ·rcases hx with k | k
   ·have:X.env.scope.names.lookup x=some .free:=hk
    rw[k]at this;cases this
   ·have:X.env.scope.names.lookup x=some .free:=hk
    rw[k]at this;cases this
def tAugS(to ti te:TE)(tget:V->V->Hp->VK->Prop)(tip:TIp)(tset:TSet):TS:=fun D σ H=>to σ H fun o H1=>ti σ H1 fun i H2=>tget o i H2 fun x H3=>te σ H3 fun y H4=>tip x y H4 fun z H5=>tset o i z H5 fun H6=>D.nx σ H6
def PGet(X:Cx)(t:V->V->Hp->VK->Prop):Prop :=
 ∀ (pins:List (Addr × Obj)) (s:Shared) (σ:St) (H:Hp) (o i:V) (ov iv:Value) (Q:VK),Inv X pins σ H s->RelV o ov->RelV i iv->t o i H Q ->
  wpAny (model X.prog X.w) X.A (getItem ov iv) (EP X pins σ Q) X.xe s
theorem zb3{o i e:Expr}{to ti te:TE}{tget:V->V->Hp->VK->Prop}{tip:TIp}{tset:TSet}{op:Operator}{tpos:Pos}(ho:PE X o to)(hi:PE X i ti)(hg:PGet X tget)(he:PE X e te)(hp:PIp X op tip)(hs:PSet X tset)
  (ha:∀ ov iv new,augStore i ov iv new=(do holding [new,ov,iv] (setItem ov iv new);release [new,ov,iv] [];pure .next):=by intros;rfl):PS X (.AugAssign (.Subscript o i tpos) op e pos) (tAugS to ti te tget tip tset):=by
 intro pins s σ H D I h
 refine wpAny_AugAssign_SubscriptAny (thn (ho pins s σ H _ I h) fun ov s1 zf5=>?_) ha
 obtain⟨x1,H1,I1,r1,q1⟩:=zf5
 refine thn (hi pins s1 σ H1 _ I1 q1) fun iv s2 zf6=>?_
 obtain⟨x2,H2,I2,r2,q2⟩:=zf6
 refine thn (hg pins s2 σ H2 x1 x2 ov iv _ I2 r1 r2 q2) fun old s3 zf7=>?_
 obtain⟨x3,H3,I3,r3,q3⟩:=zf7
 refine thn (he pins s3 σ H3 _ I3 q3) fun v s4 zf8=>?_
 obtain⟨x4,H4,I4,r4,q4⟩:=zf8
 refine thn (hp pins s4 σ H4 x3 x4 old v _ I4 r3 r4 q4) fun new s5 zf9=>?_
 obtain⟨x5,H5,I5,r5,q5⟩:=zf9
 exact thn (hs pins s5 σ H5 x1 x2 x5 ov iv new _ I5 r1 r2 r5 q5) fun _ s6 zfa=>(by obtain⟨H6,I6,q6⟩:=zfa;exact⟨σ,H6,I6,q6⟩)
end
section
variable {X:Cx} {pos:Pos}
def tWhile(c:TT)(tb:TS):TS:=fun D σ H=>∃ W:Nat->St->Hp->Prop,(∃ m,W m σ H)/\∀ m σ H,W m σ H ->
 c σ H fun b H1=>if b=true then ∃ N:St->Hp->Prop,(∀ σ' H',N σ' H'->∃ m',m' < m/\W m' σ' H')/\tb {D with nx:=N,ct:=N,bk:=D.nx} σ H1 else D.nx σ H1
theorem z9J{c:Expr}{body:List Stmt}{tc:TT}{tb:TS}(hp:PassesOwn (model X.prog X.w) X.A X.env X.xe)(hc:PT X c tc)(hb:PSs X body tb):PS X (.While c body [] pos) (tWhile tc tb):=by
 intro pins s σ H D I h
 obtain⟨W,⟨m0,w0⟩,turn⟩:=h
 refine wpAny_While (codeAny_whileLoop (fun n s'=>NP X pins (W n) s') ?_ m0 ⟨σ,H,I,w0⟩)
 rintro n s1 ⟨σ1,H1,I1,w1⟩
 refine wpAny_passesOwn hp (thn (hc pins s1 σ1 H1 _ I1 (turn n σ1 H1 w1)) fun b s2 zfb=>?_)
 obtain⟨H2,I2,q2⟩:=zfb
 cases b with
 | true =>
  obtain⟨N,hN,q2⟩:=q2
  rw[if_pos rfl]
  refine wpAny_passesOwn hp (thn (hb pins s2 σ1 H2 _ I2 q2) fun f s3 q3=>?_)
  cases f with
  | next =>
   obtain⟨σ3,H3,I3,n3⟩:=q3
   obtain⟨m',hm,w3⟩:=hN σ3 H3 n3
   exact⟨m',hm,σ3,H3,I3,w3⟩
  | cont =>
   obtain⟨σ3,H3,I3,n3⟩:=q3
   obtain⟨m',hm,w3⟩:=hN σ3 H3 n3
   exact⟨m',hm,σ3,H3,I3,w3⟩
  | brk=>exact q3
  | ret v=>exact q3
 | false =>
  rw[if_neg Bool.false_ne_true]
  exact wpAny_execs_nil ⟨σ1,H2,I2,q2⟩
end
structure It where
 go:Nat->Hp->Prop
 yld:Nat->Hp->V->Hp->Prop
 stop:Nat->Hp->Prop
def FpOk(X:Cx)(pins:List (Addr × Obj))(H:Hp)(b:Addr):Prop :=
 H b=none/\b≠X.env.locals/\b ∉ X.fs/\(b∈X.ex\/X.s₀.heap.objs.size<=b)/\(∀ x c,X.env.cells.lookup x=some c->c≠b)/\∀ p∈X.pn++pins,p.1≠b
theorem Inv.fpOk{X:Cx}{pins:List (Addr × Obj)}{σ:St}{H H':Hp}{s:Shared}{b:Addr}(I:Inv X pins σ H s)(hb:s.heap.objs.size<=b)(hn:H' b=none):FpOk X pins H' b:=by
 refine⟨hn,Nat.ne_of_gt (Nat.lt_of_lt_of_le I.lt hb),I.nofs hb,.inr (Nat.le_trans I.sz hb),fun x c e z=>?_,fun p hp z=>?_⟩
 ·obtain⟨v,q⟩:=I.cell x c e
  exact absurd (Nat.lt_of_lt_of_le q.lt (by rw[z];exact hb)) (Nat.lt_irrefl _)
 ·exact absurd (Nat.lt_of_lt_of_le (Heap.lt_size (I.pin p hp).1) (by rw[z];exact hb)) (Nat.lt_irrefl _)
inductive Yl(X:Cx)(pins:List (Addr × Obj))(σ:St)(J:It)(i:Nat)(H:Hp)(fp:List Addr)(tn:Nat->Heap->Prop)(u:Value)(s2:Shared):Prop
 | mk (x:V) (H':Hp) (h0:Inv X pins σ H' s2) (h1:RelV x u) (h2:J.yld i H x H') (h3:tn (i + 1) s2.heap) (h4:∀ b∈fp,H' b=none)
inductive ForI(X:Cx)(pins:List (Addr × Obj))(fp:List Addr)(tn:Nat->Heap->Prop)(W:Nat->Nat->St->Hp->Prop)(n:Nat)(s':Shared):Prop
 | mk (i:Nat) (σ':St) (H':Hp) (h0:Inv X pins σ' H' s') (h1:tn i s'.heap) (h2:∀ b∈fp,H' b=none) (h3:W i n σ' H')
structure Turn(P:Program)(w:World)(K:PySem.W.Frag)(tg:Expr)(J:It)(fp:List Addr)(it:Addr)(tn:Nat->Heap->Prop):Prop where
 mem:it∈fp
 obj:∀ i h,tn i h->∀ b∈fp,∃ o,h.get? b=some o/\∀ v,o.data≠.cell v
 keep:∀ i h h',tn i h->(∀ b∈fp,∀ o,h.get? b=some o->h'.get? b=some o)->tn i h'
 item:∀ (X:Cx),X.prog=P->X.w=w->X.K=K->X.calm=true->∀ (i:Nat) (pins:List (Addr × Obj)) (s:Shared) (σ:St) (H:Hp) (E:Value->Shared->Prop),Inv X pins σ H s->(∀ b∈fp,FpOk X pins H b)->tn i s.heap->J.go i H ->
  wpAny (model P w) X.A (pyNext (.ref it)) (fun r s1=>∃ u,r=some u /\
   wpAny (model P w) X.A (letOwnedTupleGo tg (.ref it) u) (fun _ s2=>Yl X pins σ J i H fp tn u s2) E s1) E s
 done:∀ (X:Cx),X.prog=P->X.w=w->X.K=K->X.calm=true->∀ (i:Nat) (pins:List (Addr × Obj)) (s:Shared) (σ:St) (H:Hp) (E:Value->Shared->Prop),Inv X pins σ H s->(∀ b∈fp,FpOk X pins H b)->tn i s.heap->J.stop i H ->
  wpAny (model P w) X.A (pyNext (.ref it)) (fun r s1=>r=none/\Inv X pins σ H s1) E s
 self:∀ (A:Around) (i:Nat) (s:Shared) (Q:Value->Shared->Prop) (E:Value->Shared->Prop),tn i s.heap->Q (.ref it) s->wpAny (model P w) A (pyIter (.ref it)) Q E s
abbrev TI:=St->Hp->(It->Hp->Prop)->Prop
inductive PIE(X:Cx)(pins:List (Addr × Obj))(σ:St)(tg:Expr)(R:It->Hp->Prop)(itv:Value)(s2:Shared):Prop
 | mk (it:Addr) (fp:List Addr) (tn:Nat->Heap->Prop) (J:It) (H':Hp) (h0:itv=.ref it) (h1:Inv X pins σ H' s2) (h2:Turn X.prog X.w X.K tg J fp it tn) (h3:tn 0 s2.heap) (h4:(∀ b∈fp,FpOk X pins H' b)) (h5:R J H')
def PI(X:Cx)(tg iter:Expr)(wi:TI):Prop :=
 ∀ (pins:List (Addr × Obj)) (s:Shared) (σ:St) (H:Hp) (R:It->Hp->Prop),Inv X pins σ H s->wi σ H R ->
  wpAny (model X.prog X.w) X.A (eval iter X.env) (fun v s1=>wpAny (model X.prog X.w) X.A (pyIter v) (PIE X pins σ tg R) X.xe s1) X.xe s
theorem z8a{M:Model}{A:Around}{E:Value->Shared->Prop}{s:Shared}{tg:Expr}{it:Addr}{u:Value}{o:Obj}{n:String}{vs:Array Value}{Q:Unit->Shared->Prop}(ho:s.heap.get? it=some o)(hc:o.cls=.type n)(hd:o.data=.fields vs)
    (hn:["enumerate","zip","dict_itemiterator","dict_reverseitemiterator","odict_iterator","itertools.zip_longest","itertools.pairwise"].contains n=false) (hQ:Q () s):wpAny M A (letOwnedTupleGo tg (.ref it) u) Q E s:=by
  unfold letOwnedTupleGo
  cases tg <;> first
    | exact wpAny_pure hQ
    | (cases u <;> first
        | exact wpAny_pure hQ
        | (refine wpAny_bind (wpAny_load ho ?_)
           rw[hc,hd]
           show wpAny M A (if (["enumerate","zip","dict_itemiterator","dict_reverseitemiterator","odict_iterator","itertools.zip_longest","itertools.pairwise"].contains n && vs[0]? == some (rawInt _))=true then _ else _) Q E s
           rw[if_neg (by intro h;rw[hn,Bool.false_and]at h;cases h)]
           exact wpAny_pure hQ))
def Itl(K:PySem.W.Frag)(a:Addr):It :=
 ⟨fun i H=>∃ xs x,SqL K H a xs/\xs[i]?=some x,fun i H x H'=>H'=H/\∀ xs,SqL K H a xs->xs[i]?=some x,fun i H=>∃ xs,SqL K H a xs/\xs.length<=i⟩
def Itt(K:PySem.W.Frag)(a:Addr):It :=
 ⟨fun i H=>∃ xs x,SqT K H a xs/\xs[i]?=some x,fun i H x H'=>H'=H/\∀ xs,SqT K H a xs->xs[i]?=some x,fun i H=>∃ xs,SqT K H a xs/\xs.length<=i⟩
def Itr(lo:Int)(n:Nat):It:=⟨fun i _=>i < n,fun i H x H'=>H'=H/\x=.int (lo + i),fun i _=>n<=i⟩
theorem z8b{P:Program}{w:World}{K:PySem.W.Frag}{tg:Expr}(a it:Addr):Turn P w K tg (Itl K a) [it] it (fun i h=>h.IsListIter it a i) where
 mem:=by simp
 obj:=fun i h st b hb=>by
  have e:b=it:=by simpa using hb
  subst e
  obtain⟨o,e,c,d⟩:=st
  exact⟨o,e,fun v z=>by rw[d]at z;cases z⟩
 keep:=fun i h h' st k=>st.at fun o e=>k it (by simp) o e
 item:=by
  intro X hP hw hK hc i pins s σ H E I hf st hg
  subst hP hw hK
  obtain⟨xs,x,hq,hx⟩:=hg
  obtain⟨its,rv,p,hz⟩:=I.list hq
  obtain⟨u,hu,ru⟩:=rv.get hx
  obtain⟨f0,f1,f2,f3,f4,f5⟩:=hf it (by simp)
  refine wpAny_pyNext_list_item st p.isList (x:=u) (by simpa using hu) fun h' st' sb=>?_
  have I1:Inv X pins σ H {s with heap:=h'}:=I.turned (t':=s.toks) (fun b o hb e=>(sb.2 b hb).trans e) f0 f1 f3 f4 f5
  obtain⟨o,e,c,d⟩:=id st'
  exact⟨u,rfl,z8a (s:={s with heap:=h'}) e c d (by decide) ⟨x,H,I1,ru,⟨rfl,fun ys hy=>by rw[I.list_inj hy hq];exact hx⟩,st',fun b hb=>(hf b hb).1⟩⟩
 done:=by
  intro X hP hw hK hc i pins s σ H E I hf st hg
  subst hP hw hK
  obtain⟨xs,hq,hx⟩:=hg
  obtain⟨its,rv,p,hz⟩:=I.list hq
  obtain⟨f0,f1,f2,f3,f4,f5⟩:=hf it (by simp)
  have hl:=rv.length
  exact wpAny_pyNext_list_end (I.ok.hd hc) st p.isList (by simp;omega) fun h' eb=>⟨rfl,I.turned (t':=s.toks) (fun b o hb e=>eb b o hb e) f0 f1 f3 f4 f5⟩
 self:=fun _ _ _ _ _ st h=>wpAny_pyIter_listiter st h
theorem z7D{P:Program}{w:World}{K:PySem.W.Frag}{tg:Expr}(a it:Addr):Turn P w K tg (Itt K a) [it] it (fun i h=>h.IsTupleIter it a i) where
 mem:=by simp
 obj:=fun i h st b hb=>by
  have e:b=it:=by simpa using hb
  subst e
  obtain⟨o,e,c,d⟩:=st
  exact⟨o,e,fun v z=>by rw[d]at z;cases z⟩
 keep:=fun i h h' st k=>st.at fun o e=>k it (by simp) o e
 item:=by
  intro X hP hw hK hc i pins s σ H E I hf st hg
  subst hP hw hK
  obtain⟨xs,x,hq,hx⟩:=hg
  obtain⟨its,rv,p,hz⟩:=I.tuple hq
  obtain⟨u,hu,ru⟩:=rv.get hx
  obtain⟨f0,f1,f2,f3,f4,f5⟩:=hf it (by simp)
  refine wpAny_pyNext_tuple_item st (show s.heap.IsTuple a its.toArray from p) (x:=u) (by simpa using hu) fun h' st' sb=>?_
  have I1:Inv X pins σ H {s with heap:=h'}:=I.turned (t':=s.toks) (fun b o hb e=>(sb.2 b hb).trans e) f0 f1 f3 f4 f5
  obtain⟨o,e,c,d⟩:=id st'
  exact⟨u,rfl,z8a (s:={s with heap:=h'}) e c d (by decide) ⟨x,H,I1,ru,⟨rfl,fun ys hy=>by rw[I.tuple_inj hy hq];exact hx⟩,st',fun b hb=>(hf b hb).1⟩⟩
 done:=by
  intro X hP hw hK hc i pins s σ H E I hf st hg
  subst hP hw hK
  obtain⟨xs,hq,hx⟩:=hg
  obtain⟨its,rv,p,hz⟩:=I.tuple hq
  obtain⟨f0,f1,f2,f3,f4,f5⟩:=hf it (by simp)
  have hl:=rv.length
  exact wpAny_pyNext_tuple_end (I.ok.hd hc) st (show s.heap.IsTuple a its.toArray from p) (by simp;omega) fun h' eb=>⟨rfl,I.turned (t':=s.toks) (fun b o hb e=>eb b o hb e) f0 f1 f3 f4 f5⟩
 self:=fun _ _ _ _ _ st h=>wpAny_pyIter_tupleiter st h
theorem z7E{P:Program}{w:World}{K:PySem.W.Frag}{tg:Expr}(it:Addr)(lo:Int)(n:Nat):Turn P w K tg (Itr lo n) [it] it (fun i h=>IsRangeIter h it (lo + (i:Nat) * 1) ((n:Int) - (i:Nat)) 1) where
 mem:=by simp
 obj:=fun i h st b hb=>by
  have e:b=it:=by simpa using hb
  subst e
  exact⟨_,st,fun v z=>by
   have z':Data.fields _=Data.cell v:=z
   cases z'⟩
 keep:=fun i h h' st k=>k it (by simp) _ st
 item:=by
  intro X hP hw hK hc i pins s σ H E I hf st hg
  subst hP hw hK
  obtain⟨f0,f1,f2,f3,f4,f5⟩:=hf it (by simp)
  have W:=Walks.range (prog:=X.prog) (w:=X.w) (I.ok.hd hc) it lo 1 n
  refine W.item i s _ _ hg st fun v h' tk hv st' kk=>?_
  obtain⟨t,rfl⟩:=hv
  have I1:Inv X pins σ H {s with heap:=h',toks:=tk}:=I.turned (fun b o hb e=>kk b o (by simpa using hb) e) f0 f1 f3 f4 f5
  refine⟨_,rfl,z8a (s:={s with heap:=h',toks:=tk}) (n:="range_iterator") st' rfl rfl (by decide) ⟨.int (lo + i),H,I1,⟨t,?_⟩,⟨rfl,rfl⟩,st',fun b hb=>(hf b hb).1⟩⟩
  rw[Int.mul_one]
 done:=by
  intro X hP hw hK hc i pins s σ H E I hf st hg
  subst hP hw hK
  obtain⟨f0,f1,f2,f3,f4,f5⟩:=hf it (by simp)
  exact wpAny_pyNext_range_end (I.ok.hd hc) st (by have:n<=i:=hg;omega) fun h' eb=>⟨rfl,I.turned (t':=s.toks) (fun b o hb e=>eb b o hb e) f0 f1 f3 f4 f5⟩
 self:=fun _ _ _ _ _ st h=>wpAny_pyIter_rangeiter st h
end L2
namespace L2
open PySem PySem.Spec PyProof.Rows
section
variable {X:Cx} {tg:Expr}
theorem z9K{pins:List (Addr × Obj)}{σ:St}{H:Hp}{s:Shared}{R:It->Hp->Prop}{E:Value->Shared->Prop}{lo hi:Int}{t u v:Tok}{tk:Nat}(I:Inv X pins σ H s)(h1:-(2 ^ 62)<=lo)(h2:lo < 2 ^ 62)(h3:-(2 ^ 62)<=hi)(h4:hi < 2 ^ 62)
  (q:R (Itr lo (hi - lo).toNat) H):wpAny (model X.prog X.w) X.A (pyIter (.ref s.heap.objs.size)) (PIE X pins σ tg R) E {s with heap:=s.heap.push {cls:=.type "range",data:=.fields #[.int lo t,.int hi u,.int 1 v]},toks:=tk}:=by
 refine wpAny_pyIter_range (IsRange.new ..) (small_one h1 h2 h3 h4) ?_
 have I1:Inv X pins σ H {s with heap:=s.heap.push {cls:=.type "range",data:=.fields #[.int lo t,.int hi u,.int 1 v]},toks:=tk}:=I.kept fun b o e=>Heap.get?_push_of_some _ e
 refine⟨(s.heap.push {cls:=.type "range",data:=.fields #[.int lo t,.int hi u,.int 1 v]}).objs.size,[(s.heap.push {cls:=.type "range",data:=.fields #[.int lo t,.int hi u,.int 1 v]}).objs.size],_,_,H,rfl,
  I1.kept (t':=tk) fun b o e=>Heap.get?_push_of_some _ e,z7E _ lo (hi - lo).toNat,?_,fun b hb=>?_,q⟩
 ·have e1:lo + ((0:Nat):Int) * 1=lo:=by simp
  have e2:(((hi - lo).toNat:Nat):Int) - ((0:Nat):Int)=Builtin.Range.rangeSize lo hi 1:=by rw[rangeSize_one];split <;> omega
  show IsRangeIter _ _ (lo + ((0:Nat):Int) * 1) ((((hi - lo).toNat:Nat):Int) - ((0:Nat):Int)) 1
  rw[e1,e2]
  exact Heap.get?_push_size _ rfl
 ·have e:b=(s.heap.push {cls:=.type "range",data:=.fields #[.int lo t,.int hi u,.int 1 v]}).objs.size:=by simpa using hb
  subst e
  exact I1.fpOk (Nat.le_refl _) (I1.hok.fresh (Nat.le_refl _))
def iRng1(ta:TA):TI:=fun σ H R=>ta σ H fun vs H1=>∃ j:Int,vs=[.int j]/\-(2 ^ 62)<=j/\j < 2 ^ 62/\R (Itr 0 j.toNat) H1
theorem z8c{a:Expr}{ta:TA}{p pos:Pos}(hg:Gl X "range")(hm:X.mg "range"=none)(ha:PA X [a] ta)(hs:starEach [a] X.env=[(false,eval a X.env)]:=by rfl):PI X tg (.Call (.Name "range" p) [a] [] pos) (iRng1 ta):=by
 intro pins s σ H R I h
 refine Call_ (z2e I hg hm boot_range (PyProof.Rows.callWith_type1 (thn (ha pos pins s σ H _ I h) fun us s1 zfc=>?_) hs rfl))
 obtain⟨vs,H1,I1,r1,q1⟩:=zfc
 obtain⟨j,e,q1,q2,q⟩:=q1
 subst e
 cases r1 with
 | cons r rr =>
  cases rr
  obtain⟨t,rfl⟩:=r
  exact call_range_1 (z9K I1 (by omega) (by omega) q1 q2 (by simpa using q))
def tFor(wi:TI)(g:TG)(tb:TS):TS:=fun D σ H=>wi σ H fun J H1=>∃ W:Nat->Nat->St->Hp->Prop,(∃ m,W 0 m σ H1)/\∀ i m σ H,W i m σ H ->
 (J.stop i H/\D.nx σ H)\/(J.go i H/\∃ N:St->Hp->Prop,(∀ σ' H',N σ' H'->∃ m',m' < m/\W (i + 1) m' σ' H')/\∀ x H',J.yld i H x H'->g x σ H' fun σ2 H2=>tb {D with nx:=N,ct:=N,bk:=D.nx} σ2 H2)
def pinsAt(fp:List Addr)(h:Heap):List (Addr × Obj):=fp.filterMap fun b=>(h.get? b).map fun o=>(b,o)
theorem z26{fp:List Addr}{h:Heap}{b:Addr}{o:Obj}(hb:b∈fp)(e:h.get? b=some o):(b,o)∈pinsAt fp h:=List.mem_filterMap.mpr ⟨b,hb,by rw[e];rfl⟩
theorem z8d{fp:List Addr}{h:Heap}{p:Addr × Obj}(hp:p∈pinsAt fp h):p.1∈fp/\h.get? p.1=some p.2:=by
 obtain⟨b,hb,e⟩:=List.mem_filterMap.mp hp
 cases q:h.get? b with
 | none=>rw[q]at e;cases e
 | some o =>
  rw[q]at e
  have e':(b,o)=p:=Option.some.inj e
  subst e'
  exact⟨hb,q⟩
theorem Inv.pinned{pins:List (Addr × Obj)}{σ:St}{H:Hp}{s:Shared}{fp:List Addr}(I:Inv X pins σ H s)(hf:∀ b∈fp,FpOk X pins H b)(ho:∀ b∈fp,∃ o,s.heap.get? b=some o/\∀ v,o.data≠.cell v):Inv X (pins++pinsAt fp s.heap) σ H s :=
 I.pins_of fun p hp=>(List.mem_append.mp hp).elim (fun z=>I.pin p (List.mem_append_right _ z)) fun z=>by
  obtain⟨hb,e⟩:=z8d z
  obtain⟨f0,f1,f2,_⟩:=hf p.1 hb
  obtain⟨o,e',d⟩:=ho p.1 hb
  rw[e]at e';cases e'
  exact⟨e,f0,f1,f2,d⟩
theorem Inv.unpinned{pins pl:List (Addr × Obj)}{σ:St}{H:Hp}{s:Shared}(I:Inv X (pins++pl) σ H s):Inv X pins σ H s:=I.pins_of fun p hp=>I.pin p (List.mem_append_right _ (List.mem_append_left _ hp))
theorem zax{iter:Expr}{body:List Stmt}{wi:TI}{g:TG}{tb:TS}{pos:Pos}(hp:PassesOwn (model X.prog X.w) X.A X.env X.xe)(hc:X.calm=true)(hi:PI X tg iter wi)(hg:PG X tg g)(hb:PSs X body tb)
  (hs:∀ x,foldedSetIterable iter X.env x=pure x:=by intro _;rfl):PS X (.For tg iter body [] pos) (tFor wi g tb):=by
 intro pins s σ H D I h
 refine wpAny_For (thn (hi pins s σ H _ I h) fun v s1 h1=>thn h1 fun itv s2 h2=>?_) hs
 obtain⟨it,fp,tn,J,H2,e,I2,T,st2,f2,W,⟨m0,w0⟩,turn⟩:=h2
 subst e
 have stat:∀ {H':Hp},(∀ b∈fp,H' b=none)->∀ b∈fp,FpOk X pins H' b:=fun hn b hb=>⟨hn b hb,(f2 b hb).2⟩
 refine codeAny_forLoop_any (ForI X pins fp tn W) ?_ m0 ⟨0,σ,H2,I2,st2,fun b hb=>(f2 b hb).1,w0⟩
 rintro n s3 ⟨i,σ3,H3,I3,st3,fr3,w3⟩
 rcases turn i n σ3 H3 w3 with ⟨stop,qn⟩ | ⟨go,N,hN,step⟩
 ·refine wpAny_passesOwn hp (thn (T.done X rfl rfl rfl hc i pins s3 σ3 H3 X.xe I3 (stat fr3) st3 stop) fun r s4 ⟨hr,I4⟩=>?_)
  subst hr
  exact wpAny_execs_nil ⟨σ3,H3,I4,qn⟩
 ·refine wpAny_passesOwn hp (thn (T.item X rfl rfl rfl hc i pins s3 σ3 H3 X.xe I3 (stat fr3) st3 go) fun r s4 ⟨u,hr,h4⟩=>?_)
  subst hr
  refine wpAny_passesOwn hp (thn h4 fun _ s5 zfd=>?_)
  obtain⟨x,H5,I5,r5,y5,st5,fr5⟩:=zfd
  have I5':=I5.pinned (stat fr5) (T.obj _ _ st5)
  refine wpAny_passesOwn hp (thn (hg _ s5 σ3 H5 x u _ I5' r5 (step x H5 y5)) fun _ s6 zfe=>?_)
  obtain⟨σ6,H6,I6,q6⟩:=zfe
  refine wpAny_passesOwn hp (thn (hb _ s6 σ6 H6 _ I6 q6) fun f s7 q7=>?_)
  have again:∀ {σ7:St} {H7:Hp},Inv X (pins++pinsAt fp s5.heap) σ7 H7 s7->N σ7 H7->∃ m,m < n/\ForI X pins fp tn W m s7:=fun{σ7 H7} I7 n7=>by
   obtain⟨m',hm,w7⟩:=hN σ7 H7 n7
   refine⟨m',hm,i + 1,σ7,H7,I7.unpinned,T.keep _ _ _ st5 fun b hb o e=>(I7.pin (b,o) (List.mem_append_right _ (List.mem_append_right _ (z26 hb e)))).1,fun b hb=>?_,w7⟩
   obtain⟨o,e,d⟩:=T.obj _ _ st5 b hb
   exact(I7.pin (b,o) (List.mem_append_right _ (List.mem_append_right _ (z26 hb e)))).2.1
  cases f with
  | next=>obtain⟨σ7,H7,I7,n7⟩:=q7;exact again I7 n7
  | cont=>obtain⟨σ7,H7,I7,n7⟩:=q7;exact again I7 n7
  | brk=>obtain⟨σ7,H7,I7,q7⟩:=q7;exact⟨σ7,H7,I7.unpinned,q7⟩
  | ret v=>obtain⟨x7,σ7,H7,I7,r7,q7⟩:=q7;exact⟨x7,σ7,H7,I7.unpinned,r7,q7⟩
end
end L2
namespace L2
open PySem PySem.Spec PyProof.Rows
abbrev R2:=V->V->Hp->VK->Prop
def OpR(X:Cx)(f:Value->Value->Sem Value)(r:R2):Prop :=
 ∀ (pins:List (Addr × Obj)) (s:Shared) (σ:St) (H:Hp) (x y:V) (v u:Value) (Q:VK),Inv X pins σ H s->RelV x v->RelV y u->r x y H Q ->
  wpAny (model X.prog X.w) X.A (f v u) (EP X pins σ Q) X.xe s
def UnR(X:Cx)(f:Value->Sem Value)(r:V->Hp->VK->Prop):Prop :=
 ∀ (pins:List (Addr × Obj)) (s:Shared) (σ:St) (H:Hp) (x:V) (v:Value) (Q:VK),Inv X pins σ H s->RelV x v->r x H Q ->
  wpAny (model X.prog X.w) X.A (f v) (EP X pins σ Q) X.xe s
def CallR(X:Cx)(f:Value)(r:List V->Hp->VK->Prop):Prop :=
 ∀ (pins:List (Addr × Obj)) (s:Shared) (σ:St) (H:Hp) (xs:List V) (us:List Value) (Q:VK),Inv X pins σ H s->Vals xs us->r xs H Q ->
  wpAny (model X.prog X.w) X.A (call f us) (EP X pins σ Q) X.xe s
def TruR(X:Cx)(r:V->Hp->(Bool->Hp->Prop)->Prop):Prop :=
 ∀ (pins:List (Addr × Obj)) (s:Shared) (σ:St) (H:Hp) (x:V) (v:Value) (Q:Bool->Hp->Prop),Inv X pins σ H s->RelV x v->r x H Q ->
  wpAny (model X.prog X.w) X.A (truthy v) (TP X pins σ Q) X.xe s
def tOp(r:R2)(ta tb:TE):TE:=fun σ H Q=>ta σ H fun x H1=>tb σ H1 fun y H2=>r x y H2 Q
def tUn(r:V->Hp->VK->Prop)(ta:TE):TE:=fun σ H Q=>ta σ H fun x H1=>r x H1 Q
def rI(C:Int->Int->Prop)(g:Int->Int->V):R2:=fun x y H Q=>∃ i j,x=.int i/\y=.int j/\C i j/\Q (g i j) H
def rI0(g:Int->Int->V):R2:=fun x y H Q=>∃ i j,x=.int i/\y=.int j/\Q (g i j) H
def rU(g:Int->V):V->Hp->VK->Prop:=fun x H Q=>∃ i,x=.int i/\Q (g i) H
section
variable {X:Cx} {a b c:Expr} {ta tb tc:TE} {pos:Pos}
theorem binT(ha:PE X a ta)(hb:PE X b tb){pins:List (Addr × Obj)}{s:Shared}{σ:St}{H:Hp}{R:V->V->Hp->Prop}(I:Inv X pins σ H s)
  (h:ta σ H fun x H1=>tb σ H1 fun y H2=>R x y H2) {Q:Value->Shared->Prop} {f:Value->Value->Sem Value}
  (hf:∀ v u s2 x y H2,Inv X pins σ H2 s2->RelV x v->RelV y u->R x y H2->wpAny (model X.prog X.w) X.A (f v u) Q X.xe s2) :
  wpAny (model X.prog X.w) X.A (eval a X.env) (fun v s₁=>wpAny (model X.prog X.w) X.A (eval b X.env) (fun u s₂=>wpAny (model X.prog X.w) X.A (f v u) Q X.xe s₂) X.xe s₁) X.xe s:=by
 refine thn (ha pins s σ H _ I h) fun v s1 zff=>?_
 obtain⟨x,H1,I1,r1,q1⟩:=zff
 refine thn (hb pins s1 σ H1 _ I1 q1) fun u s2 zfg=>?_
 obtain⟨y,H2,I2,r2,q2⟩:=zfg
 exact hf v u s2 x y H2 I2 r1 r2 q2
theorem z9L{op:Operator}{r:R2}(ho:OpR X (binaryOp op) r)(ha:PE X a ta)(hb:PE X b tb):PE X (.BinOp a op b pos) (tOp r ta tb):=by
 intro pins s σ H Q I h
 exact wpAny_BinOp (binT ha hb I h fun v u s2 x y H2 I2 rx ry q=>ho pins s2 σ H2 x y v u Q I2 rx ry q)
theorem zeD{op:UnaryOp}{r:V->Hp->VK->Prop}(ho:UnR X (unaryOp op) r)(ha:PE X a ta):PE X (.UnaryOp op a pos) (tUn r ta):=by
 intro pins s σ H Q I h
 exact UnaryOp_ (thn (ha pins s σ H _ I h) fun v s1 zfh=>(by obtain⟨x,H1,I1,r1,q1⟩:=zfh;exact ho pins s1 σ H1 x v Q I1 r1 q1))
theorem opI{f:Value->Value->Sem Value}{C:Int->Int->Prop}{g:Int->Int->Int}
  (rule:∀ (i j:Int) (t u:Tok) (s:Shared) (Q:Value->Shared->Prop) (E:Value->Shared->Prop),C i j->Q (.int (g i j) s.toks) {s with toks:=s.toks + 1}->wpAny (model X.prog X.w) X.A (f (.int i t) (.int j u)) Q E s) :
  OpR X f (rI C fun i j=>.int (g i j)):=by
 intro pins s σ H x y v u Q I rx ry h
 obtain⟨i,j,rfl,rfl,hc,q⟩:=h
 obtain⟨t,rfl⟩:=rx
 obtain⟨t',rfl⟩:=ry
 exact rule i j t t' s _ _ hc ⟨.int (g i j),H,I.tok _,⟨_,rfl⟩,q⟩
theorem opI0{f:Value->Value->Sem Value}{g:Int->Int->Int}
  (rule:∀ (i j:Int) (t u:Tok) (s:Shared) (Q:Value->Shared->Prop) (E:Value->Shared->Prop),Q (.int (g i j) s.toks) {s with toks:=s.toks + 1}->wpAny (model X.prog X.w) X.A (f (.int i t) (.int j u)) Q E s) :
  OpR X f (rI0 fun i j=>.int (g i j)):=by
 intro pins s σ H x y v u Q I rx ry h
 obtain⟨i,j,rfl,rfl,q⟩:=h
 obtain⟨t,rfl⟩:=rx
 obtain⟨t',rfl⟩:=ry
 exact rule i j t t' s _ _ ⟨.int (g i j),H,I.tok _,⟨_,rfl⟩,q⟩
theorem opB0{f:Value->Value->Sem Value}{g:Int->Int->Bool}
  (rule:∀ (i j:Int) (t u:Tok) (s:Shared) (Q:Value->Shared->Prop) (E:Value->Shared->Prop),Q (.bool (g i j)) s->wpAny (model X.prog X.w) X.A (f (.int i t) (.int j u)) Q E s) :
  OpR X f (rI0 fun i j=>.bl (g i j)):=by
 intro pins s σ H x y v u Q I rx ry h
 obtain⟨i,j,rfl,rfl,q⟩:=h
 obtain⟨t,rfl⟩:=rx
 obtain⟨t',rfl⟩:=ry
 exact rule i j t t' s _ _ ⟨.bl (g i j),H,I,rfl,q⟩
def CPow(i j:Int):Prop:=0<=j/\j<=1000000/\i.natAbs < 2 ^ 64
theorem zay:OpR X (binaryOp .Add) (rI0 fun i j=>.int (i + j)):=opI0 fun _ _ _ _ _ _ _ q=>add_int q
theorem zcw:OpR X (binaryOp .Sub) (rI0 fun i j=>.int (i - j)):=opI0 fun _ _ _ _ _ _ _ q=>sub_int q
theorem z8e:OpR X (binaryOp .Mod) (rI (fun _ j=>j≠0) fun i j=>.int (i.fmod j)):=opI fun _ _ _ _ _ _ _ hc q=>mod_int' hc q
theorem zcx:OpR X (binaryOp .Pow) (rI CPow fun i j=>.int (i ^ j.toNat)):=opI fun _ _ _ _ _ _ _ hc q=>pow_int_small hc.1 hc.2.1 hc.2.2 q
theorem zb4:OpR X (inplaceOp .Sub) (rI0 fun i j=>.int (i - j)):=opI0 fun _ _ _ _ _ _ _ q=>isub_int q
theorem unI{f:Value->Sem Value}{g:Int->Int}
  (rule:∀ (i:Int) (t:Tok) (s:Shared) (Q:Value->Shared->Prop) (E:Value->Shared->Prop),Q (.int (g i) s.toks) {s with toks:=s.toks + 1}->wpAny (model X.prog X.w) X.A (f (.int i t)) Q E s) :
  UnR X f (rU fun i=>.int (g i)):=by
 intro pins s σ H x v Q I rx h
 obtain⟨i,rfl,q⟩:=h
 obtain⟨t,rfl⟩:=rx
 exact rule i t s _ _ ⟨.int (g i),H,I.tok _,⟨_,rfl⟩,q⟩
theorem zcy:UnR X (unaryOp .USub) (rU fun i=>.int (-i)):=unI fun _ _ _ _ _ q=>neg_int q
end
section
variable {X:Cx} {a b c:Expr} {ta tb tc:TE} {pos:Pos}
theorem zcz{pins:List (Addr × Obj)}{σ:St}{H:Hp}{s:Shared}{Q:VK}{k k':Bool}(I:Inv X pins σ H s)(q:Q (.bl k) H)(e:k=k'):EP X pins σ Q (.bool k') s:=by
 subst e
 exact⟨.bl k,H,I,rfl,q⟩
theorem zeE:OpR X (compareOp .Lt) (rI0 fun i j=>.bl (decide (i < j))):=opB0 fun _ _ _ _ _ _ _ q=>lt_int q
theorem zeF:OpR X (compareOp .Gt) (rI0 fun i j=>.bl (decide (j < i))):=opB0 fun _ _ _ _ _ _ _ q=>gt_int q
theorem zeG:OpR X (compareOp .GtE) (rI0 fun i j=>.bl (decide (j<=i))):=opB0 fun _ _ _ _ _ _ _ q=>ge_int q
theorem zcA:OpR X (compareOp .Is) (fun x y H Q=>y=.non/\Q (.bl (decide (x=.non))) H):=by
 intro pins s σ H x y v u Q I rx ry h
 obtain⟨rfl,q⟩:=h
 cases ry
 refine is_none_gen (zcz I q ?_)
 cases x <;> first
  | (cases rx;rfl)
  | (obtain⟨t,rfl⟩:=rx;rfl)
theorem OpR.or{f:Value->Value->Sem Value}{r r':R2}(h:OpR X f r)(h':OpR X f r'):OpR X f (fun x y H Q=>r x y H Q\/r' x y H Q):=by
 intro pins s σ H x y v u Q I rx ry q
 rcases q with q | q
 ·exact h pins s σ H x y v u Q I rx ry q
 ·exact h' pins s σ H x y v u Q I rx ry q
theorem nomark(b:Expr){op:CmpOp}(h:op≠.In:=by decide)(h2:op≠.NotIn:=by decide):behindInMarks op b=false:=by
 have e1:(op == CmpOp.In)=false:=by cases op <;> first | rfl | exact absurd rfl h
 have e2:(op == CmpOp.NotIn)=false:=by cases op <;> first | rfl | exact absurd rfl h2
 cases b <;> simp[behindInMarks,e1,e2]
def tTest(t:TE):TT:=fun σ H Q=>t σ H fun x H'=>∃ k,x=.bl k/\Q k H'
theorem zb5{op:CmpOp}{r:R2}(ho:OpR X (compareOp op) r)(ha:PE X a ta)(hb:PE X b tb)(hm:behindInMarks op b=false):PT X (.Compare a [op] [b] pos) (tTest (tOp r ta tb)):=by
 intro pins s σ H Q I h
 refine wpAny_isTrue_Compare1 (thn (ha pins s σ H _ I h) fun v s1 ⟨x,H1,I1,r1,q1⟩=>thn (hb pins s1 σ H1 _ I1 q1) fun u s2 ⟨y,H2,I2,r2,q2⟩ =>
  thn (ho pins s2 σ H2 x y v u _ I2 r1 r2 q2) fun c s3 ⟨z,H3,I3,r3,k,e,q3⟩=>?_) hm
 subst e
 cases r3
 exact wpAny_truthy_bool ⟨H3,I3,q3⟩
def TruV(K:PySem.W.Frag)(x:V)(H:Hp)(k:Bool):Prop :=
 match x with
 | .non=>k=false
 | .bl b=>k=b
 | .int i=>k=(i != 0)
 | .str y=>y.length<=sizeLine/\k=((y.length:Int) != 0)
 | .byt y=>y.size<=sizeLine/\k=((y.size:Int) != 0)
 | .ref p=>(∃ xs,SqL K H p xs/\k=!xs.isEmpty)\/(∃ xs,SqT K H p xs/\k=!xs.isEmpty)\/∃ kvs,H p=some (.dK kvs)/\k=!kvs.isEmpty
 | _=>False
theorem z7F{κ:Type}{kvs:List (κ × V)}{vs:List (κ × Value)}(r:KV kvs vs):(!vs.isEmpty)=!kvs.isEmpty:=by
 cases r <;> rfl
theorem z44{xs:List V}{its:List Value}(r:Vals xs its):(!its.toArray.isEmpty)=!xs.isEmpty:=by
 cases r <;> simp
theorem line63:(sizeLine:Nat) < 2 ^ 63:=by rw[sizeLine_eq];decide
theorem zcB:TruR X (fun x H Q=>∃ k,TruV X.K x H k/\Q k H):=by
 intro pins s σ H x v Q I rx h
 obtain⟨k,e,q⟩:=h
 have hl:=line63
 have hs:sizeLine=16777216:=sizeLine_eq
 cases x with
 | non =>
  cases rx
  have e':k=false:=e
  subst e'
  exact truthy_none ⟨H,I,q⟩
 | bl b =>
  cases rx
  have e':k=b:=e
  subst e'
  exact wpAny_truthy_bool ⟨H,I,q⟩
 | int i =>
  obtain⟨t,rfl⟩:=rx
  have e':k=(i != 0):=e
  subst e'
  exact PySem.P.truthy_int ⟨H,I,q⟩
 | str y =>
  obtain⟨t,rfl⟩:=rx
  obtain⟨hy,e'⟩:y.length<=sizeLine/\k=((y.length:Int) != 0):=e
  subst e'
  exact PySem.P.truthy_str (by omega) ⟨H,I.tok _,q⟩
 | byt y =>
  obtain⟨t,rfl⟩:=rx
  obtain⟨hy,e'⟩:y.size<=sizeLine/\k=((y.size:Int) != 0):=e
  subst e'
  exact PySem.W.truthy_bytes (by omega) ⟨H,I.tok _,q⟩
 | ref p =>
  cases rx
  have e':(∃ xs,SqL X.K H p xs/\k=!xs.isEmpty)\/(∃ xs,SqT X.K H p xs/\k=!xs.isEmpty)\/∃ kvs,H p=some (.dK kvs)/\k=!kvs.isEmpty:=e
  rcases e' with ⟨xs,hx,e'⟩ | ⟨xs,hx,e'⟩ | ⟨kvs,hx,e'⟩
  ·subst e'
   obtain⟨its,r,pl,hz⟩:=I.list hx
   have hlen:=r.length
   exact wpAny_truthy_list pl.isList (by simp only[List.size_toArray];omega) ⟨H,I.tok _,by rw[z44 r];exact q⟩
  ·subst e'
   obtain⟨its,r,pl,hz⟩:=I.tuple hx
   have hlen:=r.length
   exact truthy_tuple pl (by simp only[List.size_toArray];omega) ⟨H,I.tok _,by rw[z44 r];exact q⟩
  ·subst e'
   obtain⟨hz,hS,vs,r,m⟩:kvs.length<=sizeLine/\(p == sysModules)=false/\∃ vs,KV kvs vs/\s.heap.DictOf (mixKind X.prog X.w) p vs:=I.hok p _ hx
   have hlen:kvs.length=vs.length:=Paired.length r
   exact wpAny_truthy_dict hS m (by omega) ⟨H,I.tok _,by rw[z7F r];exact q⟩
 | _=>exact(show False from e).elim
theorem z9M(ha:PE X a ta)(he:∀ whole,isTrue a X.env whole=(do let v <- whole;standAt a.pos;holding [v] (truthy v))) :
  PT X a (fun σ H Q=>ta σ H fun x H'=>∃ k,TruV X.K x H' k/\Q k H'):=by
 intro pins s σ H Q I h
 exact isTrue_plain (thn (ha pins s σ H _ I h) fun v s1 zfi=>(by obtain⟨x,H1,I1,r1,q1⟩:=zfi;exact zcB pins s1 σ H1 x v Q I1 r1 q1)) (he _)
theorem vals1{x:V}{us:List Value}(r:Vals [x] us):∃ u,us=[u]/\RelV x u:=by
 cases r with
 | cons r1 r2=>cases r2;exact⟨_,rfl,r1⟩
theorem vals2{x y:V}{us:List Value}(r:Vals [x,y] us):∃ u w',us=[u,w']/\RelV x u/\RelV y w':=by
 cases r with
 | cons r1 r2 =>
  cases r2 with
  | cons r3 r4=>cases r4;exact⟨_,_,rfl,r1,r3⟩
theorem z9N:CallR X (.builtin "abs") (fun xs H Q=>∃ i,xs=[.int i]/\Q (.int (if i < 0 then -i else i)) H):=by
 intro pins s σ H xs us Q I r h
 obtain⟨i,rfl,q⟩:=h
 obtain⟨u,rfl,t,rfl⟩:=vals1 r
 exact call_abs_int fun u tk=>⟨.int (if i < 0 then -i else i),H,I.tok _,⟨_,rfl⟩,q⟩
theorem z8f(hc:X.calm=true):CallR X (.builtin "max") (fun xs H Q=>∃ i j,xs=[.int i,.int j]/\Q (.int (if j > i then j else i)) H):=by
 intro pins s σ H xs us Q I r h
 obtain⟨i,j,rfl,q⟩:=h
 obtain⟨u,w',rfl,⟨t,rfl⟩,⟨t',rfl⟩⟩:=vals2 r
 refine max_two_ints (I.ok.hd hc) fun h' tk k=>⟨_,H,I.kept k,?_,q⟩
 by_cases hj:j > i
 ·rw[if_pos hj,if_pos hj];exact⟨_,rfl⟩
 ·rw[if_neg hj,if_neg hj];exact⟨_,rfl⟩
theorem z8g:CallR X (.type "int") (fun xs H Q=>(∃ i,xs=[.int i]/\Q (.int i) H)\/∃ k,xs=[.bl k]/\Q (.int (if k then 1 else 0)) H):=by
 intro pins s σ H xs us Q I r h
 rcases h with ⟨i,rfl,q⟩ | ⟨k,rfl,q⟩
 ·obtain⟨u,rfl,t,rfl⟩:=vals1 r
  exact call_int_int ⟨.int i,H,I,⟨_,rfl⟩,q⟩
 ·obtain⟨u,rfl,r1⟩:=vals1 r
  cases r1
  exact call_int_bool ⟨.int (if k then 1 else 0),H,I.tok _,⟨_,rfl⟩,q⟩
end
end L2
namespace L2
open PySem PySem.Spec PyProof.Rows
structure ObjM(h:Heap)(x dx C:Addr)(mA:Str->Option Value):Prop where
 obj:h.get? x=some (PySem.W.instObj C dx)
 ns:h.Ns1 dx mA
 ne:dx≠x
section
variable {prog:Program} {w:World} {A:Around} {E:Value->Shared->Prop} {s:Shared} {K:PySem.W.Frag} {x dx C f:Addr} {mA:Str->Option Value} {name:Str} {v:Value}
end
theorem RelO.some_of{v:V}{o:Option Value}(r:RelO (some v) o):∃ u,o=some u/\RelV v u:=by
 cases o with
 | none=>exact(show False from r).elim
 | some u=>exact⟨u,rfl,r⟩
section
variable {P:Program} {w:World} {H H':Hp} {h h':Heap} {a C dx:Addr} {fs fs':List (Str × V)}
end
structure Cls(K:PySem.W.Frag)(C:Addr):Prop where
 pg:PySem.W.plainGet K C Str.empty=true
 hd:PySem.W.hasDictIn K C=true
 po:PySem.W.plainOver K C=true
 sa:PySem.W.findIn K (.ref C) "__setattr__"=some (some (.builtin "object.__setattr__"))
def NoAttr(K:PySem.W.Frag)(C:Addr)(f:Str):Prop:=PySem.W.findIn K (.ref C) f=some none
structure Con(K:PySem.W.Frag)(C:Addr)(f:Str)(v:V)(u:Value):Prop where
 at_:PySem.W.findIn K (.ref C) f=some (some u)
 rel:RelV v u
 get:PySem.W.specialIn K u "__get__"=some none
 cp:PySem.W.copiedNames.contains f=false
structure Meth(K:PySem.W.Frag)(C:Addr)(m:Str)(f:Addr):Prop where
 at_:PySem.W.findIn K (.ref C) m=some (some (.ref f))
 fn:PySem.W.isFn K (.ref f)=true
 kp:PySem.W.keepIn K (.ref f)=true
section
variable {X:Cx} {pins:List (Addr × Obj)} {σ:St} {H:Hp} {s:Shared} {a C dx:Addr} {fs:List (Str × V)} {f:Str} {v:V} {A:Around} {E:Value->Shared->Prop}
end
section
variable {X:Cx} {o e value:Expr} {f:Str} {pos pos' tpos:Pos} {ta tv:TE}
end
section
variable {X:Cx} {pins:List (Addr × Obj)} {σ:St} {H:Hp} {s:Shared} {A:Around} {E:Value->Shared->Prop} {Q:Value->Shared->Prop} {c:Value} {b:Bool}
inductive TyOf(K:PySem.W.Frag)(H:Hp):V->Value->Prop where
 | non:TyOf K H .non (.type "NoneType")
 | bl (x:Bool):TyOf K H (.bl x) (.type "bool")
 | int (i:Int):TyOf K H (.int i) (.type "int")
 | str (x:Str):TyOf K H (.str x) (.type "str")
 | flt (x:UInt64):TyOf K H (.flt x) (.type "float")
 | lst {a:Addr} {xs:List V} (e:H a=some (.lst xs)):TyOf K H (.ref a) (.type "list")
 | frz {a:Addr} {o:Obj} {xs:List V} (e:H a=some (.frz o (.lst xs))):TyOf K H (.ref a) (.type "list")
 | tup {a:Addr} {xs:List V} (e:H a=some (.tup xs)):TyOf K H (.ref a) (.type "tuple")
 | dK {a:Addr} {kvs:List (Key × V)} (e:H a=some (.dK kvs)):TyOf K H (.ref a) (.type "dict")
 | dT {a:Addr} {kvs:List (List Key × V)} (e:H a=some (.dT kvs)):TyOf K H (.ref a) (.type "dict")
 | ins {a C dx:Addr} {fs:List (Str × V)} (e:H a=some (.ins C dx fs)) (cl:Cls K C) (ha:PySem.W.findIn K (.ref C) "__class__"=some (some (.builtin "object.__class__")))
   (hn:PySem.W.specialIn K (.builtin "object.__class__") "__get__"=some (some (.builtin "getset_descriptor.__get__"))) (htk:PySem.W.takesIn K (.builtin "object.__class__")=some true)
   (hm:PySem.W.mroIn K C (.type "object")=some true):TyOf K H (.ref a) (.ref C)
end
end L2
namespace L2
open PySem PySem.Spec PyProof.Rows
structure Room(k:Nat)(A:Around):Prop where
 hd:A.handled=none
 dp:A.depth + 3 * k + 5 < recursionLimit
 un:A.units + 16 * k + 200 < cLine
theorem Room.mono{j k:Nat}{A:Around}(r:Room k A)(h:j<=k):Room j A:=⟨r.hd,by have:=r.dp;omega,by have:=r.un;omega⟩
theorem Room.deeper{k:Nat}{A:Around}(r:Room (k + 1) A)(env:Env):Room k (A.deeper env) :=
 ⟨r.hd,by have:=r.dp;show A.depth + 1 + 3 * k + 5 < _;omega,by have:=r.un;show A.units + 3 + 16 * k + 200 < _;omega⟩
theorem Room.depth{k:Nat}{A:Around}(r:Room k A):A.depth < recursionLimit:=by have:=r.dp;omega
theorem Room.units{k:Nat}{A:Around}(r:Room k A):A.units + 64 < cLine:=by have:=r.un;omega
def tNil:TA:=fun _ H Q=>Q [] H
def tCons(ta:TE)(tr:TA):TA:=fun σ H Q=>ta σ H fun x H1=>tr σ H1 fun xs H2=>Q (x::xs) H2
section
variable {X:Cx} {e:Expr} {es:List Expr} {te:TE} {t:TA} {pos:Pos}
theorem z0o:PA X [] tNil:=fun _ _ _ _ H Q I h=>Calls.spliced_nil ⟨[],H,I,.nil,h⟩
theorem zK(ha:PE X e te)(hr:PA X es t)(hs:starEach (e::es) X.env=(false,eval e X.env)::starEach es X.env:=by rfl):PA X (e::es) (tCons te t):=by
 intro pos pins s σ H Q I h
 rw[hs]
 show wpAny _ _ (spliced ((false,eval e X.env)::backTo pos (starEach es X.env))) _ _ s
 refine Calls.spliced_cons (thn (ha pins s σ H _ I h) fun u s1 zfj=>?_)
 obtain⟨x,H1,I1,r1,q1⟩:=zfj
 exact thn (hr pos pins s1 σ H1 _ I1 q1) fun us s2 zfk=>(by obtain⟨xs,H2,I2,r2,q2⟩:=zfk;exact⟨x::xs,H2,I2,.cons r1 r2,q2⟩)
def tTup(t:TA):TE:=fun σ H Q=>t σ H fun xs H1=>xs.length<=sizeLine/\∀ p,H1 p=none->Q (.ref p) (upd H1 p (.tup xs))
def tLst(t:TA):TE:=fun σ H Q=>t σ H fun xs H1=>xs.length<=sizeLine/\∀ p,H1 p=none->Q (.ref p) (upd H1 p (.lst xs))
theorem zcC{x1}(h:PA X es t):PE X (.Tuple es x1 pos) (tTup t):=by
 intro pins s σ H Q I hq
 refine wpAny_Tuple_spliced (thn (h pos pins s σ H _ I hq) fun us s1 ⟨xs,H1,I1,r,z,q⟩=>⟨by rw[<- r.length];exact z,?_⟩)
 have hf:H1 s1.heap.objs.size=none:=I1.hok.fresh (Nat.le_refl _)
 refine⟨.ref s1.heap.objs.size,upd H1 s1.heap.objs.size (.tup xs),I1.laid (t':=s1.toks) (fun b u e=>Heap.get?_push_of_some _ e) (Nat.le_refl _) ?_,rfl,q _ hf⟩
 exact⟨z,us,r,⟨_,Heap.get?_push_size _ rfl,rfl,_,rfl⟩⟩
theorem zaz(h:PA X es t):PE X (.List es pos) (tLst t):=by
 intro pins s σ H Q I hq
 refine wpAny_List_spliced (thn (h pos pins s σ H _ I hq) fun us s1 ⟨xs,H1,I1,r,z,q⟩=>⟨by rw[<- r.length];exact z,?_⟩)
 have hf:H1 s1.heap.objs.size=none:=I1.hok.fresh (Nat.le_refl _)
 refine⟨.ref s1.heap.objs.size,upd H1 s1.heap.objs.size (.lst xs),I1.laid (t':=s1.toks) (fun b u e=>Heap.get?_push_of_some _ e) (Nat.le_refl _) ?_,rfl,q _ hf⟩
 exact⟨z,us,0,r,Heap.get?_push_size _ rfl⟩
end
abbrev Sp:=List V->Hp->VK->XK->Prop
abbrev CXT:=List Env->Hp->Shared->XK->Value->Shared->Prop
structure Env0(P:Program)(w:World)(K:PySem.W.Frag)(mg:Str->Option Value)(base:Heap)(A:Around)(outer:List Env)(s:Shared)(H:Hp):Prop where
 frames:A.frames=some outer
 mod:Mod K mg base
 bs:∀ b o,base.get? b=some o->s.heap.get? b=some o/\H b=none
 bsz:base.objs.size<=s.heap.objs.size
 funs:s.heap.FunFrames base outer
 frf:∀ b∈frs outer,H b=none
 hok:HOk P w H s.heap
 bare:AllBare s.gens
def CE(outer:List Env)(P:Program)(w:World)(H:Hp)(s:Shared)(Q:VK)(u:Value)(s':Shared):Prop :=
 ∃ v H',s'.os=s.os/\AllBare s'.gens/\Un (frs outer) [] H H' s.heap s'.heap/\HOk P w H' s'.heap/\RelV v u/\Q v H'
def CR(CX:CXT)(outer:List Env)(P:Program)(w:World)(H:Hp)(s:Shared)(Q:VK)(E:XK)(r:Result)(s':Shared):Prop :=
 match r with
 | .ok (.ret u)=>CE outer P w H s Q u s'
 | .ok _=>False
 | .error e=>CX outer H s E e s'
structure FnOk(P:Program)(w:World)(K:PySem.W.Frag)(mg:Str->Option Value)(base:Heap)(CX:CXT)(k:Nat)(f:Addr)(fd:FuncData)(ps:List Str)(sp:Sp):Prop where
 len:∀ vs H Q E,sp vs H Q E->vs.length=ps.length
 run:∀ (A:Around) (outer:List Env) (s:Shared) (H:Hp) (args:Args) (us:List Value) (vs:List V) (Q:VK) (E:XK),Room k A->Env0 P w K mg base A outer s H->BindsTo s fd args (ps.zip us)->Vals vs us->sp vs H Q E ->
  codeAny (model P w) A (.call (.ref f) args) (CR CX outer P w H s Q E) s
theorem FnOk.imp{P:Program}{w:World}{K:PySem.W.Frag}{mg:Str->Option Value}{base:Heap}{CX:CXT}{k:Nat}{f:Addr}{fd:FuncData}{ps:List Str}{sp sp':Sp}(F:FnOk P w K mg base CX k f fd ps sp)
  (h:∀ vs H Q E,sp' vs H Q E->sp vs H Q E):FnOk P w K mg base CX k f fd ps sp' :=
 ⟨fun vs H Q E q=>F.len vs H Q E (h _ _ _ _ q),fun A outer s H args us vs Q E hr he hb hv hs=>F.run A outer s H args us vs Q E hr he hb hv (h _ _ _ _ hs)⟩
section
variable {X:Cx} {pins:List (Addr × Obj)} {σ:St} {H:Hp} {s s':Shared}
theorem Inv.env0(I:Inv X pins σ H s):Env0 X.prog X.w X.K X.mg X.base X.A X.stack s H :=
 ⟨I.ok.frames,I.ok.mod,I.bs,Nat.le_trans I.ok.bsz I.sz,I.stack,I.stkFree,I.hok,I.bare⟩
theorem Inv.after{Q:VK}{u:Value}(I:Inv X pins σ H s)(h:CE X.stack X.prog X.w H s Q u s'):EP X pins σ Q u s':=by
 obtain⟨v,H',os,bare,un,hok,r,q⟩:=h
 obtain⟨hh,g,d,t,os'⟩:=s'
 obtain rfl:os'=s.os:=os
 exact⟨v,H',I.call (h':=hh) (g':=g) (d':=d) (t':=t) (ch:=[]) un hok bare (fun b z=>absurd z (by simp)),r,q⟩
end
def tCall(sp:Sp)(dvs:List V)(E:XK)(t:TA):TE:=fun σ H Q=>t σ H fun vs H1=>sp (vs++dvs) H1 Q E
def Binds(K:PySem.W.Frag)(fd:FuncData)(ps:List Str)(ds:List Value):Prop :=
 ∀ (s:Shared) (us:List Value),K.In s.heap->(us++ds).length=ps.length->BindsTo s fd ⟨us,[]⟩ (ps.zip (us++ds))
theorem Binds.all{K:PySem.W.Frag}{fd:FuncData}{ps:List Str}(h:∀ us:List Value,us.length=ps.length->bindArgs fd ⟨us,[]⟩=pure (ps.zip us)):Binds K fd ps []:=fun s us _ hl=>by
 rw[List.append_nil]at hl ⊢
 exact .of_eq (h us hl)
def Passes(CX:CXT)(X:Cx)(E:XK):Prop:=∀ (pins:List (Addr × Obj)) (σ:St) (H:Hp) (s:Shared) (e:Value) (s':Shared),Inv X pins σ H s->CX X.stack H s E e s'->X.xe e s'
section
variable {X:Cx} {CX:CXT} {k:Nat} {f C:Addr} {fd:FuncData} {ps:List Str} {sp:Sp} {dvs:List V} {ds:List Value} {E:XK} {x m:Str} {p pos apos:Pos} {e o:Expr} {es:List Expr} {ta:TE} {t:TA}
theorem zcD{pins:List (Addr × Obj)}{σ:St}{H:Hp}{s:Shared}{Q:VK}{us:List Value}{vs:List V}(F:FnOk X.prog X.w X.K X.mg X.base CX k f fd ps sp)(hr:Room k X.A)(hb:Binds X.K fd ps ds)(hd:Vals dvs ds)(hx:Passes CX X E)
  (I:Inv X pins σ H s) (r:Vals vs us) (h:sp (vs++dvs) H Q E):wpAny (model X.prog X.w) X.A (call (.ref f) us) (EP X pins σ Q) X.xe s:=by
 have r2:Vals (vs++dvs) (us++ds):=r.append hd
 have hl:(us++ds).length=ps.length:=by rw[<- r2.length];exact F.len _ _ _ _ h
 refine wpAny_call (codeAny_mono (F.run X.A X.stack s H ⟨us,[]⟩ (us++ds) (vs++dvs) Q E hr I.env0 (hb s us I.kIn hl) r2 h) fun r s' hq=>?_)
 cases r with
 | error e=>exact hx pins σ H s e s' I hq
 | ok fl =>
  cases fl with
  | ret u=>exact I.after hq
  | next=>exact False.elim hq
  | brk=>exact False.elim hq
  | cont=>exact False.elim hq
theorem z4m(F:FnOk X.prog X.w X.K X.mg X.base CX k f fd ps sp)(hr:Room k X.A)(hg:Gl X x)(hm:X.mg x=some (.ref f))(hk:PySem.W.keepIn X.K (.ref f)=true)(hb:Binds X.K fd ps ds)(hd:Vals dvs ds)(hx:Passes CX X E)
  (ha:PA X (e::es) t) (hdb:(x == ("__debug__":Str))=false:=by decide) (he:starEach (e::es) X.env=(false,eval e X.env)::starEach es X.env:=by rfl) (hpl:(backTo pos (starEach es X.env)).any (·.1)=false:=by rfl) :
  PE X (.Call (.Name x p) (e::es) [] pos) (tCall sp dvs E t):=by
 intro pins s σ H Q I h
 refine wpAny_Call_Name_kw (z85 I hg hm ?_ hdb)
 refine PySem.W.callWith_K (h₀:=X.base) I.ok.mod.kin hk (thn (ha pos pins s σ H _ I h) fun us s1 ⟨vs,H1,I1,r,q⟩=>⟨I1.kIn,?_⟩) he hpl
 exact zcD F hr hb hd hx I1 r q
structure Mk(K:PySem.W.Frag)(C f:Addr):Prop where
 makes:PySem.W.makesIn K C=true
 init:PySem.W.findIn K (.ref C) "__init__"=some (some (.ref f))
 fn:PySem.W.isFn K (.ref f)=true
 kp:PySem.W.keepIn K (.ref C)=true
end
section
variable {X:Cx} {CX:CXT} {k:Nat} {f C:Addr} {fd:FuncData} {ps ks:List Str} {sp:Sp} {E:XK} {x m:Str} {p pos apos kpos:Pos} {e o:Expr} {es:List Expr} {kws:List Keyword} {te ta:TE} {t tk:TA} {nm:Option Str}
structure KBinds(K:PySem.W.Frag)(fd:FuncData)(ps ks:List Str)(g:List Value->List Value->List Value)(gV:List V->List V->List V):Prop where
 to:∀ (s:Shared) (us ws:List Value),K.In s.heap->(g us ws).length=ps.length->BindsTo s fd ⟨us,ks.zip ws⟩ (ps.zip (g us ws))
 rel:∀ {vs:List V} {us:List Value} {zs:List V} {ws:List Value},Vals vs us->Vals zs ws->Vals (gV vs zs) (g us ws)
variable {g:List Value->List Value->List Value} {gV:List V->List V->List V}
end
structure FnScope(N P:List Str)(sc:Scope):Prop where
 kind:sc.kind=.function
 co:sc.isCoroutine=false
 gen:sc.isGenerator=false
 nd:N.Nodup
 pre:N.take P.length=P
 par:∀ x∈P,sc.names.lookup x=some .local\/sc.names.lookup x=some .cell
 nofree:∀ y∈sc.names,y.2≠.free
theorem z5a{kindOf:Str->Option NameKind}{x:Str}:∀ {binds:List (Str × Value)} {m:Str->Option Value},(∀ v,(x,v) ∉ binds)->bindL kindOf binds m x=m x
 | [],_,_=>rfl
 | (n,v)::r,m,h=>by
  unfold bindL
  rw[z5a fun w hw=>h w (List.mem_cons_of_mem _ hw)]
  split
  ·have:x≠n:=by rintro rfl;exact h v List.mem_cons_self
   simp[this]
  ·rfl
theorem z5b{kindOf:Str->Option NameKind}{x:Str}:∀ {binds:List (Str × Value)} {m:Str->Option Value},(∀ v,(x,v) ∉ binds)->bindC kindOf binds m x=m x
 | [],_,_=>rfl
 | (n,v)::r,m,h=>by
  unfold bindC
  rw[z5b fun w hw=>h w (List.mem_cons_of_mem _ hw)]
  split
  ·rfl
  ·have:x≠n:=by rintro rfl;exact h v List.mem_cons_self
   simp[this]
theorem z5c{kindOf:Str->Option NameKind}{x:Str}{v:Value}:∀ {P:List Str} {vs:List Value} {i:Nat} {m:Str->Option Value},P.Nodup->P[i]?=some x->vs[i]?=some v->kindOf x=some .local ->
  bindL kindOf (P.zip vs) m x=some v
 | [],_,_,_,_,h,_,_=>by simp at h
 | _::_,[],_,_,_,_,h,_=>by simp at h
 | p::P,w::vs,0,m,nd,h1,h2,hk=>by
  simp at h1 h2;subst h1;subst h2
  show bindL kindOf ((p,w)::P.zip vs) m p=_
  unfold bindL
  rw[z5a fun v hv=>(List.nodup_cons.mp nd).1 (List.of_mem_zip hv).1,if_pos hk]
  simp
 | p::P,w::vs,i + 1,m,nd,h1,h2,hk=>by
  show bindL kindOf ((p,w)::P.zip vs) m x=_
  unfold bindL
  exact z5c (i:=i) (List.nodup_cons.mp nd).2 (by simpa using h1) (by simpa using h2) hk
theorem z5d{kindOf:Str->Option NameKind}{x:Str}{v:Value}:∀ {P:List Str} {vs:List Value} {i:Nat} {m:Str->Option Value},P.Nodup->P[i]?=some x->vs[i]?=some v->kindOf x≠some .local ->
  bindC kindOf (P.zip vs) m x=some v
 | [],_,_,_,_,h,_,_=>by simp at h
 | _::_,[],_,_,_,_,h,_=>by simp at h
 | p::P,w::vs,0,m,nd,h1,h2,hk=>by
  simp at h1 h2;subst h1;subst h2
  show bindC kindOf ((p,w)::P.zip vs) m p=_
  unfold bindC
  rw[z5b fun v hv=>(List.nodup_cons.mp nd).1 (List.of_mem_zip hv).1,if_neg hk]
  simp
 | p::P,w::vs,i + 1,m,nd,h1,h2,hk=>by
  show bindC kindOf ((p,w)::P.zip vs) m x=_
  unfold bindC
  exact z5d (i:=i) (List.nodup_cons.mp nd).2 (by simpa using h1) (by simpa using h2) hk
def start(N:List Str)(vs:List V):St:=vs.map some++List.replicate (N.length - vs.length) none
def cxOf(CX:CXT)(P:Program)(w:World)(K:PySem.W.Frag)(mg:Str->Option Value)(base:Heap)(N:List Str)(qual:Str)(scope:Scope)(f:Addr)(cd:Value)(A:Around)(outer:List Env)(s:Shared)(H:Hp)(E:XK):Cx where
 prog:=P
 w:=w
 K:=K
 mg:=mg
 base:=base
 A:=A.deeper (envOfC qual scope s.heap.objs.size f cd)
 N:=N
 s₀:=s
 H₀:=H
 env:=envOfC qual scope s.heap.objs.size f cd
 outer:=outer
 stack:=envOfC qual scope s.heap.objs.size f cd::outer
 ex:=[]
 calm:=true
 fn:=fun _=>true
 pn:=[]
 xe:=fun e s'=>wpAny (model P w) (A.deeper (envOfC qual scope s.heap.objs.size f cd)) (leaving (envOfC qual scope s.heap.objs.size f cd) e) (fun _ s''=>CX outer H s E e s'') (fun e' s''=>CX outer H s E e' s'') s'
theorem z0F{sc:Scope}{n:Nat}{x:Str}(h:sc.names.lookup x=some .cell):∃ c,(cellsFrom n sc.names []).lookup x=some c:=by
 have q:=PySem.W.cellsFrom_some sc.names n [] (.inl h)
 exact Option.isSome_iff_exists.mp q
theorem z8h{CX:CXT}{P:Program}{w:World}{K:PySem.W.Frag}{mg:Str->Option Value}{base:Heap}{N ps:List Str}{qual:Str}{scope:Scope}{f:Addr}{cd:Value}{A:Around}{outer:List Env}{s s1:Shared}{H:Hp}{E:XK}{us:List Value}{vs:List V}
  (S:FnScope N ps scope) (hd:A.handled=none) (e0:Env0 P w K mg base A outer s H) (hl:vs.length=ps.length) (r:Vals vs us)
  (x:InCallC s s.heap.objs.size (bindL (envOfC qual scope s.heap.objs.size f cd).kindOf (ps.zip us) fun _=>none) (cellsFrom (s.heap.objs.size + 1) scope.names []) (bindC (envOfC qual scope s.heap.objs.size f cd).kindOf (ps.zip us) fun _=>none) s1) :
  Inv (cxOf CX P w K mg base N qual scope f cd A outer s H E) [] (start N vs) H s1:=by
 have hpl:ps.length<=N.length:=by have:=congrArg List.length S.pre;rw[List.length_take]at this;omega
 obtain⟨h1,tk,rfl,hk⟩:=x.done
 have noA:∀ b:Addr,b ∉ (cxOf CX P w K mg base N qual scope f cd A outer s H E).ex:=fun b z=>absurd (show b∈([]:List Addr) from z) (by simp)
 refine⟨⟨e0.mod,S.kind,rfl,rfl,Nat.le_refl _,fun y z c h1 h2=>?_,fun y hy=>?_,fun y c _ h=>?_,fun _=>hd,Around.frames_deeper e0.frames,.inr ⟨rfl,rfl⟩,fun b z=>absurd z (noA b),e0.bs,e0.bsz,fun b _ _=>noA b,fun b z=>absurd z (noA b),e0.funs,e0.frf⟩,
  rfl,e0.bare,Un.kept hk,⟨_,x.toInCall.ns,fun i y v h1 h2 h3=>?_⟩,fun y c h=>⟨_,x.cell y c h⟩,e0.hok.fresh (Nat.le_refl _),fun y c h=>?_,fun p hp=>absurd (show p∈([]:List (Addr × Obj)) from hp) (by simp),e0.hok.kept hk,?_⟩
 ·exact name_of_addr x.apart (PySem.mem_of_lookup h1) (PySem.mem_of_lookup h2)
 ·have hy:scope.names.lookup y=some .cell\/scope.names.lookup y=some .free:=hy
  rcases hy with hy | hy
  ·exact z0F hy
  ·exact absurd rfl (S.nofree _ (PySem.mem_of_lookup hy))
 ·exact Nat.le_of_lt (x.above y c (PySem.mem_of_lookup h))
 ·have hi:i < vs.length:=by
   unfold start at h2
   by_cases hi:i < vs.length
   ·exact hi
   ·rw[List.getElem?_append_right (by simpa using hi)]at h2
    rw[List.getElem?_replicate]at h2
    split at h2 <;> cases h2
  have ha:vs[i]?=some v:=by
   unfold start at h2
   rw[List.getElem?_append_left (by simpa using hi),List.getElem?_map]at h2
   cases e:vs[i]? with
   | none=>rw[e]at h2;cases h2
   | some a=>rw[e]at h2;cases h2;rfl
  obtain⟨u,hu,rv⟩:=r.get ha
  have hp:ps[i]?=some y:=by
   rw[<- S.pre,List.getElem?_take_of_lt (by omega)];exact h1
  have ndP:ps.Nodup:=by rw[<- S.pre];exact S.nd.sublist (List.take_sublist _ _)
  refine⟨u,rv,?_⟩
  rcases S.par y (List.mem_of_getElem? hp) with k | k
  ·exact .inl ⟨k,z5c ndP hp hu k⟩
  ·obtain⟨c,e⟩:=z0F (n:=s.heap.objs.size + 1) k
   refine .inr ⟨.inl k,c,e,?_⟩
   have q:=x.cell y c e
   rw[z5d ndP hp hu (by show scope.names.lookup y≠_;rw[k];decide)]at q
   exact q
 ·exact e0.hok.fresh (Nat.le_of_lt (x.above y c (PySem.mem_of_lookup h)))
 ·unfold start
  show _=N.length
  rw[List.length_append,List.length_map,List.length_replicate]
  omega
theorem zeH{CX:CXT}{P:Program}{w:World}{K:PySem.W.Frag}{mg:Str->Option Value}{base:Heap}{k:Nat}{f:Addr}{name qual:Str}{params:Arguments}{body:List Stmt}{scope:Scope}{dV kV doc pm cdv ct oc:Value}{an od:Option Addr}
  {osl:Array (Option Value)} {N ps:List Str} {sp:Sp} (lk:K.lookup f=some ⟨oc,od,.func (PySem.W.fnOf name qual params body scope dV kV doc pm an cdv ct),osl⟩) (hcd:PySem.W.codeIn K cdv qual=true) (S:FnScope N ps scope)
  (len:∀ vs H Q E,sp vs H Q E->vs.length=ps.length)
  (hbody:∀ (A:Around) (outer:List Env) (s:Shared) (H:Hp) (vs:List V) (Q:VK) (E:XK),Room k (A.deeper (envOfC qual scope s.heap.objs.size f cdv))->sp vs H Q E ->
   ∃ t,PSs (cxOf CX P w K mg base N qual scope f cdv A outer s H E) body t/\t {nx:=fun _ H'=>Q .non H',rt:=Q} (start N vs) H) :
  FnOk P w K mg base CX (k + 1) f (PySem.W.fnOf name qual params body scope dV kV doc pm an cdv ct) ps sp:=by
 refine⟨len,fun A outer s H args us vs Q E hr e0 hb r hsp=>?_⟩
 have hl:=len _ _ _ _ hsp
 have KX:K.In s.heap:=e0.mod.kin.keeps fun b o e=>(e0.bs b o e).1
 have lim:s.heap.NoLimit:=e0.mod.nolimit.keeps fun b o e=>(e0.bs b o e).1
 have hkind:∀ y∈ps.zip us,scope.names.lookup y.1=some .local\/(scope.names.lookup y.1=some .cell/\((cellsFrom (s.heap.objs.size + 1) scope.names []).lookup y.1).isSome=true):=fun zfl hy=>by
  obtain⟨n,v⟩:=zfl
  rcases S.par n (List.of_mem_zip hy).1 with q | q
  ·exact .inl q
  ·exact .inr ⟨q,PySem.W.cellsFrom_some _ _ _ (.inl q)⟩
 refine codeAny_call_function hr.depth (KX _ _ lk) rfl S.co S.gen rfl (PySem.W.codeRec_of KX hcd) (hb _ _ _ _ ?_)
 refine wpAny_newFunctionEnv_cells S.kind hkind fun env he s1 x=>?_
 subst he
 refine⟨lim.keeps x.toInCall.keep,codeAny_func ?_⟩
 obtain⟨t,ht,hq⟩:=hbody A outer s H vs Q E (hr.deeper _) hsp
 have I:Inv (cxOf CX P w K mg base N qual scope f cdv A outer s H E) [] (start N vs) H s1:=z8h S hr.hd e0 hl r x
 refine wpAny_mono (ht [] s1 (start N vs) H _ I hq) (fun fl s' hs=>?_) fun e s' hs=>hs
 have fin:∀ {σ':St} {H':Hp} {v:V} {u:Value},Inv (cxOf CX P w K mg base N qual scope f cdv A outer s H E) [] σ' H' s'->RelV v u->Q v H'->CE outer P w H s Q u s' :=
  fun{σ' H' v u} J rv q=>⟨v,H',J.os,J.bare,J.base,J.hok,rv,q⟩
 cases fl with
 | ret u =>
  obtain⟨v,σ',H',J,rv,q⟩:=hs
  exact fin J rv q
 | next =>
  obtain⟨σ',H',J,q⟩:=hs
  exact fin (v:=V.non) (u:=Value.none) J rfl q
 | brk =>
  obtain⟨_,_,_,q⟩:=hs
  exact False.elim q
 | cont =>
  obtain⟨_,_,_,q⟩:=hs
  exact False.elim q
end L2
namespace L2
open PySem PySem.Spec PyProof.Rows
section
variable {X:Cx} {x:Str} {p pos:Pos} {e:Expr} {es:List Expr} {t:TA} {id T:String} {r:List V->Hp->VK->Prop}
def tCB(r:List V->Hp->VK->Prop)(t:TA):TE:=fun σ H Q=>t σ H fun vs H1=>r vs H1 Q
theorem z2G(hc:CallR X (.builtin id) r)(hg:Gl X x)(hm:X.mg x=none)(hv:bootBuiltins x=some (.builtin id))(ha:PA X (e::es) t)(hn:x≠"__name__":=by decide)(hdb:(x == ("__debug__":Str))=false:=by decide)
  (he:starEach (e::es) X.env=(false,eval e X.env)::starEach es X.env:=by rfl) (hpl:(backTo pos (starEach es X.env)).any (·.1)=false:=by rfl):PE X (.Call (.Name x p) (e::es) [] pos) (tCB r t):=by
 intro pins s σ H Q I h
 refine wpAny_Call_Name_kw (z2e I hg hm hv ?_ hn hdb)
 exact PyProof.Rows.callWith_builtin1 (thn (ha pos pins s σ H _ I h) fun us s1 zfm=>(by obtain⟨vs,H1,I1,r1,q1⟩:=zfm;exact hc pins s1 σ H1 vs us Q I1 r1 q1)) he hpl
theorem z3x(hc:CallR X (.type T) r)(hg:Gl X x)(hm:X.mg x=none)(hv:bootBuiltins x=some (.type T))(ha:PA X (e::es) t)(hn:x≠"__name__":=by decide)(hdb:(x == ("__debug__":Str))=false:=by decide)
  (he:starEach (e::es) X.env=(false,eval e X.env)::starEach es X.env:=by rfl) (hpl:(backTo pos (starEach es X.env)).any (·.1)=false:=by rfl):PE X (.Call (.Name x p) (e::es) [] pos) (tCB r t):=by
 intro pins s σ H Q I h
 refine wpAny_Call_Name_kw (z2e I hg hm hv ?_ hn hdb)
 exact PyProof.Rows.callWith_type1 (thn (ha pos pins s σ H _ I h) fun us s1 zfn=>(by obtain⟨vs,H1,I1,r1,q1⟩:=zfn;exact hc pins s1 σ H1 vs us Q I1 r1 q1)) he hpl
end
end L2
namespace HT
open PySem PyProof.Rows
section
open PySem.SeqAt
open PySem.AutoSeq1 (wpAny_loadPart')
open PySem.MeetsSeq PySem.MeetsSeq2 PySem.MeetsSeq3
end
section
variable {prog:Program} {w:World} {A:Around} {E:Value->Shared->Prop} {s:Shared}
theorem cat_tup{t b:Addr}{vs ws:List Value}{Q:Value->Shared->Prop}(ht:IsTup s.heap t vs.toArray)(hb:IsTup s.heap b ws.toArray)(hv:vs≠[])
  (h1:ws=[]->Q (.ref t) s) (h2:ws≠[]->Q (.ref s.heap.objs.size) {s with heap:=s.heap.push {cls:=.type "tuple",data:=.seq (vs++ws).toArray}})
  (hsz:vs.length + ws.length<=sizeLine):wpAny (model prog w) A (binaryOp .Add (.ref t) (.ref b)) Q E s:=by
 obtain⟨⟨cls,dd,data,sl⟩,ho,hc,n,hd⟩:=id ht
 obtain⟨⟨cls2,dd2,data2,sl2⟩,ho2,hc2,n2,hd2⟩:=id hb
 simp only at hc hd hc2 hd2
 subst hc hd hc2 hd2
 have e:vs.toArray++ws.toArray=(vs++ws).toArray:=by simp
 by_cases hw:ws=[]
 ·exact concat_meets ⟨_,ho,rfl⟩ ⟨_,ho2,rfl⟩ noFill_tuple_add seq_tuple_add PySem.F.slot_tuple_add PySem.F.entry_tuple_add (PySem.F.args_tuple_add_2 _ _)
   (tuple_addW1 t b vs.toArray ws.toArray n n2 dd dd2 sl sl2 (by simpa using hv) (by simp[hw])) ⟨ho,ho2,h1 hw⟩
 ·refine concat_meets ⟨_,ho,rfl⟩ ⟨_,ho2,rfl⟩ noFill_tuple_add seq_tuple_add PySem.F.slot_tuple_add PySem.F.entry_tuple_add (PySem.F.args_tuple_add_2 _ _)
   (tuple_addW2 t b vs.toArray ws.toArray n n2 dd dd2 sl sl2 (by simpa using hv) (by simpa using hw) (by rw[List.size_toArray,List.size_toArray];exact hsz)) ⟨ho,ho2,?_⟩
  rw[e]
  exact h2 hw
def sIx(n d:Nat):Option Int->Nat
 | none=>d
 | some v=>if v < 0 then (v + (n:Int)).toNat else min v.toNat n
theorem sIx_none(n d:Nat):sIx n d none=d:=rfl
theorem sIx_nat(n d k:Nat):sIx n d (some (k:Int))=min k n:=by
 show(if (k:Int) < 0 then ((k:Int) + (n:Int)).toNat else min (k:Int).toNat n)=min k n
 rw[if_neg (by omega),Int.toNat_natCast]
theorem zcE(n d:Nat)(hd:d<=n)(o:Option Int):sIx n d o<=n:=by
 cases o with
 | none=>exact hd
 | some v =>
  show(if v < 0 then (v + (n:Int)).toNat else min v.toNat n)<=n
  by_cases hv:v < 0
  ·rw[if_pos hv];omega
  ·rw[if_neg hv];exact Nat.min_le_right _ _
theorem z8i(v:Int)(n d:Nat):(if v < 0 then max (v + (n:Int)) 0 else min v (n:Int))=((sIx n d (some v):Nat):Int):=by
 show(if v < 0 then max (v + (n:Int)) 0 else min v (n:Int))=(((if v < 0 then (v + (n:Int)).toNat else min v.toNat n):Nat):Int)
 by_cases hv:v < 0
 ·simp only[if_pos hv];omega
 ·simp only[if_neg hv];omega
theorem z7G(lo hi:Option Int)(n:Nat):Builtin.Slice.sliceAdjust lo hi 1 (n:Int)=(((sIx n 0 lo:Nat):Int),((sIx n n hi:Nat):Int)):=by
 have h1:¬ ((1:Int) < 0):=by omega
 unfold Builtin.Slice.sliceAdjust
 simp only[h1,if_false]
 refine Prod.ext ?_ ?_
 ·cases lo with
  | none=>rfl
  | some v=>exact z8i v n 0
 ·cases hi with
  | none=>rfl
  | some v=>exact z8i v n n
theorem z7H(i j:Nat):Builtin.Slice.slicePlaces (i:Int) (j:Int) 1=j - i:=by
 unfold Builtin.Slice.slicePlaces
 have h1:(1:Int) > 0:=by omega
 simp only[h1,if_true,Int.ediv_one]
 split <;> omega
theorem z45{v:Value}{o:Option Int}{Q:Option Int->Shared->Prop}(p:IsPart v o)(h:Q o s):wpAny (model prog w) A (Builtin.Slice.slicePartIndex v) Q E s:=by
 cases p with
 | none=>exact slicePart_none h
 | int i t=>exact slicePart_int h
theorem z1H{sl:Addr}{vl vu:Value}{lo hi:Option Int}{n:Nat}{Q:Int × Int × Nat->Shared->Prop}(hs:s.heap.IsSliceOf sl vl vu .none)(pl:IsPart vl lo)(pu:IsPart vu hi)
  (h:Q (((sIx n 0 lo:Nat):Int),1,sIx n n hi - sIx n 0 lo) s):wpAny (model prog w) A (Builtin.Slice.sliceApplied (.ref sl) (pure (n:Int))) Q E s:=by
 obtain⟨os,hos,hcs,hds⟩:=id hs
 unfold Builtin.Slice.sliceApplied Builtin.Slice.sliceFields
 refine wpAny_bind (wpAny_bind (wpAny_field hos hds (x:=vl) rfl (wpAny_bind (wpAny_field hos hds (x:=vu) rfl (wpAny_bind (wpAny_field hos hds (x:=.none) rfl (wpAny_pure ?_)))))))
 refine wpAny_bind (slicePart_none ?_)
 show wpAny _ _ (if ((1:Int) == 0)=true then _ else _) _ _ s
 rw[if_neg (by decide)]
 refine wpAny_bind (z45 pl (wpAny_bind (z45 pu (wpAny_bind (wpAny_pure ?_)))))
 show wpAny _ _ (match Builtin.Slice.sliceAdjust lo hi 1 (n:Int) with | (lo,hi)=>pure (lo,(1:Int),Builtin.Slice.slicePlaces lo hi 1)) _ _ s
 rw[z7G lo hi n]
 show wpAny _ _ (pure (((sIx n 0 lo:Nat):Int),(1:Int),Builtin.Slice.slicePlaces ((sIx n 0 lo:Nat):Int) ((sIx n n hi:Nat):Int) 1)) _ _ s
 rw[z7H]
 exact wpAny_pure h
theorem z9O(xs:Array Value)(i k:Nat):((List.range k).filterMap fun(m:Nat)=>xs[((i:Int) + (m:Int) * 1).toNat]?).toArray=((xs.toList.drop i).take k).toArray:=by
 have e:(fun(m:Nat)=>xs[((i:Int) + (m:Int) * 1).toNat]?)=fun m=>xs[i + m]?:=by
  funext m
  have:((i:Int) + (m:Int) * 1).toNat=i + m:=by omega
  rw[this]
 rw[e]
 have:=pick_run xs i k
 rw[List.filterMap_map]at this
 have e2:((fun x=>xs[x]?) ∘ fun x=>i + x)=fun m=>xs[i + m]?:=rfl
 rw[e2]at this
 rw[this]
theorem getItem_tuple_cut{t sl:Addr}{items:Array Value}{vl vu:Value}{lo hi:Option Int}{Q:Value->Shared->Prop}(ht:IsTup s.heap t items)(hs:s.heap.IsSliceOf sl vl vu .none)(pl:IsPart vl lo)(pu:IsPart vu hi)
  (hw:¬ (sIx items.size 0 lo=0/\sIx items.size items.size hi=items.size))
  (h:Q (.ref s.heap.objs.size) {s with heap:=s.heap.push {cls:=.type "tuple",data:=.seq ((items.toList.drop (sIx items.size 0 lo)).take (sIx items.size items.size hi - sIx items.size 0 lo)).toArray}})
  (hsz:items.size<=sizeLine):wpAny (model prog w) A (getItem (.ref t) (.ref sl)) Q E s:=by
 have htake:sizeOk (.seq ((items.toList.drop (sIx items.size 0 lo)).take (sIx items.size items.size hi - sIx items.size 0 lo)).toArray):=by
  show((items.toList.drop (sIx items.size 0 lo)).take (sIx items.size items.size hi - sIx items.size 0 lo)).toArray.size<=sizeLine
  rw[List.size_toArray,List.length_take,List.length_drop,Array.length_toList]
  omega
 have hj:sIx items.size items.size hi<=items.size:=zcE _ _ (Nat.le_refl _) hi
 obtain⟨os,hos,hcs,hds⟩:=id hs
 have hTs:s.TypeIs (.ref sl) "slice":=⟨os,hos,hcs⟩
 unfold getItem
 try with_reducible refine wpAny_holding ?_
 first | refine wpAny_bind (wpAny_pure ?_) | skip
 refine wpAny_bind (wpAny_sequenceKey ht.typeIs (by decide) ?_)
 refine wpAny_bind (wpAny_callSpecial?_slot (name:=Str.ofString "__getitem__") ht.typeIs PyProof.Rows.slot_tuple_getitem
  (wpAny_call_entry PyProof.Rows.slot_tuple_getitem ht.typeIs entry_tuple_getitem ?_ (args_tuple_getitem _ _)))
 show wpAny _ _ (Builtin.Tuple.tupleItemsOf (.ref t) >>= _) _ _ s
 refine wpAny_bind (tupleItemsOf_ ht ?_)
 refine wpAny_bind (wpAny_typeOf hTs ?_)
 rw[if_pos (by decide)]
 refine wpAny_bind (z1H hs pl pu ?_)
 have hno:¬ ((((sIx items.size 0 lo:Nat):Int) == 0 && (1:Int) == 1 && (sIx items.size items.size hi - sIx items.size 0 lo) == items.size)=true):=by
  intro q
  rw[Bool.and_eq_true,Bool.and_eq_true]at q
  have q1:((sIx items.size 0 lo:Nat):Int)=0:=eq_of_beq q.1.1
  have q2:sIx items.size items.size hi - sIx items.size 0 lo=items.size:=eq_of_beq q.2
  exact hw ⟨by omega,by omega⟩
 show wpAny _ _ (if (((sIx items.size 0 lo:Nat):Int) == 0 && (1:Int) == 1 && (sIx items.size items.size hi - sIx items.size 0 lo) == items.size)=true then _ else _) _ _ s
 rw[if_neg hno,z9O]
 first
  | exact wpAny_bind (m:=Builtin.Tuple.tupleExact _) (wpAny_newObj_type (wpAny_pure ⟨_,rfl,wpAny_pure h⟩) htake)
  | exact wpAny_bind (m:=Builtin.Tuple.tupleExact _) (wpAny_newObj_type (wpAny_bind (wpAny_pure (wpAny_pure ⟨_,rfl,wpAny_pure h⟩))) htake)
  | exact wpAny_bind (wpAny_bind (m:=Builtin.Tuple.tupleExact _) (wpAny_newObj_type (wpAny_pure (wpAny_pure ⟨_,rfl,wpAny_pure h⟩)) htake))
  | exact wpAny_bind (wpAny_bind (m:=Builtin.Tuple.tupleExact _) (wpAny_newObj_type (wpAny_pure ⟨_,rfl,wpAny_pure h⟩) htake))
end
end HT
namespace L2
open PySem PySem.Spec PyProof.Rows
abbrev TO:=St->Hp->(Option Int->Hp->Prop)->Prop
def PO(X:Cx)(e:Option Expr)(t:TO):Prop :=
 ∀ (pins:List (Addr × Obj)) (s:Shared) (σ:St) (H:Hp) (Q:Option Int->Hp->Prop),Inv X pins σ H s->t σ H Q ->
  wpAny (model X.prog X.w) X.A (evalPart e X.env) (fun u s'=>∃ o H',Inv X pins σ H' s'/\IsPart u o/\Q o H') X.xe s
def tNoPart:TO:=fun _ H Q=>Q none H
def tPart(t:TE):TO:=fun σ H Q=>t σ H fun x H1=>∃ i,x=.int i/\Q (some i) H1
section
variable {X:Cx} {e:Expr} {te:TE} {lo hi:Option Expr} {tl th:TO} {pos p2:Pos}
theorem z8j:PO X none tNoPart:=by
 intro pins s σ H Q I h
 rw[evalPart_none]
 exact wpAny_pure ⟨none,H,I,.none,h⟩
theorem z8k(h:PE X e te):PO X (some e) (tPart te):=by
 intro pins s σ H Q I hw
 rw[evalPart_some]
 refine thn (h pins s σ H _ I hw) fun u s1 zfo=>?_
 obtain⟨x,H1,I1,r1,q1⟩:=zfo
 obtain⟨i,rfl,q⟩:=q1
 obtain⟨t,rfl⟩:=r1
 exact⟨some i,H1,I1,.int i t,q⟩
def SlR(X:Cx)(r:V->Option Int->Option Int->Hp->VK->Prop):Prop :=
 ∀ (pins:List (Addr × Obj)) (s:Shared) (σ:St) (H:Hp) (x:V) (v vl vu:Value) (lo hi:Option Int) (sl:Addr) (Q:VK),Inv X pins σ H s->RelV x v->s.heap.IsSliceOf sl vl vu .none->IsPart vl lo->IsPart vu hi->r x lo hi H Q ->
  ∃ T id,typeLookup (.type T) "__getitem__"=pure (some (.builtin id))/\s.TypeIs v T/\wpAny (model X.prog X.w) X.A (getItem v (.ref sl)) (EP X pins σ Q) X.xe s
theorem SlR.or{r r':V->Option Int->Option Int->Hp->VK->Prop}(h:SlR X r)(h':SlR X r'):SlR X (fun x lo hi H Q=>r x lo hi H Q\/r' x lo hi H Q):=by
 intro pins s σ H x v vl vu lo hi sl Q I rx hs pl pu q
 rcases q with q | q
 ·exact h pins s σ H x v vl vu lo hi sl Q I rx hs pl pu q
 ·exact h' pins s σ H x v vl vu lo hi sl Q I rx hs pl pu q
def tSl(r:V->Option Int->Option Int->Hp->VK->Prop)(te:TE)(tl th:TO):TE:=fun σ H Q=>te σ H fun x H1=>tl σ H1 fun l H2=>th σ H2 fun u H3=>r x l u H3 Q
theorem z6X{r:V->Option Int->Option Int->Hp->VK->Prop}(hr:SlR X r)(he:PE X e te)(hl:PO X lo tl)(hu:PO X hi th):PE X (.Subscript e (.Slice lo hi none p2) pos) (tSl r te tl th):=by
 intro pins s σ H Q I h
 refine Subscript_ (thn (he pins s σ H _ I h) fun v s1 zfp=>?_)
 obtain⟨x,H1,I1,r1,q1⟩:=zfp
 refine wpAny_Slice (thn (hl pins s1 σ H1 _ I1 q1) fun vl s2 ⟨l,H2,I2,pl,q2⟩=>thn (hu pins s2 σ H2 _ I2 q2) fun vu s3 zfq=>?_)
 obtain⟨u,H3,I3,pu,q3⟩:=zfq
 rw[evalPart_none]
 refine wpAny_pure ?_
 have I4:Inv X pins σ H3 {s3 with heap:=s3.heap.push {cls:=.type "slice",data:=.fields #[vl,vu,.none]}}:=I3.kept (t':=s3.toks) fun b ob q=>Heap.get?_push_of_some _ q
 obtain⟨T,id,hT,ht,hg⟩:=hr pins {s3 with heap:=s3.heap.push {cls:=.type "slice",data:=.fields #[vl,vu,.none]}} σ H3 x v vl vu l u s3.heap.objs.size Q I4 r1 (Heap.IsSliceOf.new ..) pl pu q3
 show wpAny (model X.prog X.w) X.A (subscriptTail e (.Slice lo hi none p2) v (.ref s3.heap.objs.size)) (EP X pins σ Q) X.xe {s3 with heap:=s3.heap.push {cls:=.type "slice",data:=.fields #[vl,vu,.none]}}
 exact tail_any (ops:=[.ref s3.heap.objs.size,v]) ht hT hg (by with_unfolding_all rfl)
def cutV(xs:List V)(lo hi:Option Int):List V:=(xs.drop (HT.sIx xs.length 0 lo)).take (HT.sIx xs.length xs.length hi - HT.sIx xs.length 0 lo)
theorem z3y(xs:List V)(lo hi:Option Int):(cutV xs lo hi).length<=xs.length:=by
 unfold cutV
 rw[List.length_take,List.length_drop]
 omega
def rSlT(K:PySem.W.Frag):V->Option Int->Option Int->Hp->VK->Prop:=fun x lo hi H Q=>∃ a xs,x=.ref a/\SqT K H a xs /\
 ¬ (HT.sIx xs.length 0 lo=0/\HT.sIx xs.length xs.length hi=xs.length)/\∀ p,H p=none->Q (.ref p) (upd H p (.tup (cutV xs lo hi)))
theorem zcF:SlR X (rSlT X.K):=by
 intro pins s σ H x v vl vu lo hi sl Q I rx hs pl pu h
 obtain⟨a,xs,rfl,hx,hw,q⟩:=h
 cases rx
 obtain⟨its,r,ht,hz⟩:=I.tuple hx
 have hlen:its.toArray.size=xs.length:=by rw[List.size_toArray];exact r.length.symm
 refine⟨"tuple",_,PyProof.Rows.slot_tuple_getitem.lookup,ht.typeIs,?_⟩
 refine HT.getItem_tuple_cut ht hs pl pu (by rw[hlen];exact hw) ?_ (by rw[hlen];exact hz)
 rw[hlen]
 refine⟨.ref s.heap.objs.size,_,I.laid (t':=s.toks) (o:=.tup (cutV xs lo hi)) (fun b ob q=>Heap.get?_push_of_some _ q) (Nat.le_refl _) ?_,rfl,q _ (I.hok.fresh (Nat.le_refl _))⟩
 exact⟨Nat.le_trans (z3y xs lo hi) hz,_,(r.drop (HT.sIx xs.length 0 lo)).take (HT.sIx xs.length xs.length hi - HT.sIx xs.length 0 lo),IsTup.new _ _⟩
def rCatT(K:PySem.W.Frag):R2:=fun x y H Q=>∃ a b xs ys,x=.ref a/\y=.ref b/\SqT K H a xs/\SqT K H b ys/\xs≠[]/\xs.length + ys.length<=sizeLine /\
 (ys=[]->Q (.ref a) H)/\(ys≠[]->∀ p,H p=none->Q (.ref p) (upd H p (.tup (xs++ys))))
theorem Vals.nil_iff{xs:List V}{us:List Value}(r:Vals xs us):us=[]↔xs=[]:=by
 cases r with
 | nil=>simp
 | cons _ _=>simp
theorem op_catT:OpR X (binaryOp .Add) (rCatT X.K):=by
 intro pins s σ H x y v u Q I rx ry h
 obtain⟨a,b,xs,ys,rfl,rfl,ha,hb,hx,hz,q1,q2⟩:=h
 cases rx
 cases ry
 obtain⟨its,r1,p1,_⟩:=I.tuple ha
 obtain⟨its2,r2,p2,_⟩:=I.tuple hb
 refine HT.cat_tup p1 p2 (fun z=>hx (r1.nil_iff.mp z)) (fun z=>⟨.ref a,H,I,rfl,q1 (r2.nil_iff.mp z)⟩) (fun z=>?_) (by rw[<- r1.length,<- r2.length];exact hz)
 refine⟨.ref s.heap.objs.size,_,I.laid (t':=s.toks) (o:=.tup (xs++ys)) (fun b ob q=>Heap.get?_push_of_some _ q) (Nat.le_refl _) ?_,rfl,q2 (fun w=>z (r2.nil_iff.mpr w)) _ (I.hok.fresh (Nat.le_refl _))⟩
 exact⟨by rw[List.length_append];exact hz,_,r1.append r2,IsTup.new _ _⟩
end
end L2
namespace L2
open PySem PySem.Spec PyProof.Rows
def ixN(n:Nat)(i:Int):Option Nat:=if 0<=i then (if i < n then some i.toNat else none) else if -(n:Int)<=i then some (i + n).toNat else none
def atI{α:Type}(xs:List α)(i:Int):Option α:=(ixN xs.length i).bind fun j=>xs[j]?
theorem z8l{n:Nat}{i:Int}{j:Nat}(h:ixN n i=some j):seqIndex? i n=some j/\j < n/\-(n:Int)<=i/\i < n:=by
 unfold ixN at h
 by_cases h0:0<=i
 ·rw[if_pos h0]at h
  by_cases h1:i < n
  ·rw[if_pos h1]at h
   have e:i.toNat=j:=Option.some.inj h
   exact⟨by rw[seqIndex_of h0 h1,e],by omega,by omega,h1⟩
  ·rw[if_neg h1]at h;cases h
 ·rw[if_neg h0]at h
  by_cases h1:-(n:Int)<=i
  ·rw[if_pos h1]at h
   have e:(i + n).toNat=j:=Option.some.inj h
   exact⟨by rw[seqIndex_neg (by omega) h1,e],by omega,h1,by omega⟩
  ·rw[if_neg h1]at h;cases h
theorem z4n{α:Type}{xs:List α}{i:Int}{v:α}(h:atI xs i=some v):∃ j,seqIndex? i xs.length=some j/\xs[j]?=some v/\j < xs.length/\-(xs.length:Int)<=i/\i < xs.length:=by
 unfold atI at h
 cases e:ixN xs.length i with
 | none=>rw[e]at h;cases h
 | some j =>
  rw[e]at h
  obtain⟨h1,h2,h3,h4⟩:=z8l e
  exact⟨j,h1,h,h2,h3,h4⟩
theorem atI_nat{α:Type}{xs:List α}{j:Nat}{v:α}(h:xs[j]?=some v):atI xs (j:Int)=some v:=by
 have hj:j < xs.length:=(List.getElem?_eq_some_iff.mp h).1
 have e:ixN xs.length (j:Int)=some j:=by
  unfold ixN
  rw[if_pos (by omega),if_pos (by omega)];simp
 unfold atI;rw[e];exact h
theorem atI_last{α:Type}(xs:List α)(v:α):atI (xs++[v]) (-1)=some v:=by
 have hl:(xs++[v]).length=xs.length + 1:=by simp
 have e:ixN (xs++[v]).length (-1)=some xs.length:=by
  unfold ixN
  rw[hl,if_neg (by decide),if_pos (by omega)]
  congr 1
  omega
 unfold atI
 rw[e]
 show(xs++[v])[xs.length]?=some v
 simp
def PlainIx(b:Expr):Prop:=∀ o i,subscripted b false o i=operate [o,i] (getItem o i)
def IxR(X:Cx)(r:R2):Prop :=
 ∀ (value slice:Expr) (pins:List (Addr × Obj)) (s:Shared) (σ:St) (H:Hp) (x y:V) (v u:Value) (Q:VK),Inv X pins σ H s->RelV x v->RelV y u->r x y H Q ->
  subscripted slice false v u=operate [v,u] (getItem v u)->wpAny (model X.prog X.w) X.A (subscriptTail value slice v u) (EP X pins σ Q) X.xe s
def MtR(X:Cx)(id:String)(r:V->List V->Hp->VK->Prop):Prop :=
 ∀ (pins:List (Addr × Obj)) (s:Shared) (σ:St) (H:Hp) (x:V) (xs:List V) (v:Value) (us:List Value) (Q:VK),Inv X pins σ H s->RelV x v->Vals xs us->r x xs H Q ->
  wpAny (model X.prog X.w) X.A (call (.builtin id) (v::us)) (EP X pins σ Q) X.xe s
section
variable {X:Cx} {a b:Expr} {ta tb:TE} {pos:Pos}
theorem IxR.or{r r':R2}(h:IxR X r)(h':IxR X r'):IxR X (fun x y H Q=>r x y H Q\/r' x y H Q):=by
 intro value slice pins s σ H x y v u Q I rx ry q hs
 rcases q with q | q
 ·exact h value slice pins s σ H x y v u Q I rx ry q hs
 ·exact h' value slice pins s σ H x y v u Q I rx ry q hs
theorem zcG{r:R2}(hr:IxR X r)(ha:PE X a ta)(hb:PE X b tb)(hs:PlainIx b):PE X (.Subscript a b pos) (tOp r ta tb):=by
 intro pins s σ H Q I h
 exact Subscript_ (binT ha hb I h fun v u s2 x y H2 I2 rx ry q=>hr a b pins s2 σ H2 x y v u Q I2 rx ry q (hs _ _))
def rIxL(K:PySem.W.Frag):R2:=fun x y H Q=>∃ p xs i v,x=.ref p/\y=.int i/\SqL K H p xs/\atI xs i=some v/\Q v H
def rIxT(K:PySem.W.Frag):R2:=fun x y H Q=>∃ p xs i v,x=.ref p/\y=.int i/\SqT K H p xs/\atI xs i=some v/\Q v H
def rIxS:R2:=fun x y H Q=>∃ z i c,x=.str z/\y=.int i/\z.length<=sizeLine/\atI z.cps.toList i=some c/\Q (.str ⟨#[c]⟩) H
theorem ix_list:IxR X (rIxL X.K):=by
 intro value slice pins s σ H x y v u Q I rx ry h hs
 obtain⟨p,xs,i,z,rfl,rfl,hq,he,q⟩:=h
 cases rx
 obtain⟨t,rfl⟩:=ry
 obtain⟨its,r,pl,hz⟩:=I.list hq
 obtain⟨j,h1,h2,h3,h4,h5⟩:=z4n he
 obtain⟨w,ew,rw'⟩:=r.get h2
 have hl:=r.length
 have hn:=line63
 have fin:EP X pins σ Q w s:=⟨z,H,I,rw',q⟩
 by_cases h0:0<=i
 ·have hj:i.toNat=j:=by
   rw[seqIndex_of h0 h5]at h1
   exact Option.some.inj h1
  exact item_listR pl.isList h0 (by omega) (by rw[hj];simpa using ew) fin hs
 ·have hj:(i + (its.toArray.size:Int)).toNat=j:=by
   rw[seqIndex_neg (by omega) h4]at h1
   rw[List.size_toArray,<- hl]
   exact Option.some.inj h1
  exact subscriptTail_builtinR (x:=w) pl.isList.typeIs slot_list_getitem.lookup
   (wpAny_getItem_list_neg (Q:=fun r s'=>r=w/\EP X pins σ Q r s') pl.isList (by omega) (by rw[List.size_toArray] <;> omega) (by omega) (by rw[hj];simpa using ew) ⟨rfl,fin⟩) hs
theorem ix_tup:IxR X (rIxT X.K):=by
 intro value slice pins s σ H x y v u Q I rx ry h hs
 obtain⟨p,xs,i,z,rfl,rfl,hq,he,q⟩:=h
 cases rx
 obtain⟨t,rfl⟩:=ry
 obtain⟨its,r,pl,hz⟩:=I.tuple hq
 obtain⟨j,h1,h2,h3,h4,h5⟩:=z4n he
 obtain⟨w,ew,rw'⟩:=r.get h2
 have hl:=r.length
 have hn:=line63
 have fin:EP X pins σ Q w s:=⟨z,H,I,rw',q⟩
 exact subscriptTail_builtinR (x:=w) pl.typeIs slot_tuple_getitem.lookup
  (getItem_tuple (j:=j) (Q:=fun r s'=>r=w/\EP X pins σ Q r s') pl (by omega) (by omega) (by rw[List.size_toArray,<- hl];exact h1) (by simpa using ew) ⟨rfl,fin⟩) hs
theorem zcH:IxR X rIxS:=by
 intro value slice pins s σ H x y v u Q I rx ry h hs
 obtain⟨z,i,c,rfl,rfl,hz,he,q⟩:=h
 obtain⟨t,rfl⟩:=rx
 obtain⟨t',rfl⟩:=ry
 obtain⟨j,h1,h2,h3,h4,h5⟩:=z4n he
 have hl:z.cps.toList.length=z.length:=by simp[Str.length]
 rw[hl]at h1 h4 h5
 have hn:=line63
 exact tail_any (typeIs_str s z t) slot_str_getitem.lookup (getItem_str (c:=c) (by
  have e1:decide (i < -(2 ^ 63:Int))=false:=decide_eq_false (by omega)
  have e2:decide (i ≥ 2 ^ 63)=false:=decide_eq_false (by omega)
  rw[e1,e2,Bool.or_false]) (by rw[h1];simpa using h2) ⟨.str ⟨#[c]⟩,H,I.tok _,⟨_,rfl⟩,q⟩) hs
def rIx(K:PySem.W.Frag):R2:=fun x y H Q=>rIxL K x y H Q\/rIxT K x y H Q\/rIxS x y H Q
theorem ix_seq:IxR X (rIx X.K):=ix_list.or (ix_tup.or zcH)
theorem z7I(its:List Value)(n j:Nat)(u:Value):Obj.mapSeq (·.setIfInBounds j u) {cls:=.type "list",data:=.seq its.toArray n}={cls:=.type "list",data:=.seq (its.set j u).toArray n}:=by
 simp[Obj.mapSeq]
theorem Inv.lst{pins:List (Addr × Obj)}{σ:St}{H:Hp}{s:Shared}{p:Addr}{xs:List V}(I:Inv X pins σ H s)(h:H p=some (.lst xs)) :
  ∃ (its:List Value) (n:Nat),Vals xs its/\s.heap.get? p=some {cls:=.type "list",data:=.seq its.toArray n}/\xs.length<=sizeLine:=by
 obtain⟨z,its,n,r,e⟩:=I.hok p _ h
 exact⟨its,n,r,e,z⟩
theorem Inv.lstUpd{pins:List (Addr × Obj)}{σ:St}{H:Hp}{s:Shared}{p:Addr}{xs ys:List V}{its its':List Value}{n n':Nat}{f:Obj->Obj}(I:Inv X pins σ H s)(h:H p=some (.lst xs))
  (ho:s.heap.get? p=some {cls:=.type "list",data:=.seq its.toArray n}) (hf:f {cls:=.type "list",data:=.seq its.toArray n}={cls:=.type "list",data:=.seq its'.toArray n'}) (r:Vals ys its') (hz:ys.length<=sizeLine) (t:Nat) :
  Inv X pins σ (upd H p (.lst ys)) {s with heap:=s.heap.update p f,toks:=t}:=by
 have e:(s.heap.update p f).get? p=some {cls:=.type "list",data:=.seq its'.toArray n'}:=by
  rw[Heap.get?_update_self f ho (by rw[hf] <;> rfl),hf]
 refine I.write (x:=p) (e:=p) (by rw[h];trivial) (.inl rfl) (fun b u hb q=>(Heap.get?_update_other _ _ (Ne.symm hb)).trans q) ⟨_,e⟩ ?_
 exact⟨hz,its',n',r,e⟩
def rSetL:V->V->V->Hp->(Hp->Prop)->Prop:=fun o i v H Q=>∃ p xs k j,o=.ref p/\i=.int k/\H p=some (.lst xs)/\ixN xs.length k=some j/\Q (upd H p (.lst (xs.set j v)))
theorem z4o:PSet X rSetL:=by
 intro pins s σ H o i v ov iv u Q I ro ri rv h
 obtain⟨p,xs,k,j,rfl,rfl,hp,hj,q⟩:=h
 cases ro
 obtain⟨t,rfl⟩:=ri
 obtain⟨its,n,r,ho,hz⟩:=I.lst hp
 obtain⟨h1,h2,h3,h4⟩:=z8l hj
 have hl:=r.length
 have hn:=line63
 have I':Inv X pins σ (upd H p (.lst (xs.set j v))) {s with heap:=s.heap.update p (Obj.mapSeq (·.setIfInBounds j u))} :=
  I.lstUpd hp ho (z7I its n j u) (r.set rv j) (by rw[List.length_set];exact hz) s.toks
 by_cases h0:0<=k
 ·have hk:k.toNat=j:=by
   rw[seqIndex_of h0 h4]at h1
   exact Option.some.inj h1
  exact PySem.W.ki_setAt ho h0 (by omega) (by rw[List.size_toArray,<- hl];exact h4) (by rw[hk];exact⟨_,I',q⟩)
 ·have hk:(k + (its.toArray.size:Int)).toNat=j:=by
   rw[seqIndex_neg (by omega) h3]at h1
   rw[List.size_toArray,<- hl]
   exact Option.some.inj h1
  exact PySem.W.ki_setBack ho (by omega) (by rw[List.size_toArray,<- hl];exact h3) (by omega) (by rw[hk];exact⟨_,I',q⟩)
theorem z5e(lo hi:Option Int)(n:Nat):(sliceBounds lo hi none n).1=((HT.sIx n 0 lo:Nat):Int)/\(sliceBounds lo hi none n).2.1=((HT.sIx n n hi:Nat):Int)/\(sliceBounds lo hi none n).2.2=1:=by
 refine⟨?_,?_,rfl⟩
 ·cases lo with
  | none=>simp[sliceBounds,HT.sIx]
  | some i =>
   simp only[sliceBounds,HT.sIx,Option.getD_none,show(1:Int) > 0 by decide,if_true]
   by_cases h:i < 0
   ·simp only[h,if_true] <;> omega
   ·simp only[h,if_false] <;> omega
 ·cases hi with
  | none=>simp[sliceBounds,HT.sIx]
  | some i =>
   simp only[sliceBounds,HT.sIx,Option.getD_none,show(1:Int) > 0 by decide,if_true]
   by_cases h:i < 0
   ·simp only[h,if_true] <;> omega
   ·simp only[h,if_false] <;> omega
theorem z4p(its:List Value)(lo hi:Option Int):slicePick its.toArray lo hi none=((its.drop (HT.sIx its.length 0 lo)).take (HT.sIx its.length its.length hi - HT.sIx its.length 0 lo)).toArray:=by
 obtain⟨h1,h2,h3⟩:=z5e lo hi its.toArray.size
 unfold slicePick
 rw[h1,h2,h3]
 simp only[sliceRange_one,pick_run,List.size_toArray] <;> rfl
def rSlL(K:PySem.W.Frag):V->Option Int->Option Int->Hp->VK->Prop:=fun x lo hi H Q=>∃ a xs,x=.ref a/\SqL K H a xs/\∀ p,H p=none->Q (.ref p) (upd H p (.lst (cutV xs lo hi)))
theorem sl_list:SlR X (rSlL X.K):=by
 intro pins s σ H x v vl vu lo hi sl Q I rx hs pl pu h
 obtain⟨a,xs,rfl,hx,q⟩:=h
 cases rx
 obtain⟨its,r,ht,hz⟩:=I.list hx
 have hlen:=r.length
 refine⟨"list",_,slot_list_getitem.lookup,ht.isList.typeIs,?_⟩
 refine wpAny_getItem_list_slice ht.isList hs pl pu .none (by simp) ?_ (by rw[List.size_toArray] <;> omega)
 rw[z4p,<- hlen]
 refine⟨.ref s.heap.objs.size,_,I.laid (t':=s.toks) (o:=.lst (cutV xs lo hi)) (fun b ob q=>Heap.get?_push_of_some _ q) (Nat.le_refl _) ?_,rfl,q _ (I.hok.fresh (Nat.le_refl _))⟩
 exact⟨Nat.le_trans (z3y xs lo hi) hz,_,0,(r.drop (HT.sIx xs.length 0 lo)).take (HT.sIx xs.length xs.length hi - HT.sIx xs.length 0 lo),Heap.get?_push_size _ rfl⟩
theorem z3f:CallR X (.builtin "len") (fun xs H Q=>∃ p ys,xs=[.ref p]/\(SqL X.K H p ys\/SqT X.K H p ys)/\Q (.int ys.length) H):=by
 intro pins s σ H xs us Q I r h
 obtain⟨p,ys,rfl,hq,q⟩:=h
 obtain⟨u,rfl,rx⟩:=vals1 r
 cases rx
 have hn:=line63
 rcases hq with hq | hq
 ·obtain⟨its,r',pl,hz⟩:=I.list hq
  have hlen:=r'.length
  exact Calls.call_len_list pl.isList (by simp only[List.size_toArray] <;> omega) ⟨.int ys.length,H,I.tok _,⟨s.toks + 1,by rw[List.size_toArray,hlen]⟩,q⟩
 ·obtain⟨its,r',pl,hz⟩:=I.tuple hq
  have hlen:=r'.length
  exact len_tuple pl (by simp only[List.size_toArray] <;> omega) ⟨.int ys.length,H,I.tok _,⟨s.toks + 1,by rw[List.size_toArray,hlen]⟩,q⟩
theorem z1O:CallR X (.type "list") (fun xs H Q=>∃ p ys,xs=[.ref p]/\(SqL X.K H p ys\/SqT X.K H p ys)/\∀ l,H l=none->Q (.ref l) (upd H l (.lst ys))):=by
 intro pins s σ H xs us Q I r h
 obtain⟨p,ys,rfl,hq,q⟩:=h
 obtain⟨u,rfl,rx⟩:=vals1 r
 cases rx
 have fin:∀ (its:List Value),Vals ys its->ys.length<=sizeLine->∀ (h':Heap) (c':Nat),(∀ b o',s.heap.get? b=some o'->h'.get? b=some o') ->
   h'.get? s.heap.objs.size=some {cls:=.type "list",dict:=none,data:=.seq its.toArray c',slots:=#[]}->EP X pins σ Q (.ref s.heap.objs.size) {s with heap:=h'}:=fun its r' hz h' c' kp e =>
  ⟨.ref s.heap.objs.size,_,I.laid (t':=s.toks) kp (Nat.le_refl _) (show ObjOk X.prog X.w _ h' _ (.lst ys) from⟨hz,its,c',r',e⟩),rfl,q _ (I.hok.fresh (Nat.le_refl _))⟩
 rcases hq with hq | hq
 ·obtain⟨its,r',pl,hz⟩:=I.list hq
  have hlen:=r'.length
  obtain⟨o,ho,hc,n,hd⟩:=pl.isList
  exact call_list_seq p (.inl rfl) ho hc hd (fun h' c' kp e=>fin its r' hz h' c' kp e) (by simp only[List.size_toArray] <;> omega)
 ·obtain⟨its,r',pl,hz⟩:=I.tuple hq
  have hlen:=r'.length
  obtain⟨o,ho,hc,n,hd⟩:=pl
  exact call_list_seq p (.inr rfl) ho hc hd (fun h' c' kp e=>fin its r' hz h' c' kp e) (by simp only[List.size_toArray] <;> omega)
theorem z4q:CallR X (.type "tuple") (fun xs H Q=>∃ p ys,xs=[.ref p]/\((SqL X.K H p ys/\∀ l,H l=none->Q (.ref l) (upd H l (.tup ys)))\/(SqT X.K H p ys/\Q (.ref p) H))):=by
 intro pins s σ H xs us Q I r h
 obtain⟨p,ys,rfl,h⟩:=h
 obtain⟨u,rfl,rx⟩:=vals1 r
 cases rx
 rcases h with ⟨hq,q⟩ | ⟨hq,q⟩
 ·obtain⟨its,r',pl,hz⟩:=I.list hq
  have hlen:=r'.length
  refine call_tuple_list pl.isList (fun h' kp=>?_) (by simp only[List.size_toArray] <;> omega)
  have I1:Inv X pins σ H {s with heap:=h'}:=I.kept (t':=s.toks) kp
  have I2:Inv X pins σ (upd H h'.objs.size (.tup ys)) {s with heap:=h'.push {cls:=.type "tuple",data:=.seq its.toArray}} :=
   I1.laid (t':=s.toks) (fun b o e=>Heap.get?_push_of_some _ e) (Nat.le_refl _) (show ObjOk X.prog X.w _ _ _ (.tup ys) from⟨hz,its,r',IsTup.new _ _⟩)
  exact⟨.ref h'.objs.size,_,I2,rfl,q _ (I1.hok.fresh (Nat.le_refl _))⟩
 ·obtain⟨its,r',pl,hz⟩:=I.tuple hq
  exact call_tuple_same pl ⟨.ref p,H,I,rfl,q⟩
def tyV(K:PySem.W.Frag)(T:String)(x:V)(H:Hp):Prop:=match x with
 | .str _=>T="str"
 | .int _=>T="int"
 | .ref p=>(T="list"/\∃ xs,SqL K H p xs)\/(T="tuple"/\∃ o,K.lookup p=some o/\o.cls=.type "tuple"/\o.dict=none) \/
   (T="dict"/\((∃ kvs,H p=some (.dK kvs))\/∃ kvs,H p=some (.dT kvs)))\/(T="set"/\∃ S n,H p=some (.set S n))
 | _=>False
theorem zaA{pins:List (Addr × Obj)}{σ:St}{H:Hp}{s:Shared}{T:String}{x:V}{v:Value}(I:Inv X pins σ H s)(r:RelV x v)(ty:tyV X.K T x H) :
  s.TypeIs v T/\∀ a,v=.ref a->∃ ob,s.heap.get? a=some ob/\ob.dict=none:=by
 cases x with
 | str z =>
  obtain⟨t,rfl⟩:=r
  cases (show T="str" from ty)
  exact⟨typeIs_str s z t,fun _ e=>nomatch e⟩
 | int i =>
  obtain⟨t,rfl⟩:=r
  cases (show T="int" from ty)
  exact⟨typeIs_int s i t,fun _ e=>nomatch e⟩
 | ref p =>
  cases r
  rcases ty with ⟨rfl,xs,hq⟩ | ⟨rfl,o,hk,hc,hd⟩ | ⟨rfl,hk⟩ | ⟨rfl,S,n,hk⟩
  ·obtain⟨its,_,pl,_⟩:=I.list hq
   refine⟨pl.isList.typeIs,fun a e=>?_⟩
   cases e
   obtain⟨o,n,e,c,hd,_⟩:=pl
   exact⟨o,e,hd⟩
  ·refine⟨⟨o,I.kIn p o hk,hc⟩,fun a e=>?_⟩
   cases e
   exact⟨o,I.kIn _ o hk,hd⟩
  ·have z:∃ o,s.heap.get? p=some o/\o.ExactDict:=by
    rcases hk with ⟨kvs,hk⟩ | ⟨kvs,hk⟩
    ·obtain⟨_,_,_,_,o,_,_,e,ex,_⟩:=I.hok p _ hk
     exact⟨o,e,ex⟩
    ·obtain⟨_,_,_,_,o,_,_,e,ex,_⟩:=I.hok p _ hk
     exact⟨o,e,ex⟩
   obtain⟨o,e,ex⟩:=z
   refine⟨⟨o,e,ex.1⟩,fun a e2=>?_⟩
   cases e2
   exact⟨o,e,ex.2.1⟩
  ·obtain⟨o,_,_,_,e,ex,_⟩:=I.hok p _ hk
   refine⟨⟨o,e,ex.1⟩,fun a e2=>?_⟩
   cases e2
   exact⟨o,e,ex.2.1⟩
 | _=>exact False.elim ty
def tBM0(K:PySem.W.Frag)(T:String)(r:V->List V->Hp->VK->Prop)(to:TE):TE:=fun σ H Q=>to σ H fun x H1=>tyV K T x H1/\r x [] H1 Q
def tBM(K:PySem.W.Frag)(T:String)(r:V->List V->Hp->VK->Prop)(to:TE)(t:TA):TE:=fun σ H Q=>to σ H fun x H1=>tyV K T x H1/\t σ H1 fun xs H2=>r x xs H2 Q
variable {o e:Expr} {es:List Expr} {to:TE} {t:TA} {name:Str} {apos cpos:Pos} {T id:String} {r:V->List V->Hp->VK->Prop}
theorem z6Y(pa:PlainAttrs T)(slot:Slot T name id)(hty:typeOf (.builtin id)=pure (.type "method_descriptor"))(hm:MtR X id r)(ho:PE X o to)
  (hbase:attributeBase o name X.env (eval o X.env)=eval o X.env:=by rfl) (hline:(apos.endLine == cpos.line)=true:=by rfl):PE X (.Call (.Attribute o name apos) [] [] cpos) (tBM0 X.K T r to):=by
 intro pins s σ H Q I h
 refine wpAny_Call_method0_late hbase hline (thn (ho pins s σ H _ I h) fun v s1 zfr=>?_)
 obtain⟨x,H1,I1,r1,ty,q1⟩:=zfr
 obtain⟨h1,h2⟩:=zaA I1 r1 ty
 exact⟨T,id,pa,slot,hty,h1,h2,Calls.callWith_builtin rfl (PySem.evalArgs_none (hm pins s1 σ H1 x [] v [] Q I1 r1 .nil q1))⟩
theorem zeI(pa:PlainAttrs T)(slot:Slot T name id)(hty:typeOf (.builtin id)=pure (.type "method_descriptor"))(hm:MtR X id r)(ho:PE X o to)(ha:PA X (e::es) t)
  (hbase:attributeBase o name X.env (eval o X.env)=eval o X.env:=by rfl)
  (hfew:((backTo cpos (starEach (e::es) X.env)).all (fun x=>!x.1) && (backToKw cpos (keywordEach [] X.env)).all (fun x=>x.1.isSome)
   && decide ((e::es).length + ([]:List Keyword).length + (if ([]:List Keyword).isEmpty then 0 else 1) < 30))=true:=by rfl)
  (hline:(apos.endLine == cpos.line)=true:=by rfl) (hs:starEach (e::es) X.env=(false,eval e X.env)::starEach es X.env:=by rfl) (hplain:(backTo cpos (starEach es X.env)).any (·.1)=false:=by rfl) :
  PE X (.Call (.Attribute o name apos) (e::es) [] cpos) (tBM X.K T r to t):=by
 intro pins s σ H Q I h
 refine wpAny_Call_method_late hbase hfew hline rfl (thn (ho pins s σ H _ I h) fun v s1 zfs=>?_)
 obtain⟨x,H1,I1,r1,ty,q1⟩:=zfs
 obtain⟨h1,h2⟩:=zaA I1 r1 ty
 refine⟨T,id,pa,slot,hty,h1,h2,?_⟩
 have hA:=ha cpos pins s1 σ H1 _ I1 q1
 rw[hs]at hA ⊢
 refine Calls.callWith_builtin (by show(false || (backTo cpos (starEach es X.env)).any (·.1))=false;rw[hplain] <;> rfl) (Calls.evalArgs_plain ?_)
 exact thn hA fun us s2 zft=>(by obtain⟨vs,H2,I2,r2,q2⟩:=zft;exact hm pins s2 σ H2 x vs v us Q I2 r1 r2 q2)
end
end L2
namespace L2
open PySem PySem.Spec PyProof.Rows
def MtM(X:Cx)(id:String)(r:V->List V->Hp->VK->Prop):Prop :=
 ∀ (pins:List (Addr × Obj)) (s:Shared) (σ:St) (H:Hp) (x:V) (xs:List V) (v:Value) (us:List Value) (Q:VK),Inv X pins σ H s->RelV x v->Vals xs us->r x xs H Q ->
  wpAny (model X.prog X.w) X.A (call (.builtin id) (v::us)) (EP X pins σ Q) X.xe s
theorem Vals.one{x:V}{us:List Value}(h:Vals [x] us):∃ u,us=[u]/\RelV x u:=by
 cases h with
 | cons r h =>
  cases h
  exact⟨_,rfl,r⟩
theorem Vals.zero:∀ {us:List Value},Vals [] us->us=[]
 | _,.nil=>rfl
theorem Vals.dropLast{xs:List V}{us:List Value}(h:Vals xs us):Vals xs.dropLast us.dropLast:=by
 induction h with
 | nil=>exact .nil
 | cons r t ih =>
  cases t with
  | nil=>exact .nil
  | cons q t'=>exact .cons r ih
theorem Vals.rep{xs:List V}{us:List Value}(h:Vals xs us):∀ k:Nat,Vals (List.replicate k xs).flatten (List.replicate k us).flatten
 | 0=>.nil
 | k + 1=>by
  rw[List.replicate_succ,List.replicate_succ,List.flatten_cons,List.flatten_cons]
  exact Vals.append h (Vals.rep h k)
theorem z7J{α:Type}(l:List α):l.eraseIdx (l.length - 1)=l.dropLast:=by
 induction l with
 | nil=>rfl
 | cons a r ih =>
  cases r with
  | nil=>rfl
  | cons b r =>
   have e:(a::b::r).length - 1=((b::r).length - 1) + 1:=by
    have h1:(a::b::r).length=r.length + 2:=rfl
    have h2:(b::r).length=r.length + 1:=rfl
    omega
   rw[e,List.eraseIdx_cons_succ,ih]
   all_goals rfl
theorem z5f(its:List Value):∀ (k:Nat) (acc:List Value),
  List.foldl (fun x1 x2=>x1++x2) acc.toArray (List.replicate k its.toArray)=(acc++(List.replicate k its).flatten).toArray
 | 0,acc=>by simp
 | k + 1,acc=>by
  have e:acc.toArray++its.toArray=(acc++its).toArray:=by simp
  have e2:(acc++its)++(List.replicate k its).flatten=acc++(List.replicate (k + 1) its).flatten:=by
   rw[List.replicate_succ,List.flatten_cons,List.append_assoc]
  rw[<- e2,<- z5f its k (acc++its),<- e,List.replicate_succ,List.foldl_cons]
section
variable {X:Cx} {pins:List (Addr × Obj)} {σ:St} {H:Hp} {s:Shared} {l b:Addr} {xs ys zs:List V}
theorem Inv.lset{its its':List Value}{n:Nat}{f:Array Value->Array Value}{t':Nat}(I:Inv X pins σ H s)(hH:H l=some (.lst xs))
  (e:s.heap.get? l=some {cls:=.type "list",data:=.seq its.toArray n}) (hf:f its.toArray=its'.toArray) (hv:Vals ys its') (hz:ys.length<=sizeLine) :
  Inv X pins σ (upd H l (.lst ys)) {s with heap:=s.heap.update l (Obj.mapSeq f),toks:=t'}:=by
 have q:=PySem.IsL.update e f
 rw[hf]at q
 refine I.write (x:=l) (e:=l) (by rw[hH];exact trivial) (.inl rfl) (fun b' u hb hu=>(Heap.get?_update_other s.heap (Obj.mapSeq f) (Ne.symm hb)).trans hu) ⟨_,q⟩ ?_
 exact⟨hz,its',_,hv,q⟩
theorem Inv.lnew{its:List Value}{t':Nat}(I:Inv X pins σ H s)(hv:Vals ys its)(hz:ys.length<=sizeLine) :
  Inv X pins σ (upd H s.heap.objs.size (.lst ys)) {s with heap:=s.heap.push {cls:=.type "list",data:=.seq its.toArray},toks:=t'} :=
 I.laid (fun _ _ q=>Heap.get?_push_of_some _ q) (Nat.le_refl _) ⟨hz,its,0,hv,Heap.get?_push_size _ rfl⟩
theorem Inv.fresh(I:Inv X pins σ H s):H s.heap.objs.size=none:=I.hok.fresh (Nat.le_refl _)
theorem Inv.lstM(I:Inv X pins σ H s)(hH:H l=some (.lst xs)):xs.length<=sizeLine/\∃ (its:List Value) (n:Nat),Vals xs its/\xs.length=its.length/\s.heap.get? l=some {cls:=.type "list",data:=.seq its.toArray n}:=by
 obtain⟨z,its,n,r,e⟩:=I.hok l _ hH
 exact⟨z,its,n,r,r.length,e⟩
theorem notLongL{n:Nat}(h:n<=sizeLine):Builtin.List.listTooLong n=false:=by
 unfold Builtin.List.listTooLong
 exact decide_eq_false (by omega)
end
section
variable {X:Cx}
def rAppend:V->List V->Hp->VK->Prop:=fun x vs H Q=>∃ l xs y,x=.ref l/\vs=[y]/\H l=some (.lst xs)/\xs.length < sizeLine/\Q .non (upd H l (.lst (xs++[y])))
theorem z8m:MtM X "list.append" rAppend:=by
 intro pins s σ H x vs v us Q I rx rv h
 obtain⟨l,xs,y,rfl,rfl,hH,hz,q⟩:=h
 cases rx
 obtain⟨u,rfl,ru⟩:=rv.one
 obtain⟨z,its,n,r,hl,e⟩:=I.lstM hH
 refine call_meets F.slot_list_append ⟨_,e,rfl⟩ F.entry_list_append (F.args_list_append_2 _ _) (PySem.list_append l its.toArray n u (by rw[List.size_toArray];omega)) ⟨e,?_⟩
 refine⟨.non,_,I.lset (its':=its++[u]) hH e (by simp) (r.append (.cons ru .nil)) ?_,rfl,q⟩
 rw[List.length_append,List.length_singleton]
 omega
def rPop:V->List V->Hp->VK->Prop:=fun x vs H Q=>∃ l xs y,x=.ref l/\vs=[]/\H l=some (.lst xs)/\xs[xs.length - 1]?=some y/\Q y (upd H l (.lst xs.dropLast))
theorem zaB:MtM X "list.pop" rPop:=by
 intro pins s σ H x vs v us Q I rx rv h
 obtain⟨l,xs,y,rfl,rfl,hH,hy,q⟩:=h
 cases rx
 have hus:=rv.zero
 subst hus
 obtain⟨z,its,n,r,hl,e⟩:=I.lstM hH
 obtain⟨u,hu,ru⟩:=r.get hy
 have hy':its.toArray[its.toArray.size - 1]?=some u:=by
  show its.toArray[its.length - 1]?=some u
  rw[<- Array.getElem?_toList,<- hl]
  exact hu
 refine call_meets F.slot_list_pop ⟨_,e,rfl⟩ F.entry_list_pop (F.args_list_pop_1 _) (MeetsSeq.list_pop_last l its.toArray n u hy' (by rw[List.size_toArray];omega)) ⟨e,?_⟩
 refine⟨y,_,I.lset (its':=its.dropLast) hH e ?_ r.dropLast ?_,ru,q⟩
 ·show its.toArray.eraseIdxIfInBounds (its.toArray.size - 1)=its.dropLast.toArray
  rw[List.size_toArray,List.eraseIdxIfInBounds_toArray,z7J]
 ·rw[List.length_dropLast]
  omega
def rClear:V->List V->Hp->VK->Prop:=fun x vs H Q=>∃ l xs,x=.ref l/\vs=[]/\H l=some (.lst xs)/\Q .non (upd H l (.lst []))
theorem z9P:MtM X "list.clear" rClear:=by
 intro pins s σ H x vs v us Q I rx rv h
 obtain⟨l,xs,rfl,rfl,hH,q⟩:=h
 cases rx
 have hus:=rv.zero
 subst hus
 obtain⟨z,its,n,r,hl,e⟩:=I.lstM hH
 refine call_meets F.slot_list_clear ⟨_,e,rfl⟩ F.entry_list_clear (F.args_list_clear_1 _) (AutoSeq1.list_clear_list_0 l its.toArray n (by rw[List.size_toArray];omega)) ⟨e,?_⟩
 exact⟨.non,_,I.lset (its':=[]) (ys:=[]) hH e rfl .nil (Nat.zero_le _),rfl,q⟩
def rCat:R2:=fun x y H Q=>∃ l b xs zs,x=.ref l/\y=.ref b/\H l=some (.lst xs)/\H b=some (.lst zs)/\xs.length + zs.length<=sizeLine/\∀ p,H p=none->Q (.ref p) (upd H p (.lst (xs++zs)))
theorem zcI:OpR X (binaryOp .Add) rCat:=by
 intro pins s σ H x y v u Q I rx ry h
 obtain⟨l,b,xs,zs,rfl,rfl,hH,hB,hz,q⟩:=h
 cases rx
 cases ry
 obtain⟨z,its,n,r,hl,e⟩:=I.lstM hH
 obtain⟨z2,its2,n2,r2,hl2,e2⟩:=I.lstM hB
 refine PySem.P.add_list e e2 ?_ (by rw[List.size_toArray,List.size_toArray];omega)
 have ea:its.toArray++its2.toArray=(its++its2).toArray:=by simp
 rw[ea]
 exact⟨.ref _,_,I.lnew (t':=s.toks) (r.append r2) (by rw[List.length_append];omega),rfl,q _ I.fresh⟩
def rRep:R2:=fun x y H Q=>∃ l k xs,x=.ref l/\y=.int k/\H l=some (.lst xs)/\-(2 ^ 63)<=k/\k < 2 ^ 63/\xs.length * k.toNat<=sizeLine /\
 ∀ p,H p=none->Q (.ref p) (upd H p (.lst (List.replicate k.toNat xs).flatten))
theorem len_rep{α:Type}(xs:List α)(k:Nat):(List.replicate k xs).flatten.length=k * xs.length:=by
 induction k with
 | zero=>simp
 | succ k ih=>rw[List.replicate_succ,List.flatten_cons,List.length_append,ih,Nat.succ_mul,Nat.add_comm]
theorem zaC:OpR X (binaryOp .Mult) rRep:=by
 intro pins s σ H x y v u Q I rx ry h
 obtain⟨l,k,xs,rfl,rfl,hH,h1,h2,hz,q⟩:=h
 cases rx
 obtain⟨t,rfl⟩:=ry
 obtain⟨z,its,n,r,hl,e⟩:=I.lstM hH
 have hlen:its.toArray.size * k.toNat<=sizeLine:=by rw[List.size_toArray,<- hl];exact hz
 have hcap:¬ its.toArray.size * k.toNat > (2 ^ 63 - 1) / 8:=by
  have:(sizeLine:Nat)<=(2 ^ 63 - 1) / 8:=by decide
  omega
 have hfit:¬ (!Builtin.List.listFitsIndex k)=true:=by
  rw[fitsIndex_both h1 h2]
  exact Bool.false_ne_true
 have hlong:¬ Builtin.List.listTooLong (its.toArray.size * k.toNat)=true:=by
  rw[notLongL hlen]
  exact Bool.false_ne_true
 have hnew:List.foldl (fun x1 x2=>x1++x2) #[] (List.replicate (if its.toArray.isEmpty=true then 0 else k.toNat) its.toArray)=(List.replicate k.toNat its).flatten.toArray:=by
  have f0:∀ m:Nat,List.foldl (fun x1 x2=>x1++x2) #[] (List.replicate m its.toArray)=(List.replicate m its).flatten.toArray:=fun m=>by
   have:=z5f its m []
   rw[List.nil_append]at this
   exact this
  rw[f0]
  cases its with
  | nil=>simp
  | cons a r'=>rw[if_neg (by simp)]
 refine wpAny_binaryOp_repeat_ref (T:="list") (U:="int") (by decide) ⟨_,e,rfl⟩ (fun s'=>typeIs_int s' k t) noFill_list_mul F.fills_int_mul F.slot_int_rmul repeat_list F.slot_int_index.lookup
  (call_meets F.slot_int_rmul (typeIs_int s k t) F.entry_int_rmul (F.args_int_rmul_2 _ _) (int___rmul___int_list k t l its.toArray n)
   ⟨e,rfl,⟨_,e,rfl⟩,call_meets F.slot_list_mul ⟨_,e,rfl⟩ F.entry_list_mul (F.args_list_mul_2 _ _) (AutoListH.list___mul___list_int_3 l its.toArray n k t hfit hcap hlong) ⟨e,?_⟩⟩)
 rw[hnew]
 exact⟨.ref _,_,I.lnew (t':=s.toks) (r.rep k.toNat) (by rw[len_rep,Nat.mul_comm];exact hz),rfl,q _ I.fresh⟩
end
section
variable {prog:Program} {w:World} {A:Around} {E:Value->Shared->Prop} {s:Shared}
end
section
variable {X:Cx}
end
end L2
namespace L2
open PySem PySem.Spec PyProof.Rows
section
variable {κ:Type} [DecidableEq κ]
def valV(kvs:List (κ × V))(k:κ):Option V:=(kvs.find? fun kv=>decide (kv.1=k)).map (·.2)
def putK(kvs:List (κ × V))(k:κ)(v:V):List (κ × V) :=
 if (kvs.any fun kv=>decide (kv.1=k))=true then kvs.map (fun kv=>if kv.1=k then (kv.1,v) else kv) else kvs++[(k,v)]
theorem z2H{p:κ × V}{r:List (κ × V)}{k:κ}(e:p.1=k):valV (p::r) k=some p.2:=by simp[valV,List.find?_cons,e]
theorem z3r{p:κ × V}{r:List (κ × V)}{k:κ}(e:¬ p.1=k):valV (p::r) k=valV r k:=by simp[valV,List.find?_cons,e]
theorem z4r(k:κ):∀ kvs:List (κ × V),(kvs.any fun kv=>decide (kv.1=k))=(valV kvs k).isSome
 | []=>rfl
 | p::r=>by
  rw[List.any_cons]
  by_cases e:p.1=k
  ·simp only[z2H e,decide_eq_true e,Bool.true_or,Option.isSome_some]
  ·rw[z3r e,decide_eq_false e,Bool.false_or];exact z4r k r
theorem z2o(kvs:List (κ × V))(k:κ)(v:V):(putK kvs k v).length<=kvs.length + 1:=by
 unfold putK
 split
 ·rw[List.length_map];omega
 ·rw[List.length_append,List.length_cons,List.length_nil];omega
theorem RelO.isSome_eq{o:Option V}{u:Option Value}(r:RelO o u):o.isSome=u.isSome:=by
 cases o with
 | none=>cases u with
  | none=>rfl
  | some _=>exact(show False from r).elim
 | some _=>cases u with
  | none=>exact(show False from r).elim
  | some _=>rfl
theorem KV.val{kvs:List (κ × V)}{vs:List (κ × Value)}(r:KV kvs vs)(k:κ):RelO (valV kvs k) (valueAt vs k):=by
 unfold KV at r
 induction r with
 | nil=>exact True.intro
 | @cons p q ps qs h t ih =>
  obtain⟨h1,h2⟩:=h
  by_cases e:p.1=k
  ·have e':q.1=k:=h1.symm.trans e
   have b:valueAt (q::qs) k=some q.2:=by simp[valueAt,List.find?_cons,e']
   rw[z2H e,b];exact h2
  ·have e':¬ q.1=k:=fun z=>e (h1.trans z)
   have b:valueAt (q::qs) k=valueAt qs k:=by simp[valueAt,List.find?_cons,e']
   rw[z3r e,b];exact ih
theorem KV.any{kvs:List (κ × V)}{vs:List (κ × Value)}(r:KV kvs vs)(k:κ):(kvs.any fun kv=>decide (kv.1=k))=vs.any fun kv=>decide (kv.1=k):=by
 unfold KV at r
 induction r with
 | nil=>rfl
 | cons h t ih=>rw[List.any_cons,List.any_cons,ih,h.1]
theorem KV.repl{kvs:List (κ × V)}{vs:List (κ × Value)}(r:KV kvs vs)(k:κ){y:V}{u:Value}(ry:RelV y u) :
  KV (kvs.map fun kv=>if kv.1=k then (kv.1,y) else kv) (vs.map fun kv=>if kv.1=k then (kv.1,u) else kv):=by
 unfold KV at r ⊢
 induction r with
 | nil=>exact .nil
 | @cons p q ps qs h t ih =>
  rw[List.map_cons,List.map_cons]
  refine .cons ?_ ih
  obtain⟨h1,h2⟩:=h
  by_cases e:p.1=k
  ·rw[if_pos e,if_pos (h1.symm.trans e)];exact⟨h1,ry⟩
  ·rw[if_neg e,if_neg (fun z=>e (h1.trans z))];exact⟨h1,h2⟩
theorem KV.put{kvs:List (κ × V)}{vs:List (κ × Value)}(r:KV kvs vs)(k:κ){y:V}{u:Value}(ry:RelV y u):KV (putK kvs k y) (stored vs k u):=by
 unfold putK stored
 rw[r.any k]
 by_cases e:(vs.any fun kv=>decide (kv.1=k))=true
 ·rw[if_pos e,if_pos e];exact r.repl k ry
 ·rw[if_neg e,if_neg e];exact Paired.snoc r ⟨rfl,ry⟩
theorem KV.length{kvs:List (κ × V)}{vs:List (κ × Value)}(r:KV kvs vs):kvs.length=vs.length:=Paired.length r
end
theorem z9Q{P:Program}{w:World}{k:Key}{u:Value}(r:RelV (kV k) u):(mixKind P w).is k u=true:=by
 cases k with
 | inl i=>obtain⟨t,e⟩:=(show ∃ t,u=Value.int i t from r);subst e;exact z67 P w i t
 | inr x=>obtain⟨t,e⟩:=(show ∃ t,u=Value.str x t from r);subst e;exact z68 P w x t
theorem z5g{P:Program}{w:World}:∀ {ks:List Key} {us:List Value},Vals (ks.map kV) us->ItemsAre (mixKind P w) ks us
 | [],_,r=>by rw[List.map_nil]at r;cases r;exact .nil
 | k::ks,_,r=>by
  rw[List.map_cons]at r
  cases r with
  | cons h t=>exact .cons (z9Q h) (z5g t)
abbrev KT(H:Hp):List (List Key × V)->List (List Key × Addr × Value)->Prop:=Paired fun p q=>p.1=q.1/\H q.2.1=some (.tup (p.1.map kV))/\RelV p.2 q.2.2
theorem KT.val{H:Hp}{kvs:List (List Key × V)}{xs:List (List Key × Addr × Value)}(r:KT H kvs xs)(k:List Key):RelO (valV kvs k) ((atKey xs k).map (·.2)):=by
 induction r with
 | nil=>exact True.intro
 | @cons p q ps qs h t ih =>
  obtain⟨h1,_,h2⟩:=h
  by_cases e:p.1=k
  ·have e':q.1=k:=h1.symm.trans e
   have b:atKey (q::qs) k=some q.2:=by simp[atKey,List.find?_cons,e']
   rw[z2H e,b];exact h2
  ·have e':¬ q.1=k:=fun z=>e (h1.trans z)
   have b:atKey (q::qs) k=atKey qs k:=by simp[atKey,List.find?_cons,e']
   rw[z3r e,b];exact ih
theorem KT.repl{H:Hp}{kvs:List (List Key × V)}{xs:List (List Key × Addr × Value)}(r:KT H kvs xs)(k:List Key){y:V}{u:Value}(ry:RelV y u) :
  KT H (kvs.map fun kv=>if kv.1=k then (kv.1,y) else kv) (xs.map (putAt k u)):=by
 induction r with
 | nil=>exact .nil
 | @cons p q ps qs h t ih =>
  rw[List.map_cons,List.map_cons]
  refine .cons ?_ ih
  obtain⟨h1,h2,h3⟩:=h
  unfold putAt
  by_cases e:p.1=k
  ·rw[if_pos e,if_pos (h1.symm.trans e)];exact⟨h1,h2,ry⟩
  ·rw[if_neg e,if_neg (fun z=>e (h1.trans z))];exact⟨h1,h2,h3⟩
theorem KT.put{H:Hp}{kvs:List (List Key × V)}{xs:List (List Key × Addr × Value)}(r:KT H kvs xs)(k:List Key){b:Addr}{y:V}{u:Value}(hb:H b=some (.tup (k.map kV)))(ry:RelV y u) :
  KT H (putK kvs k y) (storedH xs k b u):=by
 have e:(kvs.any fun kv=>decide (kv.1=k))=(atKey xs k).isSome:=by
  rw[z4r,(r.val k).isSome_eq,Option.isSome_map]
 unfold putK storedH
 rw[e]
 by_cases q:(atKey xs k).isSome=true
 ·rw[if_pos q,if_pos q];exact r.repl k ry
 ·rw[if_neg q,if_neg q];exact Paired.snoc r ⟨rfl,hb,ry⟩
theorem KT.keeps{H H':Hp}{kvs:List (List Key × V)}{xs:List (List Key × Addr × Value)}(r:KT H kvs xs)(ht:∀ b ys,H b=some (.tup ys)->H' b=some (.tup ys)):KT H' kvs xs :=
 Paired.mapP r fun _ _ z=>⟨z.1,ht _ _ z.2.1,z.2.2⟩
section
variable {P:Program} {w:World} {H:Hp} {h:Heap} {a:Addr}
theorem zcJ{u:HO}(ok:HOk P w H h)(e:Rd H a u):ObjOk P w H h a u:=e.ok ok
theorem zb6{kvs:List (Key × V)}(ok:HOk P w H h)(e:Rd H a (.dK kvs)):kvs.length<=sizeLine/\(a == sysModules)=false/\∃ vs,KV kvs vs/\h.DictOf (mixKind P w) a vs :=
 show ObjOk P w H h a (.dK kvs) from zcJ ok e
theorem zcK{kvs:List (Key × V)}(ok:HOk P w H h)(e:H a=some (.dK kvs)):kvs.length<=sizeLine/\(a == sysModules)=false/\∃ vs,KV kvs vs/\h.DictOf (mixKind P w) a vs:=zb6 ok (.inl e)
theorem z8n{ks:List Key}(ok:HOk P w H h)(e:H a=some (.tup (ks.map kV))):(tupleKind (mixKind P w)).is h ks a:=by
 obtain⟨_,its,r,o,h1,h2,n,h3⟩:=(show ObjOk P w H h a (.tup (ks.map kV)) from ok a _ e)
 exact⟨o,its.toArray,n,h1,h2,h3,by simpa using z5g r⟩
theorem zb7{kvs:List (List Key × V)}(ok:HOk P w H h)(e:Rd H a (.dT kvs)):kvs.length<=sizeLine/\(a == sysModules)=false /\
  ∃ xs,KT H kvs xs/\h.DictOfH (tupleKind (mixKind P w)) a xs:=by
 obtain⟨z,y,xs,r,o,es,ep,h1,h2,h3,h4,h5⟩:=(show ObjOk P w H h a (.dT kvs) from zcJ ok e)
 refine⟨z,y,xs,r,o,es,ep,h1,h2,h3,h4,fun x hx=>?_,h5⟩
 have all:∀ {l:List (List Key × V)} {m:List (List Key × Addr × Value)},KT H l m->∀ x∈m,(tupleKind (mixKind P w)).is h x.1 x.2.1:=by
  intro l m q
  induction q with
  | nil=>intro x hx;exact nomatch hx
  | @cons p q ps qs hq t ih =>
   intro x hx
   rcases List.mem_cons.mp hx with e | hx
   ·subst e
    exact z8n ok (by rw[<- hq.1];exact hq.2.1)
   ·exact ih x hx
 exact all r x hx
theorem zeJ{kvs:List (List Key × V)}(ok:HOk P w H h)(e:H a=some (.dT kvs)):kvs.length<=sizeLine/\(a == sysModules)=false /\
  ∃ xs,KT H kvs xs/\h.DictOfH (tupleKind (mixKind P w)) a xs:=zb7 ok (.inl e)
end
def DGet(H:Hp)(a:Addr)(y:V)(r:Option V):Prop :=
 (∃ kvs k,Rd H a (.dK kvs)/\y=kV k/\r=valV kvs k)\/∃ kvs k b,Rd H a (.dT kvs)/\y=.ref b/\H b=some (.tup (k.map kV))/\r=valV kvs k
def DPut(H:Hp)(a:Addr)(y v:V)(H':Hp):Prop :=
 (∃ kvs k,H a=some (.dK kvs)/\y=kV k/\kvs.length < sizeLine/\H'=upd H a (.dK (putK kvs k v))) \/
 ∃ kvs k b,H a=some (.dT kvs)/\y=.ref b/\H b=some (.tup (k.map kV))/\kvs.length < sizeLine/\H'=upd H a (.dT (putK kvs k v))
theorem DGet.k{H:Hp}{a:Addr}{kvs:List (Key × V)}{k:Key}(e:H a=some (.dK kvs)):DGet H a (kV k) (valV kvs k):=.inl ⟨kvs,k,.inl e,rfl,rfl⟩
theorem DPut.k{H:Hp}{a:Addr}{kvs:List (Key × V)}{k:Key}{v:V}(e:H a=some (.dK kvs))(hl:kvs.length < sizeLine):DPut H a (kV k) v (upd H a (.dK (putK kvs k v))):=.inl ⟨kvs,k,e,rfl,hl,rfl⟩
section
variable {X:Cx} {pins:List (Addr × Obj)} {σ:St} {H:Hp} {s:Shared} {a:Addr} {y v:V} {u r:Value} {o:Option V} {A:Around} {E:Value->Shared->Prop}
theorem Inv.big(I:Inv X pins σ H s):sysModules < s.heap.objs.size:=by
 have h:mainGlobals < s.heap.objs.size:=(I.mod.glob.keeps I.bk).lt
 exact Nat.lt_trans (by decide) h
theorem z8o{Q:Value->Shared->Prop}(hu:A.units + 1 < cLine)(I:Inv X pins σ H s)(g:DGet H a y (some v))(ry:RelV y u)(h:∀ w' s',Inv X pins σ H s'->RelV v w'->Q w' s') :
  wpAny (model X.prog X.w) A (getItem (.ref a) u) Q E s:=by
 rcases g with ⟨kvs,k,e,ey,l⟩ | ⟨kvs,k,b,e,ey,eb,l⟩
 ·subst ey
  obtain⟨z,hd,vs,rel,dd⟩:=zb6 I.hok e
  obtain⟨w',hw,rw'⟩:=RelO.some_of (v:=v) (o:=valueAt vs k) (by rw[l];exact rel.val k)
  exact wpAny_getItem_of (z9Q ry) dd.mapOf hw (h w' _ (I.tok _) rw')
 ·subst ey
  cases (show u=Value.ref b from ry)
  obtain⟨z,hd,xs,rel,dd⟩:=zb7 I.hok e
  obtain⟨w',hw,rw'⟩:=RelO.some_of (v:=v) (o:=(atKey xs k).map (·.2)) (by rw[l];exact rel.val k)
  obtain⟨p,hp,hp2⟩:=Option.map_eq_some_iff.mp hw
  refine wpAny_getItem_heap (tupleKind_room_in1 hu) (z8n I.hok eb) dd hp ?_
  rw[hp2]
  exact h w' _ (I.tok _) rw'
theorem z6b{h':Heap}{t':Nat}{ob:HO}(I:Inv X pins σ H s)(mu:Mut (H a))(hs:Heap.SameBut a s.heap h')(he:∃ q,h'.get? a=some q)(new:ObjOk X.prog X.w (upd H a ob) h' a ob) :
  Inv X pins σ (upd H a ob) {s with heap:=h',toks:=t'} :=
 I.write (x:=a) (e:=a) mu (.inl rfl) (fun b q hb z=>(hs.2 b hb).trans z) he new
theorem zaD{P:Program}{w:World}{H':Hp}{h':Heap}{kvs:List (Key × V)}{vs:List (Key × Value)}(z:kvs.length<=sizeLine)(hd:(a == sysModules)=false)(rel:KV kvs vs)(dd:h'.DictOf (mixKind P w) a vs) :
  ObjOk P w H' h' a (.dK kvs):=⟨z,hd,vs,rel,dd⟩
theorem z8p{H':Hp}{Q:Unit->Shared->Prop}(hu:A.units + 1 < cLine)(I:Inv X pins σ H s)(g:DPut H a y v H')(ry:RelV y u)(rv:RelV v r)(h:∀ s',Inv X pins σ H' s'->Q () s') :
  wpAny (model X.prog X.w) A (setItem (.ref a) u r) Q E s:=by
 rcases g with ⟨kvs,k,e,ey,l,eH⟩ | ⟨kvs,k,b,e,ey,eb,l,eH⟩
 ·subst ey eH
  obtain⟨z,hd,vs,rel,dd⟩:=zcK I.hok e
  have hz:vs.length<=sizeLine:=by rw[<- rel.length];exact z
  have hl:(putK kvs k v).length<=sizeLine:=by have:=z2o kvs k v;omega
  refine wpAny_setItem_pairs (hsz:=hz) (z9Q ry) dd fun h' dd' hs=>h _ ?_
  have he:∃ q,h'.get? a=some q:=let ⟨q,_,_,hq,_⟩:=dd';⟨q,hq⟩
  exact z6b I (by rw[e];exact True.intro) hs he (zaD hl hd (rel.put k rv) dd')
 ·subst ey eH
  cases (show u=Value.ref b from ry)
  obtain⟨z,hd,xs,rel,dd⟩:=zeJ I.hok e
  have hz:xs.length<=sizeLine:=by rw[<- Paired.length rel];exact z
  have hl:(putK kvs k v).length<=sizeLine:=by have:=z2o kvs k v;omega
  refine wpAny_setItem_heap (hsz:=hz) (tupleKind_room_in1 hu) (z8n I.hok eb) dd fun h' dd' hs=>h _ ?_
  obtain⟨q,es,ep,hq,h2,h3,h4,_,h5⟩:=dd'
  refine z6b I (by rw[e];exact True.intro) hs ⟨q,hq⟩ ⟨hl,hd,_,(rel.put k eb rv).keeps fun c ys ec=>?_,q,es,ep,hq,h2,h3,h4,h5⟩
  rw[zg (zcl ec e (fun z=>nomatch z))]
  exact ec
end
section
variable {X:Cx} {pins:List (Addr × Obj)} {σ:St} {H:Hp} {s:Shared} {a:Addr} {kvs:List (Key × V)} {k:Key} {u:Value} {A:Around} {E:Value->Shared->Prop}
end
def NoSl(i:Expr):Prop:=∀ ov iv,subscripted i false ov iv=operate [ov,iv] (getItem ov iv)
theorem zb8{prog:Program}{w:World}{A:Around}{E:Value->Shared->Prop}{s:Shared}{env:Env}{value slice:Expr}{pos:Pos}{T id:String}{Q:Value->Shared->Prop}
  (hl:typeLookup (.type T) "__getitem__"=pure (some (.builtin id))) (hs:NoSl slice)
  (h:wpAny (model prog w) A (eval value env) (fun o s₁=>wpAny (model prog w) A (eval slice env) (fun i s₂=>s₂.TypeIs o T/\wpAny (model prog w) A (getItem o i) Q E s₂) E s₁) E s) :
  wpAny (model prog w) A (eval (.Subscript value slice pos) env) Q E s:=by
 refine Subscript_ (wpAny_mono h (fun o s₁ h₁=>wpAny_mono h₁ (fun i s₂ h₂=>?_) fun _ _ x=>x) fun _ _ x=>x)
 obtain⟨hT,h₂⟩:=h₂
 unfold subscriptTail
 refine wpAny_bind ?_
 rw[getitemInPython_of_ne hT.not_modules]
 refine wpAny_bind (wpAny_specialOf hT hl ?_)
 have fin:wpAny (model prog w) A (subscripted slice false o i) (fun r s₃=>wpAny (model prog w) A (letTemporaryGo value o r >>= fun _=>pure r) Q E s₃) E s₂:=by
  rw[hs o i]
  exact wpAny_operating (wpAny_mono h₂ (fun r s₃ h₃=>wpAny_bind (wpAny_letTemporaryGo (wpAny_pure h₃))) fun _ _ x=>x)
 first
  | exact wpAny_pure (wpAny_bind fin)
  | exact wpAny_bind (wpAny_pure (wpAny_bind fin))
  | exact wpAny_bind fin
theorem z6c{X:Cx}{pins:List (Addr × Obj)}{σ:St}{H:Hp}{s:Shared}{a:Addr}{y:V}{o:Option V}(I:Inv X pins σ H s)(g:DGet H a y o):s.TypeIs (.ref a) "dict":=by
 rcases g with ⟨kvs,k,e,_,_⟩ | ⟨kvs,k,b,e,_,_,_⟩
 ·obtain⟨_,_,vs,_,dd⟩:=zb6 I.hok e
  exact dd.typeIs
 ·obtain⟨_,_,xs,_,dd⟩:=zb7 I.hok e
  exact dd.typeIs
def tDGet(td ty:TE):TE:=fun σ H Q=>td σ H fun x H1=>ty σ H1 fun y H2=>∃ a v,x=.ref a/\DGet H2 a y (some v)/\Q v H2
def sDPut(td ty tv:TE):TS:=fun D σ H=>tv σ H fun v H1=>td σ H1 fun x H2=>ty σ H2 fun y H3=>∃ a H4,x=.ref a/\DPut H3 a y v H4/\D.nx σ H4
section
variable {X:Cx} {o i e value:Expr} {pos pos' tpos:Pos} {td ty tv:TE}
theorem z4s(hu:X.A.units + 1 < cLine)(ho:PE X o td)(hi:PE X i ty)(hs:NoSl i):PE X (.Subscript o i pos) (tDGet td ty):=by
 intro pins s σ H Q I h
 refine zb8 PySem.F.slot_dict_getitem.lookup hs (thn (ho pins s σ H _ I h) fun u s1 ⟨x,H1,I1,rx,q1⟩=>thn (hi pins s1 σ H1 _ I1 q1) fun iv s2 zfu=>?_)
 obtain⟨y,H2,I2,ry,a,v,ex,g,q2⟩:=zfu
 subst ex
 obtain rfl:u=Value.ref a:=rx
 exact⟨z6c I2 g,z8o hu I2 g ry fun w' s3 I3 rw'=>⟨v,H2,I3,rw',q2⟩⟩
theorem zb9(hu:X.A.units + 1 < cLine)(ho:PE X o td)(hi:PE X i ty)(hv:PE X value tv)(hs:swapsWith value (some (.Subscript o i pos')) pos.line X.env=pure false) :
  PS X (.Assign [.Subscript o i pos'] value pos) (sDPut td ty tv):=by
 intro pins s σ H D I h
 refine wpAny_Assign_Subscript (thn (hv pins s σ H _ I h) fun r s1 ⟨v,H1,I1,rv,q1⟩=>thn (ho pins s1 σ H1 _ I1 q1) fun u s2 ⟨x,H2,I2,rx,q2⟩=>thn (hi pins s2 σ H2 _ I2 q2) fun iv s3 zfv=>?_) hs
 obtain⟨y,H3,I3,ry,a,H4,ex,g,q3⟩:=zfv
 subst ex
 obtain rfl:u=Value.ref a:=rx
 exact z8p hu I3 g ry rv fun s4 I4=>⟨σ,H4,I4,q3⟩
end
theorem z9R{P:Program}{w:World}{H:Hp}(h:Heap)(hb:sysModules < h.objs.size):ObjOk P w H (h.push {cls:=.type "dict",data:=.dict #[]}) h.objs.size (.dK []) :=
 ⟨Nat.zero_le _,beq_eq_false_iff_ne.mpr (Ne.symm (Nat.ne_of_lt hb)),[],.nil,Heap.DictOf.new h⟩
section
variable {X:Cx} {pos:Pos}
end
def tPairs:List (TE × TE)->St->Hp->(List (V × V)->Hp->Prop)->Prop
 | [],_,H,Q=>Q [] H
 | (tk,tv)::r,σ,H,Q=>tk σ H fun x H1=>tv σ H1 fun y H2=>tPairs r σ H2 fun ps H3=>Q ((x,y)::ps) H3
abbrev VV:List (V × V)->List (Value × Value)->Prop:=Paired fun p q=>RelV p.1 q.1/\RelV p.2 q.2
def PPs(X:Cx)(pos:Pos)(keys:List (Option Expr))(values:List Expr)(trs:List (TE × TE)):Prop :=
 ∀ (pins:List (Addr × Obj)) (s:Shared) (σ:St) (H:Hp) (Q:List (V × V)->Hp->Prop),Inv X pins σ H s->tPairs trs σ H Q ->
  wpAny (model X.prog X.w) X.A (evalPairs (pairTrees keys values X.env pos)) (fun vs s'=>∃ ps H',Inv X pins σ H' s'/\VV ps vs/\Q ps H') X.xe s
theorem zba{X:Cx}{pos:Pos}:PPs X pos [] [] []:=fun pins s σ H Q I h=>pairTrees_nil_walk ⟨[],H,I,.nil,h⟩
theorem z6Z{X:Cx}{pos:Pos}{k v:Expr}{ks:List (Option Expr)}{vs:List Expr}{tk tv:TE}{trs:List (TE × TE)}(hk:PE X k tk)(hv:PE X v tv)(hr:PPs X pos ks vs trs) :
  PPs X pos (some k::ks) (v::vs) ((tk,tv)::trs):=fun pins s σ H Q I h =>
 pairTrees_cons_walk (thn (hk pins s σ H _ I h) fun u s1 ⟨x,H1,I1,rx,q1⟩=>thn (hv pins s1 σ H1 _ I1 q1) fun w2 s2 ⟨y,H2,I2,ry,q2⟩ =>
  thn (hr pins s2 σ H2 _ I2 q2) fun ws s3 zfw=>(by obtain⟨ps,H3,I3,rel,q3⟩:=zfw;exact⟨(x,y)::ps,H3,I3,.cons ⟨rx,ry⟩ rel,q3⟩))
def mergeK(kvs more:List (Key × V)):List (Key × V):=more.foldl (fun acc kv=>putK acc kv.1 kv.2) kvs
theorem KV.merge:∀ {more:List (Key × V)} {rs:List (Key × Value)} {kvs:List (Key × V)} {vs:List (Key × Value)},KV more rs->KV kvs vs->KV (mergeK kvs more) (merged vs rs):=by
 intro more rs kvs vs r
 unfold KV at r
 induction r generalizing kvs vs with
 | nil=>intro q;exact q
 | @cons p q ps qs h t ih =>
  intro r0
  have e:KV (putK kvs p.1 p.2) (stored vs q.1 q.2):=by
   have:=r0.put p.1 h.2
   rw[<- h.1];exact this
  exact ih e
theorem z2I:∀ (more kvs:List (Key × V)),(mergeK kvs more).length<=kvs.length + more.length
 | [],kvs=>by show kvs.length<=kvs.length + 0;omega
 | p::r,kvs=>by
  have h1:=z2I r (putK kvs p.1 p.2)
  have h2:=z2o kvs p.1 p.2
  show(mergeK (putK kvs p.1 p.2) r).length<=_
  rw[List.length_cons];omega
theorem z46{P:Program}{w:World}:∀ {kvs:List (Key × V)} {ws:List (Value × Value)},VV (kvs.map fun kv=>(kV kv.1,kv.2)) ws->∃ rs,Carries (mixKind P w) ws rs/\KV kvs rs
 | [],_,r=>by rw[List.map_nil]at r;cases r;exact⟨[],True.intro,.nil⟩
 | p::kvs,_,r=>by
  rw[List.map_cons]at r
  cases r with
  | @cons a b as bs h t =>
   obtain⟨rs,c,q⟩:=z46 (P:=P) (w:=w) t
   obtain⟨b1,b2⟩:=b
   exact⟨(p.1,b2)::rs,⟨z9Q h.1,rfl,c⟩,.cons ⟨rfl,h.2⟩ q⟩
def tDisp(trs:List (TE × TE)):TE:=fun σ H Q=>∀ p,H p=none->tPairs trs σ (upd H p (.dK [])) fun ps H2=>H2 p=some (.dK [])/\∃ kvs:List (Key × V),ps=kvs.map (fun kv=>(kV kv.1,kv.2))/\kvs.length<=15/\Q (.ref p) (upd H2 p (.dK (mergeK [] kvs)))
theorem zbb{X:Cx}{pos:Pos}{keys:List (Option Expr)}{values:List Expr}{trs:List (TE × TE)}(h:PPs X pos keys values trs)(hall:keys.all (·.isSome)=true)(hl:keys.length=values.length)(h0:keys≠[])
  (h15:keys.length<=15):PE X (.Dict keys values pos) (tDisp trs):=by
 intro pins s σ H Q I q
 have hn:=I.hok.fresh (Nat.le_refl s.heap.objs.size)
 have I1:=I.laid (a:=s.heap.objs.size) (o:=.dK []) (h':=s.heap.push {cls:=.type "dict",data:=.dict #[]}) (t':=s.toks) (fun _ _ q=>Heap.get?_push_of_some _ q) (Nat.le_refl _) (z9R s.heap I.big)
 refine wpAny_Dict_walk (knd:=mixKind X.prog X.w) hall hl h0 h15 (thn (h pins _ σ _ _ I1 (q _ hn)) fun ws s2 zfx=>?_)
 obtain⟨ps,H2,I2,rel,e,kvs,ep,lk,q2⟩:=zfx
 subst ep
 obtain⟨rs,c,rk⟩:=z46 (P:=X.prog) (w:=X.w) rel
 obtain⟨z,hd,vs0,r0,dd⟩:=zcK I2.hok e
 cases r0
 refine⟨rs,c,dd,fun h' dd' hs=>⟨.ref s.heap.objs.size,_,?_,rfl,q2⟩⟩
 have hz:(mergeK [] kvs).length<=sizeLine:=by
  have h1:=z2I kvs []
  rw[List.length_nil]at h1
  rw[sizeLine_eq];omega
 have he:∃ q,h'.get? s.heap.objs.size=some q:=let ⟨q,_,_,hq,_⟩:=dd';⟨q,hq⟩
 exact z6b I2 (by rw[e];exact True.intro) hs he (zaD hz hd (rk.merge .nil) dd')
structure M1(X:Cx)(o:Expr)(m:Str)(apos:Pos)(e:Expr)(cpos:Pos):Prop where
 base:attributeBase o m X.env (eval o X.env)=eval o X.env
 few:((backTo cpos (starEach [e] X.env)).all (fun x=>!x.1) && (backToKw cpos (keywordEach [] X.env)).all (fun x=>x.1.isSome)
  && decide (([e]:List Expr).length + ([]:List Keyword).length + (if ([]:List Keyword).isEmpty then 0 else 1) < 30))=true
 line:(apos.endLine == cpos.line)=true
 trees:backTo cpos (starEach [e] X.env)=[(false,eval e X.env)]
structure M2(X:Cx)(o:Expr)(m:Str)(apos:Pos)(e f:Expr)(cpos:Pos):Prop where
 base:attributeBase o m X.env (eval o X.env)=eval o X.env
 few:((backTo cpos (starEach [e,f] X.env)).all (fun x=>!x.1) && (backToKw cpos (keywordEach [] X.env)).all (fun x=>x.1.isSome)
  && decide (([e,f]:List Expr).length + ([]:List Keyword).length + (if ([]:List Keyword).isEmpty then 0 else 1) < 30))=true
 line:(apos.endLine == cpos.line)=true
 trees:backTo cpos (starEach [e,f] X.env)=[(false,eval e X.env),(false,eval f X.env)]
section
variable {X:Cx} {pins:List (Addr × Obj)} {σ:St} {H:Hp} {s:Shared} {a:Addr} {y d:V} {u r:Value} {o:Option V} {A:Around} {E:Value->Shared->Prop}
end
section
variable {X:Cx} {o e f:Expr} {apos cpos:Pos} {td ty tx:TE}
end
section
variable {X:Cx} {pins:List (Addr × Obj)} {σ:St} {H:Hp} {s:Shared} {a:Addr} {kvs:List (Key × V)} {A:Around} {E:Value->Shared->Prop}
end
section
variable {X:Cx} {pins:List (Addr × Obj)} {σ:St} {H:Hp} {s:Shared} {a:Addr} {y:V} {u:Value} {A:Around} {E:Value->Shared->Prop}
end
end L2
namespace Att
open PySem PySem.W PySem.Calls PyProof.Rows
theorem z3z{P:Params}{h:Heap}:∀ (ns:List Int) (vs:List Value),WellAll P h vs (ns.map WData.int)->IntsAre vs ns:=by
 intro ns
 induction ns with
 | nil =>
  intro vs w
  rw[List.map_nil]at w
  cases w
  exact .nil
 | cons n ns ih =>
  intro vs w
  rw[List.map_cons]at w
  cases w with
  | cons a b =>
   cases a
   exact .cons _ _ (ih _ b)
theorem z8q{l:OpenLaw}{n:Nat}(hn:l.most=some n){P:Params}{h:Heap}{args:List WData}{vals:List Value}
  (hpre:l.row.toRowW.claim.pre args=true) (hwl:WellAll P h vals args) :
  ∃ a vs ns,vals=[Value.ref a]/\args=[WData.list (ns.map WData.int)]/\h.get? a=some {cls:=.type "list",data:=.seq vs.toArray}/\IntsAre vs ns/\ns.length<=n:=by
 have hsh:WShape.hasAll [] args [.list .int]=true:=(pre_splitW hpre).1
 have hc:l.pre.holds [] {args:=args}=true:=(pre_splitW hpre).2
 obtain⟨d,r,rfl,h1,h2⟩:=hasAllW_cons hsh
 obtain rfl:=hasAllW_nil h2
 obtain⟨xs,rfl,h3⟩:=hasW_list h1
 obtain⟨ns,rfl⟩:=items_int h3
 have hlen:ns.length<=n:=by
  unfold OpenLaw.pre at hc
  have h4:(WTm.not (.lt (.lit (.int (n:Int))) (.len (.arg 0)))).holds [] {args:=[.list (ns.map .int)]}=true:=by
   have h4:=(holds_andW hc).1
   rw[hn]at h4
   exact h4
  have h5:=condW_of h4 (w_not (w_lt w_lit (w_len_list (w_arg rfl))))
  rw[List.length_map]at h5
  refine Nat.le_of_not_lt fun q=>?_
  have q':(n:Int) < ((ns.length:Nat):Int):=by omega
  first
   | (rw[decide_eq_true q']at h5;exact absurd h5 (by decide))
   | (simp at h5;omega)
 cases hwl with
 | cons w1 w2 =>
  cases w2
  cases w1 with
  | list ho hall=>exact⟨_,_,ns,rfl,rfl,ho,z3z ns _ hall,hlen⟩
theorem z8r(l:OpenLaw)(args:List WData):l.row.toRowW.claim.post args (.bool true) args=true :=
 postW_of (r:=l.row.toRowW) (X:=(true == true))
  (show WShape.has [] (.bool true) .bool=true by first | rfl | decide | simp[WShape.has,WShape.arms,WShape.armsAll])
  (show(WTm.eq .res (.lit (.bool true))).value [] {args:=args,res:=some (.bool true),after:=args}=some (.bool (true == true)) from w_eq_bool (w_res rfl) w_lit) rfl
theorem attach_call{l:OpenLaw}{n:Nat}{q:Program}{loose:List Str}{XP:(Str->Option Value)->Heap->Prop}{YP:World->Heap->Prop}{d:DefRec}
  (hn:l.most=some n) (hdf:d.params.defaults=[])
  (call:∀ (w:World) (s₀ s₁:Shared) (mg mb:Str->Option Value) (fa:Addr) (o:Obj) (pm cd doc:Value) (a:Addr) (vs:List Value) (ns:List Int),
   Ground q loose [] XP w s₀ mg mb s₁.heap->YP w s₁.heap ->
   s₁.heap.get? fa=some o->o.data=.func (docDef d.name d.params d.body d.scope pm cd doc)->s₁.heap.CodeRec cd d.name->mg d.name=some (.ref fa) ->
   s₁.heap.get? a=some {cls:=.type "list",data:=.seq vs.toArray}->IntsAre vs ns->ns.length<=n->s₁.gens=#[] ->
   codeAny (model l.prog w) callerA (.call (.ref fa) ⟨[.ref a],[]⟩) (fun r s'=>r=.ok (.ret (.bool true))/\OldK s₁.heap s'.heap/\s'.os=s₁.os/\AllBare s'.gens) s₁) :
  WalkO q loose XP YP l.row.toRowW d [] (fun f vs=>PySem.call f vs):=by
 intro w s₀ s₁ mg mb G Y fa o pm cd doc dV kV ho hd hcd hD hmg hg args vals as hpre hlay hrd hwl hlo
 obtain rfl:dV=.none:=Dflts.none hD hdf
 obtain rfl:kV=.none:=Dflts.noKw hD
 obtain⟨a,vs,ns,rfl,rfl,hobj,hints,hlen⟩:=z8q hn hpre hwl
 refine enter_call (codeAny_mono (call w s₀ s₁ mg mb fa o pm cd doc a vs ns G Y ho (fd_plain hd) hcd hmg hobj hints hlen hg) fun r s' hq=>?_)
 obtain⟨rfl,h2,h3,h4⟩:=hq
 exact⟨.inl ⟨.bool true,.bool true,[],rfl,fun _=>rfl,.bool true,z8r l _,fun _=>⟨List.Pairwise.nil,fun _ hm=>(nomatch hm)⟩⟩,h2,h3,h4⟩
section
variable {prog:Program} {w:World} {A:Around} {E:Value->Shared->Prop} {s:Shared} {K:Frag}
def ledger(h:Heap)(L d:Addr):List (Addr × Obj):=(List.range h.objs.size).filterMap fun a=>if a=L\/a=d then none else (h.get? a).map fun o=>(a,o)
end
end Att
namespace L2
open PySem PySem.Spec PyProof.Rows
theorem z8s{vs:List Value}{ns:List Int}(h:IntsAre vs ns):Vals (ns.map V.int) vs:=by
 induction h with
 | nil=>exact .nil
 | cons n t h ih=>exact .cons ⟨t,rfl⟩ ih
def Only(H:Hp):Prop:=∀ b,H b=none\/∃ o xs,H b=some (.frz o (.lst xs))
theorem z9S{P:Program}{w:World}{K:PySem.W.Frag}{mg mb:Str->Option Value}{CX:CXT}{k:Nat}{fa a:Addr}{fd:FuncData}{x:Str}{sp:Sp}{s₁:Shared}{vs:List Value}{ns:List Int}
  (KX:K.In s₁.heap) (hns:s₁.heap.Ns mainGlobals mg) (hb:s₁.heap.Ns builtinsNs mb) (hbb:∀ x:Str,x≠"__name__"->mb x=bootBuiltins x) (hlim:s₁.heap.NoLimit) (hg:s₁.gens=#[])
  (ha:s₁.heap.get? a=some {cls:=.type "list",data:=.seq vs.toArray}) (hi:IntsAre vs ns) (hl:ns.length<=sizeLine) (hr:Room k callerA)
  (F:∀ base:Heap,K.In base->base.Ns mainGlobals mg->FnOk P w K mg base CX k fa fd [x] sp) (hbind:∀ (s:Shared) (u:Value),BindsTo s fd ⟨[u],[]⟩ [(x,u)])
  (hsp:∀ H:Hp,Only H->SqL K H a (ns.map V.int)->sp [.ref a] H (fun v _=>v=.bl true) fun _ _ _=>False)
  (hCX:∀ H e s',CX [] H s₁ (fun _ _ _=>False) e s'->False) :
  codeAny (model P w) callerA (.call (.ref fa) ⟨[.ref a],[]⟩) (fun r s'=>r=.ok (.ret (.bool true))/\OldK s₁.heap s'.heap/\s'.os=s₁.os/\AllBare s'.gens) s₁:=by
 have rv:=z8s hi
 have lenV:=hi.length
 have core:∀ H:Hp,Only H->SqL K H a (ns.map V.int)->HOk P w H s₁.heap->(∀ b,H b≠none->b=a)->(H a≠none->K.lookup a=none) ->
   codeAny (model P w) callerA (.call (.ref fa) ⟨[.ref a],[]⟩) (fun r s'=>r=.ok (.ret (.bool true))/\OldK s₁.heap s'.heap/\s'.os=s₁.os/\AllBare s'.gens) s₁:=by
  intro H hO hS hok hA hK
  have base_of:∀ {b:Addr} {o:Obj},s₁.heap.get? b=some o->H b=none->(hidT s₁.heap H).get? b=some o:=fun e n=>z9I e n
  have noA:∀ {b:Addr} {o:Obj} {es:Array DictEntry} {ep:Nat},s₁.heap.get? b=some o->o.data=.dict es ep->H b=none:=fun{b o es ep} e d=>by
   cases q:H b with
   | none=>rfl
   | some u =>
    have e':b=a:=hA b (by rw[q];simp)
    subst e'
    rw[ha]at e;cases e
    have d':Data.seq vs.toArray _=Data.dict es ep:=d
    cases d'
  have nsK:∀ {b:Addr} {m:Str->Option Value},s₁.heap.Ns b m->(hidT s₁.heap H).Ns b m:=fun{b m} zfy=>(by obtain⟨o,es,ep,e,d,r⟩:=zfy;exact⟨o,es,ep,base_of e (noA e d),d,r⟩)
  have hKb:K.In (hidT s₁.heap H):=fun b o e=>base_of (KX b o e) (by
   cases q:H b with
   | none=>rfl
   | some u =>
    have e':b=a:=hA b (by rw[q];simp)
    subst e'
    rw[hK (by rw[q];simp)]at e;cases e)
  have hM:Mod K mg (hidT s₁.heap H):=⟨hKb,nsK hns,⟨mb,nsK hb,hbb⟩,let ⟨mc,h1,h2⟩:=hlim;⟨mc,nsK h1,h2⟩⟩
  have e0:Env0 P w K mg (hidT s₁.heap H) callerA [] s₁ H:=⟨rfl,hM,fun b o e=>zaZ e,Nat.le_of_eq (z84 _ _),trivial,fun b hb=>absurd (show b∈([]:List Addr) from hb) (by simp),hok,.of_eq hg⟩
  refine codeAny_mono ((F _ hKb (nsK hns)).run callerA [] s₁ H ⟨[.ref a],[]⟩ [.ref a] [.ref a] _ _ hr e0 (hbind s₁ (.ref a)) (.cons rfl .nil) (hsp H hO hS)) fun r s' h=>?_
  cases r with
  | error e=>exact(hCX H e s' h).elim
  | ok fl =>
   cases fl with
   | next=>exact False.elim h
   | brk=>exact False.elim h
   | cont=>exact False.elim h
   | ret u =>
    obtain⟨v,H',os,bare,un,hok',r',q⟩:=h
    have q':v=.bl true:=q
    subst q'
    obtain rfl:u=Value.bool true:=r'
    refine⟨rfl,OldK.of_keep fun b o e=>?_,os,bare⟩
    cases q:H b with
    | none=>exact un.keep b o e q (by intro z;exact absurd (show b∈([]:List Addr) from z) (by simp)) (by simp)
    | some u =>
     rcases hO b with z | ⟨ob,xs,z⟩
     ·rw[q]at z;cases z
     ·have z2:=un.frzs b ob _ z
      obtain⟨e1,_⟩:=hok b _ z
      obtain⟨e2,_⟩:=hok' b _ z2
      rw[e]at e1;cases e1
      exact e2
 cases hk:K.lookup a with
 | some o =>
  have e:=KX a o hk
  rw[ha]at e
  cases e
  refine core (fun _=>none) (fun _=>.inl rfl) (.inr ⟨_,vs.toArray,_,hk,rfl,rfl,rfl,by rw[List.size_toArray,lenV];exact hl,by simpa using rv⟩) (fun b u z=>by have z':(none:Option HO)=some u:=z;cases z') (fun b z=>absurd rfl z) fun z=>absurd rfl z
 | none =>
  refine core (fun b=>if b=a then some (.frz {cls:=.type "list",data:=.seq vs.toArray} (.lst (ns.map V.int))) else none) (fun b=>?_) (.inl (.inr ⟨{cls:=.type "list",data:=.seq vs.toArray},if_pos rfl⟩)) (fun b u z=>?_) (fun b z=>?_) fun _=>hk
  ·by_cases hb:b=a
   ·exact .inr ⟨_,_,if_pos hb⟩
   ·exact .inl (if_neg hb)
  ·by_cases hb:b=a
   ·have z':=(if_pos hb).symm.trans z
    cases z'
    subst hb
    exact⟨ha,by rw[List.length_map];exact hl,vs,_,rv,ha⟩
   ·have z':=(if_neg hb).symm.trans z
    cases z'
  ·by_cases hb:b=a
   ·exact hb
   ·exact absurd (if_neg hb) z
end L2
namespace L2
open PySem PySem.Spec PyProof.Rows
abbrev KOf{K:PySem.W.Frag}{h:Heap}(_:K.In h):PySem.W.Frag:=K
theorem zbc{l:PySem.W.OpenLaw}{n k:Nat}{q:Program}{loose:List Str}{XP:(Str->Option Value)->Heap->Prop}{YP:World->Heap->Prop}{d:DefRec}{K:Params->PySem.W.Frag}{CX:World->CXT}{sp:World->Sp}{x:Str}
  (hn:l.most=some n) (hn2:n<=sizeLine) (hdf:d.params.defaults=[]) (hr:Room k callerA)
  (hY:∀ (w:World) (h:Heap),YP w h->(K w.params).In h)
  (F:∀ (w:World) (mg:Str->Option Value) (fa:Addr) (h:Heap),(K w.params).In h->h.Ns mainGlobals mg->mg d.name=some (.ref fa) ->
   ∃ fd:FuncData,(∀ (s:Shared) (u:Value),BindsTo s fd ⟨[u],[]⟩ [(x,u)]) /\
    ∀ base:Heap,(K w.params).In base->base.Ns mainGlobals mg->FnOk l.prog w (K w.params) mg base (CX w) k fa fd [x] (sp w))
  (hsp:∀ (w:World) (H:Hp) (a:Addr) (ns:List Int),ns.length<=n->Only H->SqL (K w.params) H a (ns.map V.int)->sp w [.ref a] H (fun v _=>v=.bl true) fun _ _ _=>False)
  (hCX:∀ (w:World) (H:Hp) (s:Shared) (e:Value) (s':Shared),CX w [] H s (fun _ _ _=>False) e s'->False) :
  PySem.W.WalkO q loose XP YP l.row.toRowW d [] (fun f vs=>PySem.call f vs):=by
 refine Att.attach_call hn hdf fun w s₀ s₁ mg mb fa o pm cd doc a vs ns G Y ho hd hcd hmg hobj hints hlen hg=>?_
 have KX:=hY w _ Y
 obtain⟨fd,hb,hF⟩:=F w mg fa _ KX G.T.g hmg
 exact z9S KX G.T.g G.T.b G.T.builtins G.T.nolimit hg hobj hints (Nat.le_trans hlen hn2) hr hF hb (fun H hO hS=>hsp w H a ns hlen hO hS) fun H e s'=>hCX w H s₁ e s'
theorem walk_ofK{l:PySem.W.OpenLaw}{n k:Nat}{q:Program}{loose:List Str}{XP:(Str->Option Value)->Heap->Prop}{YP:World->Heap->Prop}{d:DefRec}{K:Params->PySem.W.Frag}{CX:CXT}{sp:PySem.W.Frag->Sp}{x:Str}
  (hn:l.most=some n) (hn2:n<=sizeLine) (hdf:d.params.defaults=[]) (hr:Room k callerA)
  (hY:∀ (w:World) (h:Heap),YP w h->(K w.params).In h)
  (F:∀ (w:World) (mg:Str->Option Value) (fa:Addr) (h:Heap),(K w.params).In h->h.Ns mainGlobals mg->mg d.name=some (.ref fa) ->
   ∃ fd:FuncData,(∀ (s:Shared) (u:Value),BindsTo s fd ⟨[u],[]⟩ [(x,u)]) /\
    ∀ base:Heap,(K w.params).In base->base.Ns mainGlobals mg->FnOk l.prog w (K w.params) mg base CX k fa fd [x] (sp (K w.params)))
  (hsp:∀ (K:PySem.W.Frag) (H:Hp) (a:Addr) (ns:List Int),ns.length<=n->Only H->SqL K H a (ns.map V.int)->sp K [.ref a] H (fun v _=>v=.bl true) fun _ _ _=>False)
  (hCX:∀ (H:Hp) (s:Shared) (e:Value) (s':Shared),CX [] H s (fun _ _ _=>False) e s'->False) :
  PySem.W.WalkO q loose XP YP l.row.toRowW d [] (fun f vs=>PySem.call f vs) :=
 zbc (K:=K) (CX:=fun _=>CX) (sp:=fun w=>sp (K w.params)) hn hn2 hdf hr hY F (fun w H a ns h1 h2 h3=>hsp (K w.params) H a ns h1 h2 h3) fun _ H s e s'=>hCX H s e s'
end L2
namespace L2
open PySem PySem.Spec PyProof.Rows
def defArgs(s:Stmt):Arguments:=match s with
 | .FunctionDef _ a _ _ _ _ _ _ _ _=>a
 | _=>{posonlyargs:=[],args:=[],vararg:=none,kwonlyargs:=[],kw_defaults:=[],kwarg:=none,defaults:=[]}
def defBody(s:Stmt):List Stmt:=match s with
 | .FunctionDef _ _ b _ _ _ _ _ _ _=>b
 | _=>[]
def defScope(s:Stmt):Scope:=match s with
 | .FunctionDef _ _ _ _ _ _ sc _ _ _=>sc
 | _=>{kind:=.function,names:=[],isGenerator:=false,isCoroutine:=false}
abbrev CX0:CXT:=fun _ _ _ _ _ _=>False
abbrev E0:XK:=fun _ _ _=>False
theorem pass0{X:Cx}:Passes CX0 X E0:=fun _ _ _ _ _ _ _ h=>h.elim
structure Fun(K:PySem.W.Frag)(x qual:Str)(st:Stmt)(f:Addr)(fd:FuncData):Prop where
 ex:∃ (oc:Value) (od:Option Addr) (kV doc pm:Value) (an:Option Addr) (cdv ct:Value) (osl:Array (Option Value)),
  fd=PySem.W.fnOf x qual (defArgs st) (defBody st) (defScope st) .none kV doc pm an cdv ct/\K.lookup f=some ⟨oc,od,.func fd,osl⟩/\PySem.W.codeIn K cdv qual=true
 kp:PySem.W.keepIn K (.ref f)=true
section
variable {P:Program} {w:World} {K:PySem.W.Frag} {mg:Str->Option Value} {base:Heap}
theorem Fun.ok{x qual:Str}{st:Stmt}{f:Addr}{fd:FuncData}{N ps:List Str}{k:Nat}{sp:Sp}(F:Fun K x qual st f fd)(S:FnScope N ps (defScope st))(len:∀ vs H Q E,sp vs H Q E->vs.length=ps.length)
  (hbody:∀ (cdv:Value) (A:Around) (outer:List Env) (s:Shared) (H:Hp) (vs:List V) (Q:VK) (E:XK),Room k (A.deeper (envOfC qual (defScope st) s.heap.objs.size f cdv))->sp vs H Q E ->
   ∃ t,PSs (cxOf CX0 P w K mg base N qual (defScope st) f cdv A outer s H E).nox (defBody st) t/\t {nx:=fun _ H'=>Q .non H',rt:=Q} (start N vs) H):FnOk P w K mg base CX0 (k + 1) f fd ps sp:=by
 obtain⟨oc,od,kV,doc,pm,an,cdv,ct,osl,rfl,lk,hcd⟩:=F.ex
 refine zeH lk hcd S len fun A outer s H vs Q E hr hsp=>?_
 obtain⟨t,h,q⟩:=hbody cdv A outer s H vs Q E hr hsp
 exact⟨t,h.nox,q⟩
theorem Fun.binds{x qual:Str}{st:Stmt}{f:Addr}{fd:FuncData}{ps:List Str}(F:Fun K x qual st f fd)
  (h:∀ (kV doc pm:Value) (an:Option Addr) (cdv ct:Value) (us:List Value),us.length=ps.length->bindArgs (PySem.W.fnOf x qual (defArgs st) (defBody st) (defScope st) .none kV doc pm an cdv ct) ⟨us,[]⟩=pure (ps.zip us)):Binds K fd ps []:=by
 obtain⟨oc,od,kV,doc,pm,an,cdv,ct,osl,rfl,lk,hcd⟩:=F.ex
 exact .all (h kV doc pm an cdv ct)
theorem zaE{x qual:Str}{st:Stmt}{f:Addr}{oc:Value}{od an:Option Addr}{osl:Array (Option Value)}{kV doc pm cdv ct:Value}(l:K.lookup f=some ⟨oc,od,.func (PySem.W.fnOf x qual (defArgs st) (defBody st) (defScope st) .none kV doc pm an cdv ct),osl⟩)
  (c:PySem.W.codeIn K cdv qual=true) (k:PySem.W.keepIn K (.ref f)=true):Fun K x qual st f (PySem.W.fnOf x qual (defArgs st) (defBody st) (defScope st) .none kV doc pm an cdv ct):=⟨⟨oc,od,kV,doc,pm,an,cdv,ct,osl,rfl,l,c⟩,k⟩
end
theorem zeK{A:Around}{k:Nat}(hr:Room k A):A.units + 1 < cLine:=Nat.lt_of_le_of_lt (Nat.add_le_add_left (by decide:1<=64) _) hr.units
theorem small1000{n:Nat}(h:n<=1000):n < sizeLine:=Nat.lt_of_le_of_lt h (by decide)
section
variable {X:Cx}
theorem pv(i:Nat){x:Str}{pos:Pos}(hN:X.N[i]?=some x:=by rfl)(hv:Vis X.env.scope x:=by first | exact Or.inl rfl | exact Or.inr (Or.inl rfl) | exact Or.inr (Or.inr rfl))(hd:(x == ("__debug__":Str))=false:=by decide)
  (hcd:(x == ("__classdict__":Str))=false:=by decide):PE X (.Name x pos) (tVar i):=zcm hN hv hd hcd
end
theorem iteF{A B:Prop}(h:B):if false=true then A else B:=by
 rw[if_neg Bool.false_ne_true]
 exact h
theorem iteT{A B:Prop}(h:A):if true=true then A else B:=by
 rw[if_pos rfl]
 exact h
theorem ite2{c A B:Prop}[Decidable c](h1:c->A)(h2:¬ c->B):if c then A else B:=by
 by_cases h:c
 ·rw[if_pos h]
  exact h1 h
 ·rw[if_neg h]
  exact h2 h
end L2
namespace L2
open PySem PySem.Spec PyProof.Rows
section
variable {X:Cx}
end
section
variable {κ:Type} [DecidableEq κ]
end
end L2
namespace L2
open PySem PySem.Spec PyProof.Rows
def compCx(X:Cx)(scope:Scope)(cl:List (Str × Addr))(N:List Str)(C:Addr)(s:Shared)(H:Hp)(ex:List Addr):Cx where
 prog:=X.prog
 w:=X.w
 K:=X.K
 mg:=X.mg
 base:=X.base
 A:=X.A
 N:=N
 s₀:=s
 H₀:=H
 env:=compEnvC scope cl C X.env
 outer:=X.stack
 stack:=X.stack
 ex:=ex
 fn:=fun _=>false
 calm:=X.calm
 pn:=[]
 xe:=fun _ _=>False
def compSt(k:Nat)(fr:List Nat)(σ:St):St:=List.replicate k none++fr.map fun j=>(σ[j]?).getD none
structure CompOk(X:Cx)(scope:Scope)(cl:List (Str × Addr))(N:List Str)(k:Nat)(fr:List Nat):Prop where
 kind:scope.kind=.function
 nocell:∀ y∈scope.names,y.2≠.cell
 names:∀ y∈scope.names,y.2=.local->scope.names.lookup y.1=some .local
 clos:closureFor scope X.env=pure cl
 sub:∀ x c,cl.lookup x=some c->X.env.cells.lookup x=some c
 has:∀ x,((relabel scope X.env).names.lookup x=some .cell\/(relabel scope X.env).names.lookup x=some .free)->∃ c,cl.lookup x=some c
 len:N.length=k + fr.length
 free:∀ (t j:Nat) (x:Str),fr[t]?=some j->N[k + t]?=some x->X.N[j]?=some x/\Vis X.env.scope x/\(∃ c,cl.lookup x=some c)/\((relabel scope X.env).names.lookup x=some .cell\/(relabel scope X.env).names.lookup x=some .free)/\¬ X.env.scope.names.lookup x=some .local
def PIfs(Y:Cx)(ifs:List Expr)(t:TT):Prop :=
 ∀ (pins:List (Addr × Obj)) (s:Shared) (σ:St) (H:Hp) (Q:Bool->Hp->Prop),Inv Y pins σ H s->t σ H Q ->
  wpAny (model Y.prog Y.w) Y.A (forIn ifs true fun c r=>if r=true then do let ok <- isTrue c Y.env (eval c Y.env);pure (ForInStep.yield ok) else pure (ForInStep.yield r)) (TP Y pins σ Q) Y.xe s
def tTrue:TT:=fun _ H Q=>Q true H
theorem z9T{Y:Cx}:PIfs Y [] tTrue:=fun _ _ _ H _ I h=>wpAny_tests_nil ⟨H,I,h⟩
def Fwd(σ σ':St):Prop:=σ'.length=σ.length/\∀ (i:Nat) (v:V),σ[i]?=some (some v)->σ'[i]?=some (some v)
def CompW(J:It)(g:TG)(tt:TT)(te:TE)(σc:St)(H1:Hp)(F:List V->Hp->Prop):Prop :=
 ∃ W:Nat->Nat->List V->Hp->Prop,(∃ m,W 0 m [] H1)/\∀ i m ys H,W i m ys H ->
  (J.stop i H/\F ys H) \/
  (J.go i H/\ys.length < sizeLine/\∀ x H',J.yld i H x H'->g x σc H' fun σ2 H2=>Fwd σc σ2/\tt σ2 H2 fun b H3 =>
   if b=true then te σ2 H3 fun y H4=>∃ m',m' < m/\W (i + 1) m' (ys++[y]) H4 else ∃ m',m' < m/\W (i + 1) m' ys H3)
def tComp(k:Nat)(fr:List Nat)(wi:TI)(g:TG)(tt:TT)(te:TE):TE:=fun σ H Q=>wi σ H fun J H1=>CompW J g tt te (compSt k fr σ) H1 fun ys H2=>ys.length<=sizeLine/\∀ p,H2 p=none->Q (.ref p) (upd H2 p (.lst ys))
def sComp(i:Nat)(k:Nat)(fr:List Nat)(wi:TI)(g:TG)(tt:TT)(te:TE):TS:=fun D σ H=>wi σ H fun J H1=>CompW J g tt te (compSt k fr σ) H1 fun ys H2=>ys.length<=sizeLine/\∀ p,H2 p=none->D.nx (σ.set i (some (.ref p))) (upd H2 p (.lst ys))
section
variable {X:Cx} {pins:List (Addr × Obj)} {σ:St} {H:Hp} {s:Shared}
theorem Inv.track{D:Addr}{o:HO}{t':Nat}(I:Inv X pins σ H s)(hn:H D=none)(hL:D≠X.env.locals)(h1:X.s₀.heap.objs.size<=D)(h2:∀ x c,X.env.cells.lookup x=some c->c≠D)(h3:∀ p∈X.pn++pins,p.1≠D)
  (new:ObjOk X.prog X.w (upd H D o) s.heap D o):Inv X pins σ (upd H D o) {s with toks:=t'}:=by
 have ne:∀ b u,H b=some u->b≠D:=fun b u e=>zj e hn
 refine I.step (h':=s.heap) (g':=s.gens) (d':=s.drawn) (ch:=[D]) (fun b hb=>?_) (fun b o _ _ _ e _=>e) (fun b o _ _ _ e _=>⟨o.slots,e⟩) (fun b o hc _ n=>?_) (fun b o _ e=>⟨o,e⟩)
  (fun b xs e=>by rw[zg (ne b _ e)];exact e) (fun b o u e=>by rw[zg (ne b _ e)];exact e) (fun b ps e=>⟨#[],by rw[zg (ne b _ e),e];simp⟩) (fun m hm=>hm) (fun b u e=>?_) I.bare
 ·have e:b=D:=by simpa using hb
  subst e
  exact⟨.inr h1,hL,h2,h3⟩
 ·rw[zg (by simpa using hc)];exact n
 ·by_cases hb:b=D
  ·subst hb;rw[zk]at e;cases e;exact new
  ·rw[zg hb]at e
   exact(I.hok b u e).stay (fun c v _ q=>q) (fun c q=>by rw[zg (ne c _ q)];exact q) fun c xs q=>by rw[zg (ne c _ q)];exact q
theorem z7K(k:Nat)(fr:List Nat)(σ:St):(compSt k fr σ).length=k + fr.length:=by simp[compSt]
theorem z47{k i:Nat}{fr:List Nat}{σ:St}(h:i < k):(compSt k fr σ)[i]?=some none:=by
 unfold compSt
 rw[List.getElem?_append_left (by simpa using h),List.getElem?_replicate,if_pos h]
theorem z6d{k i:Nat}{fr:List Nat}{σ:St}{v:V}(h:(compSt k fr σ)[i]?=some (some v)):∃ t j,i=k + t/\fr[t]?=some j/\σ[j]?=some (some v):=by
 by_cases hi:i < k
 ·rw[z47 hi]at h;cases h
 ·refine⟨i - k,?_⟩
  unfold compSt at h
  rw[List.getElem?_append_right (by simpa using Nat.not_lt.mp hi),List.length_replicate,List.getElem?_map]at h
  cases e:fr[i - k]? with
  | none=>rw[e]at h;cases h
  | some j =>
   rw[e]at h
   refine⟨j,by omega,rfl,?_⟩
   cases e2:σ[j]? with
   | none=>rw[show(some j).map (fun j=>(σ[j]?).getD none)=some ((σ[j]?).getD none) from rfl,e2]at h;cases h
   | some u =>
    rw[show(some j).map (fun j=>(σ[j]?).getD none)=some ((σ[j]?).getD none) from rfl,e2]at h
    exact h
def CompRR(X:Cx)(pins:List (Addr × Obj))(σ:St)(F:List V->Hp->Prop)(RR:Value->Addr->Result->Shared->Prop):Prop:=∀ D C ys (its:List Value) n H' m s',Inv X pins σ H' s'->H' D=none->X.s₀.heap.objs.size<=D->D≠X.env.locals->(∀ x c,X.env.cells.lookup x=some c->c≠D)->(∀ p∈X.pn++pins,p.1≠D) ->
   s'.heap.get? D=some {cls:=.type "list",data:=.seq its.toArray n}->Vals ys its->s'.heap.Ns C m->H' C=none->X.s₀.heap.objs.size<=C->C≠X.env.locals->(∀ x c,X.env.cells.lookup x=some c->c≠C)->(∀ p∈X.pn++pins,p.1≠C)->C≠D ->
   F ys H'->RR (.ref D) C (.ok .next) s'
inductive CompI(Y:Cx)(τ:St)(tn:Nat->Heap->Prop)(fp:List Addr)(D:Addr)(W:Nat->Nat->List V->Hp->Prop)(n:Nat)(s':Shared):Prop
 | mk (i:Nat) (ys:List V) (its:List Value) (nn:Nat) (H':Hp) (h0:Inv Y [] τ H' s') (h1:tn i s'.heap) (h2:∀ b∈fp,H' b=none) (h3:H' D=none) (h4:s'.heap.get? D=some {cls:=.type "list",data:=.seq its.toArray nn}) (h5:Vals ys its) (h6:W i n ys H')
theorem z7L{tg iter elt:Expr}{ifs:List Expr}{scope:Scope}{cl:List (Str × Addr)}{N:List Str}{k:Nat}{fr:List Nat}{pos:Pos}{g:TG}{tt:TT}{te:TE}
  {F:List V->Hp->Prop} {RR:Value->Addr->Result->Shared->Prop} {it D C:Addr} {fp:List Addr} {tn:Nat->Heap->Prop} {J:It} {H1:Hp} {h3 h₁:Heap}
  (ok:CompOk X scope cl N k fr) (hc:X.calm=true)
  (hg:∀ C s H ex,PG (compCx X scope cl N C s H ex) tg g) (ht:∀ C s H ex,PIfs (compCx X scope cl N C s H ex) ifs tt) (he:∀ C s H ex,PE (compCx X scope cl N C s H ex) elt te)
  (hRR:CompRR X pins σ F RR) (I:Inv X pins σ H1 s) (T:Turn X.prog X.w X.K tg J fp it tn) (st0:tn 0 s.heap) (hf:∀ b∈fp,FpOk X pins H1 b) (hw:CompW J g tt te (compSt k fr σ) H1 F)
  (hD:s.heap.objs.size=D) (hp3:s.heap.push {cls:=.type "list",dict:=none,data:=.seq ([]:List Value).toArray}=h3) (hC:h3.objs.size=C)
  (hns₁:h₁.Ns C fun x=>List.lookup x ([]:List (Str × Value)).reverse) (hsb₁:Heap.SameBut C (h3.push {cls:=.type (if (some X.env).isSome=true then "dict" else "frame"),data:=.dict #[]}) h₁) :
  codeAny (model X.prog X.w) X.A (.compStart (.ListComp elt [⟨tg,iter,ifs,0⟩] scope pos) 0 (.ref it) (.ref D) {newEnv scope C X.env.globals cl X.env.qual none .none (some X.env) builtinsNs with scope:=relabel scope X.env}) (RR (.ref D) C) {s with heap:=h₁,toks:=s.toks + ([]:List (Str × Value)).length}:=by
 obtain⟨W,⟨m0,w0⟩,turn⟩:=hw
 have DF:H1 D=none:=I.hok.fresh (by rw[hD];exact Nat.le_refl _)
 have hDfp:=I.fpOk (b:=D) (by rw[hD];exact Nat.le_refl _) DF
 have up3:∀ b u,s.heap.get? b=some u->h3.get? b=some u:=fun b u e=>by rw[<- hp3];exact Heap.get?_push_of_some _ e
 have I3:Inv X pins σ H1 {s with heap:=h3}:=I.kept (t':=s.toks) up3
 have hD3:h3.get? D=some {cls:=.type "list",dict:=none,data:=.seq ([]:List Value).toArray}:=by rw[<- hD,<- hp3];exact Heap.get?_push_size _ rfl
 have sz3:C=D + 1:=by rw[<- hC,<- hp3,Heap.size_push,hD]
 have CF:H1 C=none:=I3.hok.fresh (by show h3.objs.size<=C;rw[hC];exact Nat.le_refl _)
 have hCfp:FpOk X pins H1 C:=I3.fpOk (b:=C) (by show h3.objs.size<=C;rw[hC];exact Nat.le_refl _) CF
 have CD:C≠D:=by rw[sz3];exact Nat.ne_of_gt (Nat.lt_succ_self _)
 have up1:∀ b u,h3.get? b=some u->h₁.get? b=some u:=fun b u e=>hsb₁.extBut b u (Nat.ne_of_lt (by have:=Heap.lt_size e;rw[hC]at this;exact this)) (Heap.get?_push_of_some _ e)
 have hfb:∀ b∈fp,b < D:=fun b hb=>by
  obtain⟨o,e,_⟩:=T.obj 0 _ st0 b hb
  have:=Heap.lt_size e
  rw[hD]at this;exact this
 let s3:Shared:={s with heap:=h3}
 let Y:Cx:=compCx X scope cl N C s3 H1 (D::fp)
 have yok:Y.Ok:={
  mod:=I.ok.mod
  kind:=ok.kind
  glob:=I.ok.glob
  blt:=I.ok.blt
  above:=by show h3.objs.size<=C;rw[hC];exact Nat.le_refl _
  inj:=fun x y c e1 e2=>I.ok.inj x y c (ok.sub x c e1) (ok.sub y c e2)
  has:=ok.has
  cab:=fun x c e _=>nomatch e
  hd:=fun _=>I.ok.hd hc
  frames:=I.ok.frames
  stk:=.inl rfl
  exf:=fun b hb=>by
   rcases List.mem_cons.mp hb with rfl | hb
   ·exact⟨Ne.symm CD,fun x c e=>hDfp.2.2.2.2.1 x c (ok.sub x c e)⟩
   ·exact⟨fun z=>by have q:=hfb b hb;have z':b=C:=z;rw[z',sz3]at q;exact absurd q (Nat.not_lt.mpr (Nat.le_succ _)),fun x c e=>(hf b hb).2.2.2.2.1 x c (ok.sub x c e)⟩
  bs:=fun b o e=>⟨(I3.bs b o e).1,(I3.bs b o e).2⟩
  bsz:=Nat.le_trans I.ok.bsz I3.sz
  noex:=fun b o e hb=>by
   rcases List.mem_cons.mp hb with rfl | hb
   ·have e1:=(I.bs b o e).1
    have:=Heap.lt_size e1
    rw[hD]at this
    exact Nat.lt_irrefl _ this
   ·rcases(hf b hb).2.2.2.1 with z | z
    ·exact I.ok.noex b o e z
    ·exact absurd (Nat.lt_of_lt_of_le (Heap.lt_size e) (Nat.le_trans I.ok.bsz z)) (Nat.lt_irrefl _)
  exfs:=fun b hb hb2=>by
   rcases List.mem_cons.mp hb with rfl | hb
   ·rcases List.mem_cons.mp (I.stkSub b hb2) with z | z
    ·exact hDfp.2.1 z
    ·exact hDfp.2.2.1 z
   ·rcases List.mem_cons.mp (I.stkSub b hb2) with z | z
    ·exact(hf b hb).2.1 z
    ·exact(hf b hb).2.2.1 z
  funs:=I3.stack
  frf:=I.stkFree}
 have neC:∀ b u,h3.get? b=some u->b≠C:=fun b u e=>Nat.ne_of_lt (by have:=Heap.lt_size e;rw[hC]at this;exact this)
 have IY:Inv Y [] (compSt k fr σ) H1 {s3 with heap:=h₁,toks:=s.toks + ([]:List (Str × Value)).length}:={
  ok:=yok
  os:=rfl
  bare:=I.bare
  base:=Un.kept up1
  loc:=by
   obtain⟨m,hn,hl⟩:=I3.loc
   refine⟨_,hns₁,fun i x v e1 e2 e3=>?_⟩
   obtain⟨t,j,rfl,e4,e5⟩:=z6d e2
   obtain⟨e6,e7,⟨c,e8⟩,e9,e10⟩:=ok.free t j x e4 e1
   obtain⟨u,ru,lk⟩:=hl j x v e6 e5 e7
   refine⟨u,ru,?_⟩
   rcases lk with ⟨z,_⟩ | ⟨_,c',e11,o,eo,ed⟩
   ·exact absurd z e10
   ·rw[ok.sub x c e8]at e11;cases e11
    exact .inr ⟨e9,c,e8,o,up1 _ _ eo,ed⟩
  cell:=fun x c e=>by
   obtain⟨v,o,eo,ed⟩:=I3.cell x c (ok.sub x c e)
   exact⟨v,o,up1 _ _ eo,ed⟩
  free:=CF
  freeC:=fun x c e=>I3.freeC x c (ok.sub x c e)
  pin:=fun p hp=>nomatch hp
  hok:=I3.hok.kept up1
  len:=by rw[z7K];exact ok.len.symm}
 have DY:D≠Y.env.locals:=Ne.symm CD
 have DYf:D ∉ Y.fs:=yok.exfs D List.mem_cons_self
 have Dfp:D ∉ fp:=fun z=>Nat.lt_irrefl _ (hfb D z)
 have pinD:∀ {σ':St} {H':Hp} {s':Shared} {its:List Value} {n:Nat},Inv Y [] σ' H' s'->H' D=none->s'.heap.get? D=some {cls:=.type "list",data:=.seq its.toArray n} ->
   Inv Y [(D,{cls:=.type "list",data:=.seq its.toArray n})] σ' H' s':=fun{σ' H' s' its n} J0 hn e=>J0.pins_of fun p hp=>by
  rcases List.mem_cons.mp hp with rfl | hp
  ·exact⟨e,hn,DY,DYf,fun v z=>nomatch z⟩
  ·exact nomatch hp
 have ffY:∀ {o:Obj} {H':Hp},(∀ b∈fp,H' b=none)->∀ b∈fp,FpOk Y [(D,o)] H' b:=fun{o H'} hn b hb =>
  ⟨hn b hb,(yok.exf b (List.mem_cons_of_mem _ hb)).1,yok.exfs b (List.mem_cons_of_mem _ hb),.inl (List.mem_cons_of_mem _ hb),(yok.exf b (List.mem_cons_of_mem _ hb)).2,fun p hp=>by
   have hp':p∈([]:List (Addr × Obj))++[(D,o)]:=hp
   have e:p=(D,o):=by simpa using hp'
   rw[e];exact fun z=>Dfp (by have z':D=b:=z;rw[z'];exact hb)⟩
 have loop:codeAny (model X.prog X.w) X.A (.compLoop (.ListComp elt [⟨tg,iter,ifs,0⟩] scope pos) 0 (.ref it) (.ref D) (compEnvC scope cl C X.env)) (RR (.ref D) C)
   {s3 with heap:=h₁,toks:=s.toks + ([]:List (Str × Value)).length}:=by
  refine codeAny_loop rfl (CompI Y (compSt k fr σ) tn fp D W) ?_ m0
   ⟨0,[],[],0,H1,IY,?_,fun b hb=>(hf b hb).1,DF,?_,.nil,w0⟩
  ·rintro n s4 ⟨i,ys,its,nn,H4,I4,st4,fr4,D4,e4,v4,w4⟩
   have P4:=pinD I4 D4 e4
   show wpAny _ X.A ((compTurn (.ListComp elt [⟨tg,iter,ifs,0⟩] scope pos) 0 (.ref it) (.ref D) (compEnvC scope cl C X.env)).onRaise (fun x=>do noteFrame x (compEnvC scope cl C X.env);theTreesLotGoes x)) _ _ s4
   refine wpAny_noted ?_
   rw[compTurn_list]
   refine wpAny_bind (wpAny_standAt (wpAny_bind ?_))
   rcases turn i n ys H4 w4 with ⟨stop,fin⟩ | ⟨go,small,step⟩
   ·refine wpAny_mono (T.done Y rfl rfl rfl hc i _ s4 _ H4 (fun _ _=>False) P4 (ffY fr4) st4 stop) (fun r s5 ⟨hr,I5⟩=>?_) fun _ _ z=>z.elim
    subst hr
    refine wpAny_pure ?_
    have e5:=(I5.pin _ (List.mem_cons_self)).1
    have fin5:Inv X pins σ H4 s5:=I3.call' (ch:=D::fp) I5.os I5.base I5.hok I5.bare fun b hb=>by
     rcases List.mem_cons.mp hb with rfl | hb
     ·exact⟨hDfp.2.2.2.1,hDfp.2.1,hDfp.2.2.2.2.1,hDfp.2.2.2.2.2⟩
     ·exact⟨(hf b hb).2.2.2.1,(hf b hb).2.1,(hf b hb).2.2.2.2.1,(hf b hb).2.2.2.2.2⟩
    obtain⟨m5,n5,_⟩:=I5.loc
    have szD:X.s₀.heap.objs.size<=D:=by have:=I.sz;rw[hD]at this;exact this
    have szC:X.s₀.heap.objs.size<=C:=by rw[sz3];exact Nat.le_succ_of_le szD
    exact hRR D C ys its nn H4 m5 s5 fin5 D4 szD hDfp.2.1 hDfp.2.2.2.2.1 hDfp.2.2.2.2.2 e5 v4 n5 I5.free szC hCfp.2.1 hCfp.2.2.2.2.1 hCfp.2.2.2.2.2 CD fin
   ·refine wpAny_mono (T.item Y rfl rfl rfl hc i _ s4 _ H4 (fun _ _=>False) P4 (ffY fr4) st4 go) (fun r s5 ⟨u,hr,h5⟩=>?_) fun _ _ z=>z.elim
    subst hr
    refine wpAny_bind (wpAny_mono h5 (fun _ s6 zfz=>?_) fun _ _ z=>z.elim)
    obtain⟨x,H6,I6,r6,y6,st6,fr6⟩:=zfz
    have I6':=I6.pinned (ffY fr6) (T.obj _ _ st6)
    refine wpAny_bind (wpAny_mono (hg C s3 H1 (D::fp) _ s6 _ H6 x u _ I6' r6 (step x H6 y6)) (fun _ s7 zfA=>?_) fun _ _ z=>z.elim)
    obtain⟨σ7,H7,I7,f7,q7⟩:=zfA
    refine wpAny_bind (wpAny_mono (ht C s3 H1 (D::fp) _ s7 σ7 H7 _ I7 q7) (fun b s8 zfB=>?_) fun _ _ z=>z.elim)
    obtain⟨H8,I8,q8⟩:=zfB
    have keep:∀ {s9:Shared} {H9:Hp},Inv Y ([(D,{cls:=.type "list",data:=.seq its.toArray nn})]++pinsAt fp s6.heap) σ7 H9 s9->tn (i + 1) s9.heap/\(∀ b∈fp,H9 b=none)/\H9 D=none/\s9.heap.get? D=some {cls:=.type "list",data:=.seq its.toArray nn}/\Inv Y [] (compSt k fr σ) H9 s9:=fun{s9 H9} I9=>by
     refine⟨T.keep _ _ _ st6 fun b hb o e=>(I9.pin (b,o) (List.mem_append_right _ (List.mem_append_right _ (z26 hb e)))).1,fun b hb=>?_,?_,?_,?_⟩
     ·obtain⟨o,e,d⟩:=T.obj _ _ st6 b hb
      exact(I9.pin (b,o) (List.mem_append_right _ (List.mem_append_right _ (z26 hb e)))).2.1
     ·exact(I9.pin _ (List.mem_append_right _ (List.mem_append_left _ List.mem_cons_self))).2.1
     ·exact(I9.pin _ (List.mem_append_right _ (List.mem_append_left _ List.mem_cons_self))).1
     ·exact(I9.pins_of (pins':=[]) fun p hp=>nomatch hp).weak f7.1.symm f7.2
    cases b with
    | false =>
     have q8:∃ m',m' < n/\W (i + 1) m' ys H8:=by simpa using q8
     obtain⟨m',hm,w8⟩:=q8
     obtain⟨a1,a2,a3,a4,a5⟩:=keep I8
     exact wpAny_pure ⟨rfl,m',hm,i + 1,ys,its,nn,H8,a5,a1,a2,a3,a4,v4,w8⟩
    | true =>
     have q8:te σ7 H8 fun y H4=>∃ m',m' < n/\W (i + 1) m' (ys++[y]) H4:=by simpa using q8
     refine wpAny_bind (wpAny_bind (wpAny_mono (he C s3 H1 (D::fp) _ s8 σ7 H8 _ I8 q8) (fun yv s9 zfC=>?_) fun _ _ z=>z.elim))
     obtain⟨y,H9,I9,r9,m',hm,w9⟩:=zfC
     obtain⟨a1,a2,a3,a4,a5⟩:=keep I9
     refine wpAny_bind (append_at (hsz:=by rw[List.size_toArray,<- v4.length];exact Nat.le_of_lt small) a4 fun h' hs' e'=>?_)
     refine wpAny_pure (wpAny_pure ⟨rfl,m',hm,i + 1,ys++[y],its++[yv],nn + 1,H9,?_,?_,a2,a3,?_,v4.append (.cons r9 .nil),w9⟩)
     ·exact a5.turned (t':=s9.toks) (fun b o hb e=>hs'.extBut b o hb e) a3 DY (.inl List.mem_cons_self) (yok.exf D List.mem_cons_self).2 fun p hp=>nomatch hp
     ·exact T.keep _ _ _ a1 fun b hb o e=>hs'.extBut b o (fun z=>Dfp (by rw[<- z];exact hb)) e
     ·show h'.get? D=_
      rw[e']
      simp
  ·exact T.keep 0 _ _ st0 fun b hb o e=>up1 _ _ (up3 _ _ e)
  ·exact up1 _ _ hD3
 exact codeAny_compStart_list loop (T.self _ 0 _ _ _ (T.keep 0 _ _ st0 fun b hb o e=>up1 _ _ (up3 _ _ e)) loop)
theorem z5h{tg iter elt:Expr}{ifs:List Expr}{scope:Scope}{cl:List (Str × Addr)}{N:List Str}{k:Nat}{fr:List Nat}{pos:Pos}{g:TG}{tt:TT}{te:TE}{itv:Value}{E:Value->Shared->Prop}
  {F:List V->Hp->Prop} {RR:Value->Addr->Result->Shared->Prop}
  (ok:CompOk X scope cl N k fr) (hc:X.calm=true)
  (hg:∀ C s H ex,PG (compCx X scope cl N C s H ex) tg g) (ht:∀ C s H ex,PIfs (compCx X scope cl N C s H ex) ifs tt) (he:∀ C s H ex,PE (compCx X scope cl N C s H ex) elt te)
  (h:PIE X pins σ tg (fun J H1=>CompW J g tt te (compSt k fr σ) H1 F) itv s)
  (hRR:CompRR X pins σ F RR) :
  wpAny (model X.prog X.w) X.A (newList []) (fun acc s₃=>wpAny (model X.prog X.w) X.A (newFunctionEnv scope X.env.globals cl [] X.env.qual none .none (some X.env)) (fun cenv s₄ =>
   codeAny (model X.prog X.w) X.A (.compStart (.ListComp elt [⟨tg,iter,ifs,0⟩] scope pos) 0 itv acc {cenv with scope:=relabel scope X.env}) (RR acc cenv.locals) s₄) E s₃) E s:=by
 obtain⟨it,fp,tn,J,H1,rfl,I,T,st0,hf,hw⟩:=h
 exact wpAny_newObj_type (wpAny_newFunctionEnv ok.nocell (by intro y hy;simp at hy) (fun h₁ hns₁ hsb₁=>z7L (s:=s) (h3:=s.heap.push {cls:=.type "list",dict:=none,data:=.seq ([]:List Value).toArray}) (h₁:=h₁) ok hc hg ht he hRR I T st0 hf hw rfl rfl rfl hns₁ hsb₁) ok.kind)
theorem zbd{tg iter elt:Expr}{ifs:List Expr}{scope:Scope}{cl:List (Str × Addr)}{N:List Str}{k:Nat}{fr:List Nat}{pos:Pos}{wi:TI}{g:TG}{tt:TT}{te:TE}
  (ok:CompOk X scope cl N k fr) (hc:X.calm=true) (hi:PI X tg iter wi)
  (hg:∀ C s H ex,PG (compCx X scope cl N C s H ex) tg g) (ht:∀ C s H ex,PIfs (compCx X scope cl N C s H ex) ifs tt) (he:∀ C s H ex,PE (compCx X scope cl N C s H ex) elt te)
  (hs:∀ x,foldedSetIterable iter X.env x=pure x:=by intro _;rfl):PE X (.ListComp elt [⟨tg,iter,ifs,0⟩] scope pos) (tComp k fr wi g tt te):=by
 intro pins s σ H Q I h
 rw[eval_ListComp]
 refine wpAny_comprehension_free (use:=none) rfl hs ok.clos ok.kind ok.names (thn (hi pins s σ H _ I h) fun v s1 h1=>thn h1 fun itv s2 h2=>?_)
 refine z5h ok hc hg ht he h2 fun D C ys its n H' m s' I' d1 d2 d3 d4 d5 e vv nC c1 c2 c3 c4 c5 cd fin=>?_
 refine⟨m,nC,fun h'' sb=>?_⟩
 have I2:Inv X pins σ H' {s' with heap:=h''}:=I'.turned (t':=s'.toks) (fun b o hb e=>sb.extBut b o hb e) c1 c3 (.inr c2) c4 c5
 have e2:h''.get? D=some {cls:=.type "list",data:=.seq its.toArray n}:=sb.extBut _ _ (Ne.symm cd) e
 exact⟨.ref D,upd H' D (.lst ys),I2.track (t':=s'.toks) d1 d3 d2 d4 d5 ⟨fin.1,its,n,vv,e2⟩,rfl,fin.2 D d1⟩
theorem z8t{i:Nat}{x:Str}{py spos:Pos}{tg iter elt:Expr}{ifs:List Expr}{scope:Scope}{cl:List (Str × Addr)}{N:List Str}{k:Nat}{fr:List Nat}{pos:Pos}{wi:TI}{g:TG}{tt:TT}{te:TE}
  (hN:X.N.Nodup) (hi':X.N[i]?=some x) (hx:Loc X.env.scope x) (ok:CompOk X scope cl N k fr) (hc:X.calm=true) (hi:PI X tg iter wi)
  (hg:∀ C s H ex,PG (compCx X scope cl N C s H ex) tg g) (ht:∀ C s H ex,PIfs (compCx X scope cl N C s H ex) ifs tt) (he:∀ C s H ex,PE (compCx X scope cl N C s H ex) elt te)
  (hsw:swapsWith (.ListComp elt [⟨tg,iter,ifs,0⟩] scope pos) (some (.Name x py)) spos.line X.env=pure true)
  (hs:∀ x,foldedSetIterable iter X.env x=pure x:=by intro _;rfl) (hf:X.fn x=true\/X.env.scope.names.lookup x=some .local:=by first | exact .inl rfl | exact .inr rfl | assumption) :
  PS X (.Assign [.Name x py] (.ListComp elt [⟨tg,iter,ifs,0⟩] scope pos) spos) (sComp i k fr wi g tt te):=by
 intro pins s σ H Dd I h
 rw[exec_Assign_Name_used _ _ _ _ hsw]
 refine wpAny_bind (wpAny_standAt (wpAny_bind ?_))
 show wpAny _ X.A (do let _ <- comprehension (.ListComp elt [⟨tg,iter,ifs,0⟩] scope pos) scope X.env _ (newList []) false (eval iter X.env) (some (assign (.Name x py) X.env))) _ _ s
 refine wpAny_bind (wpAny_mono (wpAny_comprehension_free (use:=some (assign (.Name x py) X.env)) (Q:=fun _ s'=>SP X pins Dd .next s') rfl hs ok.clos ok.kind ok.names (thn (hi pins s σ H _ I h) fun v s1 h1=>thn h1 fun itv s2 h2=>?_)) (fun _ s' hq=>wpAny_pure (wpAny_pure hq)) fun _ _ e=>e)
 refine z5h ok hc hg ht he h2 fun D C ys its n H' m s' I' d1 d2 d3 d4 d5 e vv nC c1 c2 c3 c4 c5 cd fin=>?_
 show wpAny _ X.A (assign (.Name x py) X.env (.ref D)) _ _ s'
 have I0:Inv X pins σ (upd H' D (.lst ys)) s':=I'.track (t':=s'.toks) d1 d3 d2 d4 d5 ⟨fin.1,its,n,vv,e⟩
 refine wpAny_assign_Name (z59 I0 hN hi' hx (show RelV (.ref D) (.ref D) from rfl) (fun s2 I2 zfD=>?_) hf)
 obtain⟨a,sb,ha⟩:=zfD
 have aC:C≠a:=by
  rcases ha with z | z
  ·rw[z];exact c3
  ·exact Ne.symm (c4 x a z)
 refine⟨m,nC.sameBut sb aC,fun h'' sb2=>?_⟩
 have HC:(upd H' D (.lst ys)) C=none:=by rw[zg cd];exact c1
 exact⟨_,_,I2.turned (t':=s2.toks) (fun b o hb e=>sb2.extBut b o hb e) HC c3 (.inr c2) c4 c5,fin.2 D d1⟩
end
end L2
namespace L2
open PySem PySem.Spec PyProof.Rows
def SqK(k:Bool)(K:PySem.W.Frag)(H:Hp)(a:Addr)(xs:List V):Prop:=if k=true then SqL K H a xs else SqT K H a xs
def HasK(k:Bool)(h:Heap)(a:Addr)(its:Array Value):Prop:=if k=true then h.IsList a its else h.IsTuple a its
def IterK(k:Bool)(h:Heap)(it a:Addr)(i:Nat):Prop:=if k=true then h.IsListIter it a i else h.IsTupleIter it a i
def iterObj(k:Bool)(a:Addr):Obj:={cls:=.type (if k=true then "list_iterator" else "tuple_iterator"),data:=.fields #[.ref a,.int 0 0]}
theorem IterK.at{k:Bool}{h h':Heap}{it a:Addr}{i:Nat}(x:IterK k h it a i)(e:∀ o,h.get? it=some o->h'.get? it=some o):IterK k h' it a i:=by
 cases k with
 | true=>exact Heap.IsListIter.at (show h.IsListIter it a i from x) e
 | false=>exact Heap.IsTupleIter.at (show h.IsTupleIter it a i from x) e
theorem IterK.get{k:Bool}{h:Heap}{it a:Addr}{i:Nat}(x:IterK k h it a i):∃ o,h.get? it=some o/\∀ v,o.data≠.cell v:=by
 cases k with
 | true=>obtain⟨o,e,_,d⟩:=(show h.IsListIter it a i from x);exact⟨o,e,fun v z=>by rw[d]at z;cases z⟩
 | false=>obtain⟨o,e,_,d⟩:=(show h.IsTupleIter it a i from x);exact⟨o,e,fun v z=>by rw[d]at z;cases z⟩
theorem HasK.at{k:Bool}{h h':Heap}{a:Addr}{its:Array Value}(x:HasK k h a its)(e:∀ o,h.get? a=some o->h'.get? a=some o):HasK k h' a its:=by
 cases k with
 | true=>exact Heap.IsList.at (show h.IsList a its from x) e
 | false=>obtain⟨o,q,r⟩:=(show h.IsTuple a its from x);exact⟨o,e o q,r⟩
theorem HasK.lt{k:Bool}{h:Heap}{a:Addr}{its:Array Value}(x:HasK k h a its):a < h.objs.size:=by
 cases k with
 | true=>obtain⟨_,e,_⟩:=(show h.IsList a its from x);exact Heap.lt_size e
 | false=>obtain⟨_,e,_⟩:=(show h.IsTuple a its from x);exact Heap.lt_size e
theorem Inv.hasK{X:Cx}{pins:List (Addr × Obj)}{σ:St}{H:Hp}{s:Shared}{k:Bool}{a:Addr}{xs:List V}(I:Inv X pins σ H s)(h:SqK k X.K H a xs) :
  ∃ its:List Value,Vals xs its/\HasK k s.heap a its.toArray/\xs.length<=sizeLine:=by
 cases k with
 | true =>
  obtain⟨its,r,p,z⟩:=I.list (show SqL X.K H a xs from h)
  exact⟨its,r,p.isList,z⟩
 | false =>
  obtain⟨its,r,⟨o,e,c,n,d⟩,z⟩:=I.tuple (show SqT X.K H a xs from h)
  exact⟨its,r,⟨o,e,c,n,d⟩,z⟩
theorem Inv.sqK_inj{X:Cx}{pins:List (Addr × Obj)}{σ:St}{H:Hp}{s:Shared}{k:Bool}{a:Addr}{xs ys:List V}(I:Inv X pins σ H s)(h:SqK k X.K H a xs)(h':SqK k X.K H a ys):xs=ys:=by
 cases k with
 | true=>exact I.list_inj h h'
 | false=>exact I.tuple_inj h h'
section
variable {prog:Program} {w:World} {A:Around} {E:Value->Shared->Prop} {s:Shared}
theorem z27{k:Bool}{it a:Addr}{i:Nat}{its:Array Value}{x:Value}{Q:Value->Shared->Prop}(hi:IterK k s.heap it a i)(ha:HasK k s.heap a its)(hx:its[i]?=some x)
  (hQ:∀ h',IterK k h' it a (i + 1)->Heap.SameBut it s.heap h'->Q x {s with heap:=h'}):wpAny (model prog w) A (Builtin.SmallTypes.nextOf (.ref it)) Q E s:=by
 cases k with
 | true=>exact wpAny_nextOf_list_item hi ha hx fun h' q1 q2=>hQ h' q1 q2
 | false =>
  have hit:s.heap.IsTupleIter it a i:=hi
  obtain⟨o,eo,ec,ed⟩:=id hit
  obtain⟨oa,ea,_,na,da⟩:=(show s.heap.IsTuple a its from ha)
  unfold Builtin.SmallTypes.nextOf
  refine wpAny_bind (wpAny_callSpecial?_slot (name:=Str.ofString "__next__") hit.typeIs F.slot_tuple_iterator_next (wpAny_call_entry F.slot_tuple_iterator_next hit.typeIs F.entry_tuple_iterator_next ?_ (F.args_tuple_iterator_next_1 _)))
  show wpAny (model prog w) _ (field (.ref it) 0 >>= _) _ E s
  refine wpAny_bind (wpAny_field eo ed (x:=.ref a) rfl ?_)
  show wpAny (model prog w) _ (if (Value.ref a == Value.none)=true then _ else _) _ E s
  rw[if_neg (by show ¬ false=true;exact Bool.false_ne_true)]
  show wpAny (model prog w) _ (field (.ref it) 1 >>= _) _ E s
  refine wpAny_bind (wpAny_field eo ed (x:=.int i 0) rfl ?_)
  show wpAny (model prog w) _ (seqItems? (.ref a) >>= _) _ E s
  refine wpAny_bind (wpAny_seqItems ea da ?_)
  simp only[Int.toNat_natCast,hx]
  refine wpAny_bind (wpAny_setField eo ed (by simp) (wpAny_pure ⟨x,rfl,wpAny_pure (hQ _ ?_ (Heap.SameBut.update ..))⟩))
  show Heap.IsTupleIter _ it a (i + 1)
  refine⟨_,Heap.get?_update_self _ eo (Obj.isFreed_of_fields (Obj.data_mapFields ed _)),(Obj.cls_mapFields ..).trans ec,?_⟩
  rw[Obj.data_mapFields ed]
  simp[rawInt]
theorem z2J{k:Bool}{it a:Addr}{i:Nat}{its:Array Value}{Q:Value->Shared->Prop}(hh:A.handled=none)(hi:IterK k s.heap it a i)(ha:HasK k s.heap a its)(hx:its[i]?=none)
  (hE:∀ h' e,Heap.ExtBut it s.heap h'->(∃ o,h'.get? e=some o/\o.cls=.type "StopIteration")->E (.ref e) {s with heap:=h'}):wpAny (model prog w) A (Builtin.SmallTypes.nextOf (.ref it)) Q E s:=by
 cases k with
 | true=>exact wpAny_nextOf_list_end hh hi ha hx hE
 | false =>
  have hit:s.heap.IsTupleIter it a i:=hi
  obtain⟨o,eo,ec,ed⟩:=id hit
  obtain⟨oa,ea,_,na,da⟩:=(show s.heap.IsTuple a its from ha)
  unfold Builtin.SmallTypes.nextOf
  refine wpAny_bind (wpAny_callSpecial?_slot (name:=Str.ofString "__next__") hit.typeIs F.slot_tuple_iterator_next (wpAny_call_entry F.slot_tuple_iterator_next hit.typeIs F.entry_tuple_iterator_next ?_ (F.args_tuple_iterator_next_1 _)))
  show wpAny (model prog w) _ (field (.ref it) 0 >>= _) _ E s
  refine wpAny_bind (wpAny_field eo ed (x:=.ref a) rfl ?_)
  show wpAny (model prog w) _ (if (Value.ref a == Value.none)=true then _ else _) _ E s
  rw[if_neg (by show ¬ false=true;exact Bool.false_ne_true)]
  show wpAny (model prog w) _ (field (.ref it) 1 >>= _) _ E s
  refine wpAny_bind (wpAny_field eo ed (x:=.int i 0) rfl ?_)
  show wpAny (model prog w) _ (seqItems? (.ref a) >>= _) _ E s
  refine wpAny_bind (wpAny_seqItems ea da ?_)
  simp only[Int.toNat_natCast,hx]
  refine wpAny_bind (wpAny_rule (wpAny_bind (wpAny_setField eo ed (by simp) ?_)))
  show wpAny (model prog w) _ (newExc (.type "StopIteration") [] >>= _) _ E _
  refine wpAny_bind ?_
  simp only[newExc,newTuple]
  refine wpAny_bind (wpAny_newObj_type ?_ (by size_fits))
  refine wpAny_bind (m:=firstArgMember _ _) (wpAny_of_eq (a:=Value.none) (by first | rfl | (simp only[firstArgMember];rfl)) (wpAny_newObj_type ?_ (by size_fits)))
  simp only[raiseNew]
  refine wpAny_bind (wpAny_handled ?_)
  first | rw[show A.in1.handled=none from hh] | rw[hh]
  exact wpAny_bind (wpAny_pure (wpAny_throw (hE _ _ (((Heap.SameBut.update ..).extBut.push _).push _) ⟨_,Heap.get?_push_size _ rfl,rfl⟩)))
theorem z1r{k:Bool}{a:Addr}{its:Array Value}{Q:Value->Shared->Prop}(ha:HasK k s.heap a its)(hQ:Q (.ref s.heap.objs.size) {s with heap:=s.heap.push (iterObj k a)}) :
  wpAny (model prog w) A (pyIter (.ref a)) Q E s:=by
 cases k with
 | true=>exact wpAny_pyIter_list ha hQ
 | false=>exact wpAny_pyIter_tuple ha hQ
theorem z2W{k:Bool}{a it:Addr}{h:Heap}(e:h.get? it=some (iterObj k a)):IterK k h it a 0:=by
 cases k with
 | true=>exact⟨_,e,rfl,rfl⟩
 | false=>exact⟨_,e,rfl,rfl⟩
end
structure ZipRec(h:Heap)(k1 k2:Bool)(z TI TO i1 i2 a b:Addr)(n:Nat)(f0:Value):Prop where
 zr:IsZip h z TI TO f0
 pi:IsPair h TI (.ref i1) (.ref i2)
 po:∃ u v,IsPair h TO u v
 it1:IterK k1 h i1 a n
 it2:IterK k2 h i2 b n
structure ZipFar(z TI TO i1 i2:Addr):Prop where
 d1:TI≠z
 d2:TO≠z
 d3:i1≠z
 d4:i2≠z
 d5:TI≠TO
 d6:TI≠i1
 d7:TI≠i2
 d8:TO≠i1
 d9:TO≠i2
 d10:i1≠i2
section
variable {prog:Program} {w:World} {A:Around} {E:Value->Shared->Prop} {s:Shared} {k1 k2:Bool} {z TI TO i1 i2 a b:Addr} {n:Nat} {xs ys:Array Value}
theorem z8u{x y:Value}{Q:Value->Shared->Prop}(D:ZipFar z TI TO i1 i2)(Z:ZipRec s.heap k1 k2 z TI TO i1 i2 a b n .none)(ha:HasK k1 s.heap a xs)(hb:HasK k2 s.heap b ys)
  (fa:a≠z/\a≠TO/\a≠i1/\a≠i2) (fb:b≠z/\b≠TO/\b≠i1/\b≠i2) (hx:xs[n]?=some x) (hy:ys[n]?=some y)
  (hQ:∀ h',ZipRec h' k1 k2 z TI TO i1 i2 a b (n + 1) (rawInt s.heap.objs.size)->IsPair h' s.heap.objs.size x y->h'.objs.size=s.heap.objs.size + 1 ->
   (∀ c o,c≠z->c≠TO->c≠i1->c≠i2->s.heap.get? c=some o->h'.get? c=some o)->Q (.ref s.heap.objs.size) {s with heap:=h'}) :
  wpAny (model prog w) A (Builtin.«zip.__next__» ⟨[.ref z],[]⟩) (fun fin s'=>∃ v,fin=.done (.ret v)/\Q v s') E s:=by
 obtain⟨zr,zi,⟨u,v,zo⟩,z1,z2⟩:=Z
 show wpAny (model prog w) A (field (.ref z) 2 >>= _) _ E s
 refine wpAny_bind (wpAny_field zr rfl (x:=.bool false) rfl ?_)
 show wpAny (model prog w) A (field (.ref z) 3 >>= _) _ E s
 refine wpAny_bind (wpAny_field zr rfl (x:=.ref TI) rfl (wpAny_bind (wpAny_seqItems zi rfl ?_)))
 show wpAny (model prog w) A (Builtin.SmallTypes.ownedTupleIsFree (.ref z) >>= _) _ E s
 refine wpAny_bind ?_
 unfold Builtin.SmallTypes.ownedTupleIsFree
 refine wpAny_bind (wpAny_field zr rfl (x:=.none) rfl (wpAny_pure ?_))
 simp only[if_true]
 refine wpAny_bind (wpAny_rule (wpAny_bind (wpAny_field zr rfl (x:=.ref TO) rfl (wpAny_bind (wpAny_setField_rec zr (by simp) fun g1 r1 e1=>?_)))))
 have r1':IsZip g1 z TI TO .ellipsis:=r1
 clear r1
 simp only[List.zipIdx_cons,List.zipIdx_nil,List.forIn_cons,List.forIn_nil]
 have kp1:∀ c o,c≠z->s.heap.get? c=some o->g1.get? c=some o:=fun c o q e=>e1.extBut c o q e
 refine wpAny_bind (wpAny_bind (wpAny_bind (wpAny_onRaise ?_)))
 show wpAny (model prog w) A (Builtin.SmallTypes.nextOf (.ref i1) >>= _) _ _ {s with heap:=g1}
 refine wpAny_bind (z27 (s:={s with heap:=g1}) (z1.at fun o e=>kp1 _ o D.d3 e) (ha.at fun o e=>kp1 _ o fa.1 e) hx fun g2 j1 e2=>wpAny_pure ?_)
 have kp2:∀ c o,c≠i1->g1.get? c=some o->g2.get? c=some o:=fun c o q e=>e2.extBut c o q e
 have o2:IsPair g2 TO u v:=kp2 _ _ D.d8 (kp1 _ _ D.d2 zo)
 refine wpAny_bind (wpAny_seqItems o2 rfl (wpAny_bind (wpAny_updateSeq_pair o2 fun g3 o3 e3=>wpAny_bind (wpAny_letGo (wpAny_pure ?_)))))
 have o3':IsPair g3 TO x v:=o3
 clear o3
 have kp3:∀ c o,c≠TO->g2.get? c=some o->g3.get? c=some o:=fun c o q e=>e3.extBut c o q e
 refine wpAny_bind (wpAny_bind (wpAny_onRaise ?_))
 show wpAny (model prog w) A (Builtin.SmallTypes.nextOf (.ref i2) >>= _) _ _ {s with heap:=g3}
 refine wpAny_bind (z27 (s:={s with heap:=g3}) (z2.at fun o e=>kp3 _ o D.d9.symm (kp2 _ o D.d10.symm (kp1 _ o D.d4 e))) (hb.at fun o e=>kp3 _ o fb.2.1 (kp2 _ o fb.2.2.1 (kp1 _ o fb.1 e))) hy fun g4 j2 e4=>wpAny_pure ?_)
 have kp4:∀ c o,c≠i2->g3.get? c=some o->g4.get? c=some o:=fun c o q e=>e4.extBut c o q e
 have o4:IsPair g4 TO x v:=kp4 _ _ D.d9 o3'
 refine wpAny_bind (wpAny_seqItems o4 rfl (wpAny_bind (wpAny_updateSeq_pair o4 fun g5 o5 e5=>wpAny_bind (wpAny_letGo (wpAny_pure (wpAny_pure ?_))))))
 have o5':IsPair g5 TO x y:=o5
 clear o5
 have kp5:∀ c o,c≠TO->g4.get? c=some o->g5.get? c=some o:=fun c o q e=>e5.extBut c o q e
 refine wpAny_bind (wpAny_seqItems o5' rfl (wpAny_bind (wpAny_newTuple ?_)))
 have sz5:g5.objs.size=s.heap.objs.size:=by rw[e5.1,e4.1,e3.1,e2.1,e1.1]
 have z5:IsZip g5 z TI TO .ellipsis:=kp5 _ _ D.d2.symm (kp4 _ _ D.d4.symm (kp3 _ _ D.d2.symm (kp2 _ _ D.d3.symm r1')))
 have all5:∀ c o,c≠z->c≠TO->c≠i1->c≠i2->s.heap.get? c=some o->g5.get? c=some o:=fun c o q1 q2 q3 q4 e=>kp5 _ _ q2 (kp4 _ _ q4 (kp3 _ _ q2 (kp2 _ _ q3 (kp1 _ _ q1 e))))
 have j1':IterK k1 g5 i1 a (n + 1):=j1.at fun o e=>kp5 _ _ D.d8.symm (kp4 _ _ D.d10 (kp3 _ _ D.d8.symm e))
 have j2':IterK k2 g5 i2 b (n + 1):=j2.at fun o e=>kp5 _ _ D.d9.symm e
 have zl:z < g5.objs.size:=Heap.lt_size z5
 refine wpAny_bind ?_
 unfold Builtin.SmallTypes.ownedTupleHandOut
 have z6:IsZip (g5.push {cls:=.type "tuple",data:=.seq #[x,y]}) z TI TO .ellipsis:=Heap.get?_push_of_some _ z5
 refine wpAny_bind (wpAny_setField_rec z6 (by simp) fun g7 r7 e7=>?_)
 have r7':IsZip g7 z TI TO (rawInt g5.objs.size):=r7
 refine wpAny_setField_rec r7' (by simp) fun g8 r8 e8=>?_
 have r8':IsZip g8 z TI TO (rawInt g5.objs.size):=r8
 have kp8:∀ c o,c≠z->g5.get? c=some o->g8.get? c=some o:=fun c o q e=>e8.extBut _ _ q (e7.extBut _ _ q (Heap.get?_push_of_some _ e))
 have t8:IsPair g8 g5.objs.size x y:=e8.extBut _ _ (Nat.ne_of_gt zl) (e7.extBut _ _ (Nat.ne_of_gt zl) (Heap.get?_push_size _ rfl))
 have sz8:g8.objs.size=g5.objs.size + 1:=by rw[e8.1,e7.1,Heap.size_push]
 rw[sz5]at r8' t8 sz8
 refine wpAny_pure ⟨_,rfl,?_⟩
 show Q (.ref g5.objs.size) _
 rw[sz5]
 exact hQ g8 ⟨r8',kp8 _ _ D.d1 (all5 _ _ D.d1 D.d5 D.d6 D.d7 zi),⟨_,_,kp8 _ _ D.d2 o5'⟩,j1'.at fun o e=>kp8 _ o D.d3 e,j2'.at fun o e=>kp8 _ o D.d4 e⟩ t8 sz8 fun c o q1 q2 q3 q4 e=>kp8 c o q1 (all5 c o q1 q2 q3 q4 e)
theorem z9U{Q:Fin->Shared->Prop}(hh:A.handled=none)(D:ZipFar z TI TO i1 i2)(Z:ZipRec s.heap k1 k2 z TI TO i1 i2 a b n .none)(ha:HasK k1 s.heap a xs)(hb:HasK k2 s.heap b ys)
  (fa:a≠z/\a≠TO/\a≠i1/\a≠i2) (fb:b≠z/\b≠TO/\b≠i1/\b≠i2) (hend:xs[n]?=none\/ys[n]?=none)
  (hE:∀ h' e,(∀ c o,c≠z->c≠TO->c≠i1->c≠i2->s.heap.get? c=some o->h'.get? c=some o)->(∃ o,h'.get? e=some o/\o.cls=.type "StopIteration")->E (.ref e) {s with heap:=h'}) :
  wpAny (model prog w) A (Builtin.«zip.__next__» ⟨[.ref z],[]⟩) Q E s:=by
 obtain⟨zr,zi,⟨u,v,zo⟩,z1,z2⟩:=Z
 show wpAny (model prog w) A (field (.ref z) 2 >>= _) _ E s
 refine wpAny_bind (wpAny_field zr rfl (x:=.bool false) rfl ?_)
 show wpAny (model prog w) A (field (.ref z) 3 >>= _) _ E s
 refine wpAny_bind (wpAny_field zr rfl (x:=.ref TI) rfl (wpAny_bind (wpAny_seqItems zi rfl ?_)))
 show wpAny (model prog w) A (Builtin.SmallTypes.ownedTupleIsFree (.ref z) >>= _) _ E s
 refine wpAny_bind ?_
 unfold Builtin.SmallTypes.ownedTupleIsFree
 refine wpAny_bind (wpAny_field zr rfl (x:=.none) rfl (wpAny_pure ?_))
 simp only[if_true]
 refine wpAny_bind (wpAny_rule (wpAny_bind (wpAny_field zr rfl (x:=.ref TO) rfl (wpAny_bind (wpAny_setField_rec zr (by simp) fun g1 r1 e1=>?_)))))
 have r1':IsZip g1 z TI TO .ellipsis:=r1
 clear r1
 simp only[List.zipIdx_cons,List.zipIdx_nil,List.forIn_cons,List.forIn_nil]
 have kp1:∀ c o,c≠z->s.heap.get? c=some o->g1.get? c=some o:=fun c o q e=>e1.extBut c o q e
 refine wpAny_bind (wpAny_bind (wpAny_bind (wpAny_onRaise ?_)))
 show wpAny (model prog w) A (Builtin.SmallTypes.nextOf (.ref i1) >>= _) _ _ {s with heap:=g1}
 cases hx:xs[n]? with
 | none =>
  refine wpAny_bind (z2J (s:={s with heap:=g1}) hh (z1.at fun o e=>kp1 _ o D.d3 e) (ha.at fun o e=>kp1 _ o fa.1 e) hx fun g2 e e2 he=>?_)
  obtain⟨oe,eo,ec⟩:=he
  have z2':IsZip g2 z TI TO .ellipsis:=e2 _ _ D.d3.symm r1'
  have ez:e≠z:=fun q=>by subst q;rw[z2']at eo;cases eo;simp at ec
  exact wpAny_setField_rec z2' (by simp) fun g3 _ e3=>hE g3 e (fun c o q1 _ q3 _ q=>e3.extBut _ _ q1 (e2 _ _ q3 (kp1 _ _ q1 q))) ⟨oe,e3.extBut _ _ ez eo,ec⟩
 | some x =>
  have hy:ys[n]?=none:=hend.resolve_left fun q=>by rw[hx]at q;cases q
  refine wpAny_bind (z27 (s:={s with heap:=g1}) (z1.at fun o e=>kp1 _ o D.d3 e) (ha.at fun o e=>kp1 _ o fa.1 e) hx fun g2 j1 e2=>wpAny_pure ?_)
  have kp2:∀ c o,c≠i1->g1.get? c=some o->g2.get? c=some o:=fun c o q e=>e2.extBut c o q e
  have o2:IsPair g2 TO u v:=kp2 _ _ D.d8 (kp1 _ _ D.d2 zo)
  refine wpAny_bind (wpAny_seqItems o2 rfl (wpAny_bind (wpAny_updateSeq_pair o2 fun g3 o3 e3=>wpAny_bind (wpAny_letGo (wpAny_pure ?_)))))
  have kp3:∀ c o,c≠TO->g2.get? c=some o->g3.get? c=some o:=fun c o q e=>e3.extBut c o q e
  refine wpAny_bind (wpAny_bind (wpAny_onRaise ?_))
  show wpAny (model prog w) A (Builtin.SmallTypes.nextOf (.ref i2) >>= _) _ _ {s with heap:=g3}
  refine wpAny_bind (z2J (s:={s with heap:=g3}) hh (z2.at fun o e=>kp3 _ o D.d9.symm (kp2 _ o D.d10.symm (kp1 _ o D.d4 e))) (hb.at fun o e=>kp3 _ o fb.2.1 (kp2 _ o fb.2.2.1 (kp1 _ o fb.1 e))) hy fun g4 e e4 he=>?_)
  obtain⟨oe,eo,ec⟩:=he
  have z4:IsZip g4 z TI TO .ellipsis:=e4 _ _ D.d4.symm (kp3 _ _ D.d2.symm (kp2 _ _ D.d3.symm r1'))
  have ez:e≠z:=fun q=>by subst q;rw[z4]at eo;cases eo;simp at ec
  exact wpAny_setField_rec z4 (by simp) fun g5 _ e5=>hE g5 e (fun c o q1 q2 q3 q4 q=>e5.extBut _ _ q1 (e4 _ _ q4 (kp3 _ _ q2 (kp2 _ _ q3 (kp1 _ _ q1 q))))) ⟨oe,e5.extBut _ _ ez eo,ec⟩
end
section
variable {prog:Program} {w:World} {A:Around} {E:Value->Shared->Prop} {s:Shared} {k1 k2:Bool} {z TI TO i1 i2 a b:Addr} {n:Nat} {xs ys:Array Value}
theorem z5i{x y:Value}{Q:Option Value->Shared->Prop}(D:ZipFar z TI TO i1 i2)(Z:ZipRec s.heap k1 k2 z TI TO i1 i2 a b n .none)(ha:HasK k1 s.heap a xs)(hb:HasK k2 s.heap b ys)
  (fa:a≠z/\a≠TO/\a≠i1/\a≠i2) (fb:b≠z/\b≠TO/\b≠i1/\b≠i2) (hx:xs[n]?=some x) (hy:ys[n]?=some y)
  (hQ:∀ h',ZipRec h' k1 k2 z TI TO i1 i2 a b (n + 1) (rawInt s.heap.objs.size)->IsPair h' s.heap.objs.size x y->h'.objs.size=s.heap.objs.size + 1 ->
   (∀ c o,c≠z->c≠TO->c≠i1->c≠i2->s.heap.get? c=some o->h'.get? c=some o)->Q (some (.ref s.heap.objs.size)) {s with heap:=h'}) :
  wpAny (model prog w) A (pyNext (.ref z)) Q E s:=by
 have ty:s.TypeIs (.ref z) "zip":=⟨_,Z.zr,rfl⟩
 unfold pyNext
 refine wpAny_bind (wpAny_attempt (wpAny_callSpecial?_slot (name:=Str.ofString "__next__") ty F.slot_zip_next (wpAny_call_entry F.slot_zip_next ty F.entry_zip_next ?_ (F.args_zip_next_1 _))))
 exact z8u D Z ha hb fa fb hx hy fun h' q1 q2 q3 q4=>wpAny_pure (hQ h' q1 q2 q3 q4)
theorem z6e{Q:Option Value->Shared->Prop}(hh:A.handled=none)(D:ZipFar z TI TO i1 i2)(Z:ZipRec s.heap k1 k2 z TI TO i1 i2 a b n .none)(ha:HasK k1 s.heap a xs)(hb:HasK k2 s.heap b ys)
  (fa:a≠z/\a≠TO/\a≠i1/\a≠i2) (fb:b≠z/\b≠TO/\b≠i1/\b≠i2) (hend:xs[n]?=none\/ys[n]?=none)
  (hQ:∀ h',(∀ c o,c≠z->c≠TO->c≠i1->c≠i2->s.heap.get? c=some o->h'.get? c=some o)->Q none {s with heap:=h'}):wpAny (model prog w) A (pyNext (.ref z)) Q E s:=by
 have ty:s.TypeIs (.ref z) "zip":=⟨_,Z.zr,rfl⟩
 unfold pyNext
 refine wpAny_bind (wpAny_attempt (wpAny_callSpecial?_slot (name:=Str.ofString "__next__") ty F.slot_zip_next (wpAny_call_entry F.slot_zip_next ty F.entry_zip_next ?_ (F.args_zip_next_1 _))))
 refine z9U hh D Z ha hb fa fb hend fun h' e kp he=>?_
 obtain⟨o,ho,hc⟩:=he
 exact wpAny_bind (wpAny_isInstance (T:="StopIteration") (b:=true) ⟨o,ho,hc⟩ isSubtype_stop (wpAny_pure (hQ _ kp)))
abbrev zG1(h:Heap)(k1:Bool)(a:Addr):Heap:=h.push (iterObj k1 a)
abbrev zG2(h:Heap)(k1 k2:Bool)(a b:Addr):Heap:=(zG1 h k1 a).push (iterObj k2 b)
abbrev zG3(h:Heap)(k1 k2:Bool)(a b:Addr):Heap:=(zG2 h k1 k2 a b).push {cls:=.type "tuple",data:=.seq #[.ref h.objs.size,.ref (zG1 h k1 a).objs.size]}
abbrev zG4(h:Heap)(k1 k2:Bool)(a b:Addr):Heap:=(zG3 h k1 k2 a b).push {cls:=.type "tuple",data:=.seq #[.none,.none]}
abbrev zG5(h:Heap)(k1 k2:Bool)(a b:Addr):Heap:=(zG4 h k1 k2 a b).push {cls:=.type "zip",data:=.fields #[.none,.bool false,.bool false,.ref (zG2 h k1 k2 a b).objs.size,.ref (zG3 h k1 k2 a b).objs.size]}
theorem z7M(k1 k2:Bool)(a b:Addr)(xs ys:Array Value):Meets (Builtin.«zip.__new__» ⟨[.type "zip",.ref a,.ref b],[]⟩) (fun _ R s=>HasK k1 s.heap a xs/\HasK k2 s.heap b ys /\
   R (.ok (.ret (.ref (zG4 s.heap k1 k2 a b).objs.size))) {s with heap:=zG5 s.heap k1 k2 a b}) :=
 .of_wp fun prog w A R s h=>by
  obtain⟨hp,g,d,tk,os⟩:=s
  obtain⟨p1,p2,h⟩:=h
  have hsub:=sub_zip
  have q1:HasK k1 (Shared.heap ⟨hp,g,d,tk,os⟩) a xs:=p1
  have q2:HasK k2 (Shared.heap ⟨hp.push (iterObj k1 a),g,d,tk,os⟩) b ys:=p2.at fun o e=>Heap.get?_push_of_some _ e
  wp_walk using z1r q1,z1r q2
  exact⟨_,rfl,h⟩
theorem z8v{Q:Value->Shared->Prop}(ha:HasK k1 s.heap a xs)(hb:HasK k2 s.heap b ys)
  (h:∀ h',ZipRec h' k1 k2 (s.heap.objs.size + 4) (s.heap.objs.size + 2) (s.heap.objs.size + 3) s.heap.objs.size (s.heap.objs.size + 1) a b 0 .none->(∀ c o,s.heap.get? c=some o->h'.get? c=some o)->Q (.ref (s.heap.objs.size + 4)) {s with heap:=h'}) :
  wpAny (model prog w) A (call (.type "zip") [.ref a,.ref b]) Q E s:=by
 refine callType_new F.called_zip (by decide) (F.typeCall_zip_2 _ _) (F.newCall_zip_2 _ _) (fun obj=>F.args_object_init_3 obj _ _) F.entry_zip_new (z7M k1 k2 a b xs ys) ⟨ha,hb,?_⟩
 have n1:(zG1 s.heap k1 a).objs.size=s.heap.objs.size + 1:=Heap.size_push ..
 have n2:(zG2 s.heap k1 k2 a b).objs.size=s.heap.objs.size + 2:=by rw[Heap.size_push,n1]
 have n3:(zG3 s.heap k1 k2 a b).objs.size=s.heap.objs.size + 3:=by rw[Heap.size_push,n2]
 have n4:(zG4 s.heap k1 k2 a b).objs.size=s.heap.objs.size + 4:=by rw[Heap.size_push,n3]
 have up:∀ {g:Heap} {o:Obj} {c:Addr} {u:Obj},g.get? c=some u->(g.push o).get? c=some u:=fun e=>Heap.get?_push_of_some _ e
 have g5:(zG5 s.heap k1 k2 a b).get? (zG4 s.heap k1 k2 a b).objs.size=some _:=Heap.get?_push_size _ rfl
 have g4:(zG5 s.heap k1 k2 a b).get? (zG3 s.heap k1 k2 a b).objs.size=some _:=up (Heap.get?_push_size _ rfl)
 have g3:(zG5 s.heap k1 k2 a b).get? (zG2 s.heap k1 k2 a b).objs.size=some _:=up (up (Heap.get?_push_size _ rfl))
 have g2:(zG5 s.heap k1 k2 a b).get? (zG1 s.heap k1 a).objs.size=some (iterObj k2 b):=up (up (up (Heap.get?_push_size _ (by cases k2 <;> rfl))))
 have g1:(zG5 s.heap k1 k2 a b).get? s.heap.objs.size=some (iterObj k1 a):=up (up (up (up (Heap.get?_push_size _ (by cases k1 <;> rfl)))))
 show _/\_
 rw[n2,n3,n4]at g5
 rw[n1,n2]at g3
 rw[n3]at g4
 rw[n1]at g2
 rw[n4]
 exact⟨⟨_,g5,rfl⟩,h _ ⟨g5,g3,⟨_,_,g4⟩,z2W g1,z2W g2⟩ fun c o e=>up (up (up (up (up e))))⟩
end
def Itz(K:PySem.W.Frag)(k1 k2:Bool)(a b:Addr):It :=
  ⟨fun i H=>∃ xs ys x y,SqK k1 K H a xs/\SqK k2 K H b ys/\xs[i]?=some x/\ys[i]?=some y,
   fun i H v H'=>∃ p x y,v=.ref p/\H p=none/\H'=upd H p (.tup [x,y])/\(∀ xs,SqK k1 K H a xs->xs[i]?=some x)/\∀ ys,SqK k2 K H b ys->ys[i]?=some y,
   fun i H=>∃ xs ys,SqK k1 K H a xs/\SqK k2 K H b ys/\(xs.length<=i\/ys.length<=i)⟩
theorem z9V{P:Program}{w:World}{K:PySem.W.Frag}{elts:List Expr}{c:Nat}{pos:Pos}{k1 k2:Bool}{z TI TO i1 i2 a b:Addr}(D:ZipFar z TI TO i1 i2)(fa:a≠z/\a≠TO/\a≠i1/\a≠i2)(fb:b≠z/\b≠TO/\b≠i1/\b≠i2) :
  Turn P w K (.Tuple elts c pos) (Itz K k1 k2 a b) [z,TI,TO,i1,i2] z (fun i h=>ZipRec h k1 k2 z TI TO i1 i2 a b i .none) where
 mem:=by simp
 obj:=fun i h st q hq=>by
  obtain⟨zr,zi,⟨u,v,zo⟩,z1,z2⟩:=st
  simp only[List.mem_cons,List.not_mem_nil,or_false]at hq
  rcases hq with rfl | rfl | rfl | rfl | rfl
  ·exact⟨_,zr,fun v e=>nomatch e⟩
  ·exact⟨_,zi,fun v e=>nomatch e⟩
  ·exact⟨_,zo,fun v e=>nomatch e⟩
  ·exact z1.get
  ·exact z2.get
 keep:=fun i h h' st k=>by
  obtain⟨zr,zi,⟨u,v,zo⟩,z1,z2⟩:=st
  exact⟨k _ (by simp) _ zr,k _ (by simp) _ zi,⟨u,v,k _ (by simp) _ zo⟩,z1.at fun o e=>k _ (by simp) o e,z2.at fun o e=>k _ (by simp) o e⟩
 item:=by
  intro X hP hw hK hc i pins s σ H E I hf st hg
  subst hP hw hK
  obtain⟨xs,ys,x,y,sa,sb,hx,hy⟩:=hg
  obtain⟨ia,ra,ha,za⟩:=I.hasK sa
  obtain⟨ib,rb,hb,zb⟩:=I.hasK sb
  obtain⟨u,hu,ru⟩:=ra.get hx
  obtain⟨v,hv,rv⟩:=rb.get hy
  refine z5i D st ha hb fa fb (x:=u) (y:=v) (by simpa using hu) (by simpa using hv) fun h' Z' t' sz' kp=>?_
  refine⟨_,rfl,wpAny_letOwnedTupleGo_zip Z'.zr fun h'' z'' sb''=>?_⟩
  have lt:∀ {c o},s.heap.get? c=some o->s.heap.objs.size≠c:=fun e=>Nat.ne_of_gt (Heap.lt_size e)
  have hz:s.heap.objs.size≠z:=lt st.zr
  have kp2:∀ c o,c ∉ [z,TI,TO,i1,i2]->s.heap.get? c=some o->h''.get? c=some o:=fun c o hc e=>by
   simp only[List.mem_cons,List.not_mem_nil,or_false,not_or]at hc
   exact sb''.extBut _ _ hc.1 (kp c o hc.1 hc.2.2.1 hc.2.2.2.1 hc.2.2.2.2 e)
  have nH:H s.heap.objs.size=none:=I.hok.fresh (Nat.le_refl _)
  have frL:∀ q∈[z,TI,TO,i1,i2],H q=none:=fun q hq=>(hf q hq).1
  have neT:∀ q u,H q=some u->q≠s.heap.objs.size:=fun q u e=>zj e nH
  refine⟨.ref s.heap.objs.size,upd H s.heap.objs.size (.tup [x,y]),?_,rfl,⟨_,x,y,rfl,nH,rfl,fun xs' q=>by rw[I.sqK_inj q sa];exact hx,fun ys' q=>by rw[I.sqK_inj q sb];exact hy⟩,?_,fun q hq=>?_⟩
  ·refine Inv.step (s:=s) (h':=h'') (g':=s.gens) (d':=s.drawn) (t':=s.toks) (ch:=[z,TI,TO,i1,i2]) I (fun q hq=>?_) (fun q o _ _ hc e _=>kp2 q o hc e) (fun q o _ _ hc e _=>⟨o.slots,kp2 q o hc e⟩) (fun q o hc e n=>?_) (fun q o hc e=>⟨o,kp2 q o hc e⟩)
    (fun q xs e=>by rw[zg (neT q _ e)];exact e) (fun q o u e=>by rw[zg (neT q _ e)];exact e) (fun q ps e=>⟨#[],by rw[zg (neT q _ e),e];simp⟩) (fun m hm=>?_) (fun q o e=>?_) I.bare
   ·exact⟨(hf q hq).2.2.2.1,(hf q hq).2.1,(hf q hq).2.2.2.2.1,(hf q hq).2.2.2.2.2⟩
   ·rw[zg (fun zz=>lt e zz.symm)];exact n
   ·obtain⟨o,es,ep,ho,r⟩:=hm
    exact⟨o,es,ep,kp2 _ o (fun hq=>(hf _ hq).2.1 rfl) ho,r⟩
   ·have notin:∀ q u,H q=some u->q ∉ [z,TI,TO,i1,i2]:=fun q u e hq=>by rw[frL q hq]at e;cases e
    by_cases hq:q=s.heap.objs.size
    ·subst hq
     rw[zk]at e
     cases e
     exact⟨by show 2<=sizeLine;decide,[u,v],.cons ru (.cons rv .nil),⟨_,sb''.extBut _ _ hz t',rfl,_,rfl⟩⟩
    ·rw[zg hq]at e
     refine(I.hok q o e).stay (fun c w' hc r=>kp2 c w' ?_ r) (fun c r=>by rw[zg (neT c _ r)];exact r) fun c xs r=>by rw[zg (neT c _ r)];exact r
     rcases hc with rfl | hc
     ·exact notin _ _ e
     ·exact notin _ _ hc
  ·obtain⟨zr,zi,⟨u',v',zo⟩,z1,z2⟩:=Z'
   exact⟨z'',sb''.extBut _ _ D.d1 zi,⟨u',v',sb''.extBut _ _ D.d2 zo⟩,z1.at fun o e=>sb''.extBut _ o D.d3 e,z2.at fun o e=>sb''.extBut _ o D.d4 e⟩
  ·rw[zg]
   ·exact frL q hq
   ·obtain⟨zr,zi,⟨u',v',zo⟩,z1,z2⟩:=st
    simp only[List.mem_cons,List.not_mem_nil,or_false]at hq
    rcases hq with rfl | rfl | rfl | rfl | rfl
    ·exact fun zz=>lt zr zz.symm
    ·exact fun zz=>lt zi zz.symm
    ·exact fun zz=>lt zo zz.symm
    ·obtain⟨o,e,_⟩:=z1.get;exact fun zz=>lt e zz.symm
    ·obtain⟨o,e,_⟩:=z2.get;exact fun zz=>lt e zz.symm
 done:=by
  intro X hP hw hK hc i pins s σ H E I hf st hg
  subst hP hw hK
  obtain⟨xs,ys,sa,sb,hx⟩:=hg
  obtain⟨ia,ra,ha,za⟩:=I.hasK sa
  obtain⟨ib,rb,hb,zb⟩:=I.hasK sb
  have la:=ra.length
  have lb:=rb.length
  refine z6e (I.ok.hd hc) D st ha hb fa fb (hx.imp (fun q=>by simp;omega) fun q=>by simp;omega) fun h' kp=>⟨rfl,?_⟩
  have kp2:∀ c o,c ∉ [z,TI,TO,i1,i2]->s.heap.get? c=some o->h'.get? c=some o:=fun c o hc e=>by
   simp only[List.mem_cons,List.not_mem_nil,or_false,not_or]at hc
   exact kp c o hc.1 hc.2.2.1 hc.2.2.2.1 hc.2.2.2.2 e
  have notin:∀ q u,H q=some u->q ∉ [z,TI,TO,i1,i2]:=fun q u e hq=>by rw[(hf q hq).1]at e;cases e
  refine Inv.step (s:=s) (h':=h') (g':=s.gens) (d':=s.drawn) (t':=s.toks) (ch:=[z,TI,TO,i1,i2]) I (fun q hq=>?_) (fun q o _ _ hc e _=>kp2 q o hc e) (fun q o _ _ hc e _=>⟨o.slots,kp2 q o hc e⟩) (fun _ _ _ _ n=>n)
   (fun q o hq e=>?_) (fun _ _ e=>e) (fun _ _ _ e=>e) (fun q ps e=>⟨#[],by rw[e];simp⟩) (fun m hm=>?_) (fun q o e=>?_) I.bare
  ·exact⟨(hf q hq).2.2.2.1,(hf q hq).2.1,(hf q hq).2.2.2.2.1,(hf q hq).2.2.2.2.2⟩
  ·exact⟨o,kp2 q o hq e⟩
  ·obtain⟨o,es,ep,ho,r⟩:=hm
   exact⟨o,es,ep,kp2 _ o (fun hq=>(hf _ hq).2.1 rfl) ho,r⟩
  ·refine(I.hok q o e).stay (fun c w' hc r=>kp2 c w' ?_ r) (fun _ r=>r) fun _ _ r=>r
   rcases hc with rfl | hc
   ·exact notin _ _ e
   ·exact notin _ _ hc
 self:=fun _ _ _ _ _ st h=>wpAny_pyIter_zip st.zr h
def iZip(K:PySem.W.Frag)(ta:TA):TI:=fun σ H R=>ta σ H fun vs H1=>∃ k1 k2 a b xs ys,vs=[.ref a,.ref b]/\SqK k1 K H1 a xs/\SqK k2 K H1 b ys/\R (Itz K k1 k2 a b) H1
theorem zcL{X:Cx}{elts:List Expr}{c:Nat}{tp:Pos}{a b:Expr}{ta:TA}{p pos:Pos}(hg:Gl X "zip")(hm:X.mg "zip"=none)(ha:PA X [a,b] ta)(hs:starEach [a,b] X.env=[(false,eval a X.env),(false,eval b X.env)]:=by rfl)
  (hs2:starEach [b] X.env=[(false,eval b X.env)]:=by rfl):PI X (.Tuple elts c tp) (.Call (.Name "zip" p) [a,b] [] pos) (iZip X.K ta):=by
 intro pins s σ H R I h
 refine Call_ (z2e I hg hm (u:=.type "zip") rfl (PyProof.Rows.callWith_type1 (thn (ha pos pins s σ H _ I h) fun us s1 zfE=>?_) (by rw[hs,hs2]) (by rw[hs2];rfl)))
 obtain⟨vs,H1,I1,r1,q1⟩:=zfE
 obtain⟨k1,k2,a,b,xs,ys,e,sa,sb,q⟩:=q1
 subst e
 obtain⟨u,v,rfl,ru,rv⟩:=vals2 r1
 cases (show u=Value.ref a from ru)
 cases (show v=Value.ref b from rv)
 obtain⟨ia,ra,ha',za⟩:=I1.hasK sa
 obtain⟨ib,rb,hb',zb⟩:=I1.hasK sb
 refine z8v ha' hb' fun h' Z kp=>?_
 refine wpAny_pyIter_zip Z.zr ?_
 have la:LT.lt (α:=Nat) a s1.heap.objs.size:=ha'.lt
 have lb:LT.lt (α:=Nat) b s1.heap.objs.size:=hb'.lt
 generalize hn:s1.heap.objs.size=n at *
 refine⟨n + 4,[n + 4,n + 2,n + 3,n,n + 1],fun i h=>ZipRec h k1 k2 (n + 4) (n + 2) (n + 3) n (n + 1) a b i .none,Itz X.K k1 k2 a b,H1,rfl,I1.kept (t':=s1.toks) kp,z9V ?_ ?_ ?_,Z,fun q hq=>?_,q⟩
 ·constructor <;> (intro e;have e':(_:Nat)=_:=e;omega)
 ·refine⟨?_,?_,?_,?_⟩ <;> (intro e;have e':(_:Nat)=_:=e;omega)
 ·refine⟨?_,?_,?_,?_⟩ <;> (intro e;have e':(_:Nat)=_:=e;omega)
 ·have hq':s1.heap.objs.size<=q:=by
   rw[hn]
   simp only[List.mem_cons,List.not_mem_nil,or_false]at hq
   rcases hq with rfl | rfl | rfl | rfl | rfl <;> first | exact Nat.le_refl _ | exact Nat.le_add_right _ _
  exact I1.fpOk hq' (I1.hok.fresh hq')
end L2
namespace L2
open PySem PySem.Spec PyProof.Rows
section
variable {prog:Program} {w:World} {A:Around} {E:Value->Shared->Prop} {s:Shared}
theorem drawsK{k:Bool}(hh:A.handled=none){it a:Addr}(hne:a≠it)(its:Array Value) :
  Draws prog w A it [it,a] its.size (fun i x=>its[i]?=some x) (fun i h=>IterK k h it a i/\HasK k h a its) where
 live:=fun i h st=>by obtain⟨o,e,_⟩:=st.1.get;exact⟨o,e⟩
 frame:=fun i h h' st hk=>⟨st.1.at fun o e=>hk it (by simp) o e,st.2.at fun o e=>hk a (by simp) o e⟩
 item:=fun i s Q E hi st hQ=>by
  have hx:its[i]?=some its[i]:=Array.getElem?_eq_getElem hi
  exact z27 st.1 st.2 hx fun h' q1 q2=>hQ _ h' s.toks hx ⟨q1,st.2.at fun o e=>q2.extBut _ _ hne e⟩ q2
 done:=fun s Q E st hE=>z2J hh st.1 st.2 (by simp) hE
theorem drawsEnd{k:Bool}(hh:A.handled=none){it a:Addr}(its:Array Value){i:Nat}(hi:its[i]?=none) :
  Draws prog w A it [it,a] i (fun _ _=>True) (fun j h=>j=i/\IterK k h it a i/\HasK k h a its) where
 live:=fun _ h st=>by obtain⟨o,e,_⟩:=st.2.1.get;exact⟨o,e⟩
 frame:=fun _ h h' st hk=>⟨st.1,st.2.1.at fun o e=>hk it (by simp) o e,st.2.2.at fun o e=>hk a (by simp) o e⟩
 item:=fun j s Q E hj st _=>absurd hj (by rw[st.1];exact Nat.lt_irrefl i)
 done:=fun s Q E st hE=>z2J hh st.2.1 st.2.2 hi hE
abbrev eG1(h:Heap)(k:Bool)(a:Addr):Heap:=h.push (iterObj k a)
abbrev eG2(h:Heap)(k:Bool)(a:Addr):Heap:=(eG1 h k a).push {cls:=.type "enumerate",data:=.fields #[.none,.bool false,.ref h.objs.size,rawInt 0,.none,.none]}
theorem z6f(k:Bool)(a:Addr)(xs:Array Value):Meets (Builtin.«enumerate.__new__» ⟨[.type "enumerate",.ref a],[]⟩) (fun _ R s=>HasK k s.heap a xs/\R (.ok (.ret (.ref (eG1 s.heap k a).objs.size))) {s with heap:=eG2 s.heap k a}) :=
 .of_wp fun prog w A R s h=>by
  obtain⟨hp,g,d,tk,os⟩:=s
  obtain⟨p1,h⟩:=h
  have hsub:=sub_enumerate
  have q1:HasK k (Shared.heap ⟨hp,g,d,tk,os⟩) a xs:=p1
  wp_walk using z1r q1
  all_goals first | exact⟨_,rfl,h⟩ | skip
  refine wpAny_stack_any fun st=>wpAny_pure ?_
  split
  ·rename_i c _ _ _ _ _
   cases (c == Value.type "enumerate")
   ·wp_walk using z1r q1
    exact⟨_,rfl,h⟩
   ·wp_walk using z1r q1
    exact⟨_,rfl,h⟩
  ·wp_walk using z1r q1
   exact⟨_,rfl,h⟩
theorem z7N{k:Bool}{a:Addr}{xs:Array Value}{Q:Value->Shared->Prop}(ha:HasK k s.heap a xs)
  (h:∀ h',IsEnum h' (s.heap.objs.size + 1) s.heap.objs.size 0 .none->IterK k h' s.heap.objs.size a 0->(∀ c o,s.heap.get? c=some o->h'.get? c=some o)->Q (.ref (s.heap.objs.size + 1)) {s with heap:=h'}) :
  wpAny (model prog w) A (call (.type "enumerate") [.ref a]) Q E s:=by
 refine callType_new F.called_enumerate (by decide) (F.typeCall_enumerate_1 _) (F.newCall_enumerate_1 _) (fun ob=>F.args_object_init_2 ob _) F.entry_enumerate_new (z6f k a xs) ⟨ha,?_⟩
 have n1:(eG1 s.heap k a).objs.size=s.heap.objs.size + 1:=Heap.size_push ..
 have up:∀ {g:Heap} {o:Obj} {c:Addr} {u:Obj},g.get? c=some u->(g.push o).get? c=some u:=fun e=>Heap.get?_push_of_some _ e
 have g2:(eG2 s.heap k a).get? (eG1 s.heap k a).objs.size=some _:=Heap.get?_push_size _ rfl
 have g1:(eG2 s.heap k a).get? s.heap.objs.size=some (iterObj k a):=up (Heap.get?_push_size _ (by cases k <;> rfl))
 show _/\_
 rw[n1]at g2 ⊢
 exact⟨⟨_,g2,rfl⟩,h _ g2 (z2W g1) fun c o e=>up (up e)⟩
end
def Itn(K:PySem.W.Frag)(k:Bool)(a:Addr):It :=
  ⟨fun i H=>∃ xs x,SqK k K H a xs/\xs[i]?=some x,
   fun i H v H'=>∃ p x,v=.ref p/\H p=none/\H'=upd H p (.tup [.int (i:Int),x])/\∀ xs,SqK k K H a xs->xs[i]?=some x,
   fun i H=>∃ xs,SqK k K H a xs/\xs.length<=i⟩
structure EnRec(h:Heap)(k:Bool)(e it a:Addr)(i:Nat):Prop where
 er:∃ old,IsEnum h e it i old
 ir:IterK k h it a i
theorem z8w{P:Program}{w:World}{K:PySem.W.Frag}{elts:List Expr}{c:Nat}{pos:Pos}{k:Bool}{e it a:Addr}(hei:e≠it)(fa:a≠e/\a≠it) :
  Turn P w K (.Tuple elts c pos) (Itn K k a) [e,it] e (fun i h=>EnRec h k e it a i) where
 mem:=by simp
 obj:=fun i h st q hq=>by
  obtain⟨⟨old,er⟩,ir⟩:=st
  simp only[List.mem_cons,List.not_mem_nil,or_false]at hq
  rcases hq with rfl | rfl
  ·exact⟨_,er,fun v z=>nomatch z⟩
  ·exact ir.get
 keep:=fun i h h' st kp=>by
  obtain⟨⟨old,er⟩,ir⟩:=st
  exact⟨⟨old,kp _ (by simp) _ er⟩,ir.at fun o z=>kp _ (by simp) o z⟩
 item:=by
  intro X hP hw hK hc i pins s σ H E I hf st hg
  subst hP hw hK
  obtain⟨xs,x,sa,hx⟩:=hg
  obtain⟨ia,ra,ha,za⟩:=I.hasK sa
  obtain⟨u,hu,ru⟩:=ra.get hx
  obtain⟨⟨old,er⟩,ir⟩:=st
  have hil:i < ia.toArray.size:=by rw[List.size_toArray];exact(List.getElem?_eq_some_iff.mp hu).1
  refine wpAny_pyNext_enum_itemD (drawsK (A:=X.A.in1) (k:=k) (show X.A.in1.handled=none from I.ok.hd hc) fa.2 ia.toArray) er ⟨ir,ha⟩ hil hei (by simp only[List.mem_cons,List.not_mem_nil,or_false,not_or];exact⟨hei,Ne.symm fa.1⟩) fun y h' tk hy eo st' ht sz kp=>?_
  have hyu:y=u:=by
   have:ia[i]?=some y:=by simpa using hy
   rw[hu]at this;exact(Option.some.inj this).symm
  subst hyu
  refine⟨_,rfl,wpAny_letOwnedTupleGo_enum eo fun h'' e'' sb''=>?_⟩
  have lt:∀ {c o},s.heap.get? c=some o->s.heap.objs.size≠c:=fun z=>Nat.ne_of_gt (Heap.lt_size z)
  have hz:s.heap.objs.size≠e:=lt er
  have kp2:∀ c o,c ∉ [e,it]->s.heap.get? c=some o->h''.get? c=some o:=fun c o hc z=>by
   simp only[List.mem_cons,List.not_mem_nil,or_false,not_or]at hc
   exact sb''.extBut _ _ hc.1 (kp c o hc.1 hc.2 z)
  have nH:H s.heap.objs.size=none:=I.hok.fresh (Nat.le_refl _)
  have frL:∀ q∈[e,it],H q=none:=fun q hq=>(hf q hq).1
  have neT:∀ q u,H q=some u->q≠s.heap.objs.size:=fun q u z=>zj z nH
  refine⟨.ref s.heap.objs.size,upd H s.heap.objs.size (.tup [.int (i:Int),x]),?_,rfl,⟨_,x,rfl,nH,rfl,fun xs' q=>by rw[I.sqK_inj q sa];exact hx⟩,?_,fun q hq=>?_⟩
  ·refine Inv.step (s:=s) (h':=h'') (g':=s.gens) (d':=s.drawn) (t':=tk + 1) (ch:=[e,it]) I (fun q hq=>?_) (fun q o _ _ hc z _=>kp2 q o hc z) (fun q o _ _ hc z _=>⟨o.slots,kp2 q o hc z⟩) (fun q o hc z n=>?_) (fun q o hc z=>⟨o,kp2 q o hc z⟩)
    (fun q xs z=>by rw[zg (neT q _ z)];exact z) (fun q o u z=>by rw[zg (neT q _ z)];exact z) (fun q ps z=>⟨#[],by rw[zg (neT q _ z),z];simp⟩) (fun m hm=>?_) (fun q o z=>?_) I.bare
   ·exact⟨(hf q hq).2.2.2.1,(hf q hq).2.1,(hf q hq).2.2.2.2.1,(hf q hq).2.2.2.2.2⟩
   ·rw[zg (fun zz=>lt z zz.symm)];exact n
   ·obtain⟨o,es,ep,ho,r⟩:=hm
    exact⟨o,es,ep,kp2 _ o (fun hq=>(hf _ hq).2.1 rfl) ho,r⟩
   ·have notin:∀ q u,H q=some u->q ∉ [e,it]:=fun q u z hq=>by rw[frL q hq]at z;cases z
    by_cases hq:q=s.heap.objs.size
    ·subst hq
     rw[zk]at z
     cases z
     exact⟨by show 2<=sizeLine;decide,[.int (i:Int) tk,y],.cons ⟨_,rfl⟩ (.cons ru .nil),⟨_,sb''.extBut _ _ hz ht,rfl,_,rfl⟩⟩
    ·rw[zg hq]at z
     refine(I.hok q o z).stay (fun c w' hc r=>kp2 c w' ?_ r) (fun c r=>by rw[zg (neT c _ r)];exact r) fun c xs r=>by rw[zg (neT c _ r)];exact r
     rcases hc with rfl | hc
     ·exact notin _ _ z
     ·exact notin _ _ hc
  ·exact⟨⟨_,by simpa using e''⟩,st'.1.at fun o z=>sb''.extBut _ o (Ne.symm hei) z⟩
  ·rw[zg]
   ·exact frL q hq
   ·simp only[List.mem_cons,List.not_mem_nil,or_false]at hq
    rcases hq with rfl | rfl
    ·exact fun zz=>lt er zz.symm
    ·obtain⟨o,z,_⟩:=ir.get;exact fun zz=>lt z zz.symm
 done:=by
  intro X hP hw hK hc i pins s σ H E I hf st hg
  subst hP hw hK
  obtain⟨xs,sa,hx⟩:=hg
  obtain⟨ia,ra,ha,za⟩:=I.hasK sa
  obtain⟨⟨old,er⟩,ir⟩:=st
  have la:=ra.length
  refine wpAny_pyNext_enum_endD (drawsEnd (A:=X.A.in1) (k:=k) (it:=it) (a:=a) (show X.A.in1.handled=none from I.ok.hd hc) ia.toArray (i:=i) (by simp;omega)) er ⟨rfl,ir,ha⟩ fun h' kp=>⟨rfl,?_⟩
  have kp2:∀ c o,c ∉ [e,it]->s.heap.get? c=some o->h'.get? c=some o:=fun c o hc z=>by
   simp only[List.mem_cons,List.not_mem_nil,or_false,not_or]at hc
   exact kp c o hc.2 z
  have notin:∀ q u,H q=some u->q ∉ [e,it]:=fun q u z hq=>by rw[(hf q hq).1]at z;cases z
  refine Inv.step (s:=s) (h':=h') (g':=s.gens) (d':=s.drawn) (t':=s.toks) (ch:=[e,it]) I (fun q hq=>?_) (fun q o _ _ hc z _=>kp2 q o hc z) (fun q o _ _ hc z _=>⟨o.slots,kp2 q o hc z⟩) (fun _ _ _ _ n=>n)
   (fun q o hq z=>⟨o,kp2 q o hq z⟩) (fun _ _ z=>z) (fun _ _ _ z=>z) (fun q ps z=>⟨#[],by rw[z];simp⟩) (fun m hm=>?_) (fun q o z=>?_) I.bare
  ·exact⟨(hf q hq).2.2.2.1,(hf q hq).2.1,(hf q hq).2.2.2.2.1,(hf q hq).2.2.2.2.2⟩
  ·obtain⟨o,es,ep,ho,r⟩:=hm
   exact⟨o,es,ep,kp2 _ o (fun hq=>(hf _ hq).2.1 rfl) ho,r⟩
  ·refine(I.hok q o z).stay (fun c w' hc r=>kp2 c w' ?_ r) (fun _ r=>r) fun _ _ r=>r
   rcases hc with rfl | hc
   ·exact notin _ _ z
   ·exact notin _ _ hc
 self:=fun _ _ _ _ _ st h=>by obtain⟨⟨old,er⟩,_⟩:=st;exact wpAny_pyIter_enum er h
def iEnum(K:PySem.W.Frag)(ta:TA):TI:=fun σ H R=>ta σ H fun vs H1=>∃ k a xs,vs=[.ref a]/\SqK k K H1 a xs/\R (Itn K k a) H1
theorem zbe{X:Cx}{elts:List Expr}{c:Nat}{tp:Pos}{a:Expr}{ta:TA}{p pos:Pos}(hg:Gl X "enumerate")(hm:X.mg "enumerate"=none)(ha:PA X [a] ta)(hs:starEach [a] X.env=[(false,eval a X.env)]:=by rfl) :
  PI X (.Tuple elts c tp) (.Call (.Name "enumerate" p) [a] [] pos) (iEnum X.K ta):=by
 intro pins s σ H R I h
 refine Call_ (z2e I hg hm (u:=.type "enumerate") rfl (PyProof.Rows.callWith_type1 (thn (ha pos pins s σ H _ I h) fun us s1 zfF=>?_) (by rw[hs];rfl) rfl))
 obtain⟨vs,H1,I1,r1,q1⟩:=zfF
 obtain⟨k,a,xs,e,sa,q⟩:=q1
 subst e
 obtain⟨u,rfl,ru⟩:=vals1 r1
 cases (show u=Value.ref a from ru)
 obtain⟨ia,ra,ha',za⟩:=I1.hasK sa
 refine z7N ha' fun h' En It kp=>?_
 refine wpAny_pyIter_enum En ?_
 have la:LT.lt (α:=Nat) a s1.heap.objs.size:=ha'.lt
 generalize hn:s1.heap.objs.size=n at *
 refine⟨n + 1,[n + 1,n],fun i h=>EnRec h k (n + 1) n a i,Itn X.K k a,H1,rfl,I1.kept (t':=s1.toks) kp,z8w ?_ ?_,⟨⟨_,En⟩,It⟩,fun q hq=>?_,q⟩
 ·intro e;have e':n + 1=n:=e;omega
 ·refine⟨?_,?_⟩ <;> (intro e;have e':(_:Nat)=_:=e;omega)
 ·have hq':s1.heap.objs.size<=q:=by
   simp only[List.mem_cons,List.not_mem_nil,or_false]at hq
   rw[hn]
   rcases hq with rfl | rfl <;> first | exact Nat.le_refl _ | exact Nat.le_succ _
  exact I1.fpOk hq' (I1.hok.fresh hq')
end L2
namespace L2
open PySem PySem.Spec PyProof.Rows
def revSm(a b c:Int):Bool:=Builtin.Range.rangeFitsLong a && Builtin.Range.rangeFitsLong b && Builtin.Range.rangeFitsLong c && Builtin.Range.rangeFitsLong (-c) && Builtin.Range.rangeFitsLong (a - c) && Builtin.Range.rangeFitsLong (Builtin.Range.rangeSize a b c)
theorem z3V(r:Addr)(a b c:Int)(t u v:Tok)(hs:¬(!(Builtin.Range.rangeFitsLong a && Builtin.Range.rangeFitsLong b && Builtin.Range.rangeFitsLong c && Builtin.Range.rangeFitsLong (-c) && Builtin.Range.rangeFitsLong (a - c) && Builtin.Range.rangeFitsLong (Builtin.Range.rangeSize a b c)))=true) :
  Meets (Builtin.«range.__reversed__» ⟨[.ref r],[]⟩) (fun _ R s=>IsRange s.heap r a b c t u v /\
   R (.ok (.ret (.ref s.heap.objs.size))) {s with heap:=s.heap.push {cls:=.type (if (Builtin.Range.rangeFitsLong a && Builtin.Range.rangeFitsLong b && Builtin.Range.rangeFitsLong c && Builtin.Range.rangeFitsLong (-c) && Builtin.Range.rangeFitsLong (a - c) && Builtin.Range.rangeFitsLong (Builtin.Range.rangeSize a b c))=true then "range_iterator" else "longrange_iterator"),data:=.fields #[rawInt (a + (Builtin.Range.rangeSize a b c - 1) * c),rawInt (Builtin.Range.rangeSize a b c),rawInt (-c)]}}) :=
 .of_wp fun prog w A R s h=>by
  obtain⟨hp,g,d,tk,os⟩:=s
  obtain⟨hl,h⟩:=h
  wp_walk
  exact⟨_,rfl,h⟩
section
variable {prog:Program} {w:World} {A:Around} {E:Value->Shared->Prop} {s:Shared}
theorem z3A:isSubtype (.type "range_iterator") (.type "reversed")=pure false:=by rw[isSubtype_type];kernel_rfl
theorem z8x{r:Addr}{a b:Int}{t u v:Tok}{Q:Value->Shared->Prop}(hr:IsRange s.heap r a b 1 t u v)(hs:revSm a b 1=true)
  (h:Q (.ref s.heap.objs.size) {s with heap:=s.heap.push {cls:=.type "range_iterator",data:=.fields #[rawInt (a + (Builtin.Range.rangeSize a b 1 - 1) * 1),rawInt (Builtin.Range.rangeSize a b 1),rawInt (-1)]}}):wpAny (model prog w) A (call (.builtin "range.__reversed__") [.ref r]) Q E s:=by
 have hT:s.TypeIs (.ref r) "range":=⟨_,hr,rfl⟩
 unfold revSm at hs
 refine call_meets F.slot_range_reversed hT F.entry_range_reversed (F.args_range_reversed_1 _) (z3V r a b 1 t u v (by rw[hs];decide)) ⟨hr,?_⟩
 simp only[hs,if_true]
 exact h
theorem z2p{r:Addr}{a b:Int}{t u v:Tok}{Q:Value->Shared->Prop}(hr:IsRange s.heap r a b 1 t u v)(hs:revSm a b 1=true)
  (h:Q (.ref s.heap.objs.size) {s with heap:=s.heap.push {cls:=.type "range_iterator",data:=.fields #[rawInt (a + (Builtin.Range.rangeSize a b 1 - 1) * 1),rawInt (Builtin.Range.rangeSize a b 1),rawInt (-1)]}}):wpAny (model prog w) A (call (.type "reversed") [.ref r]) Q E s:=by
 have hT:s.TypeIs (.ref r) "range":=⟨_,hr,rfl⟩
 refine callType_other (U:="range_iterator") (Q₁:=fun ob s1=>ob=.ref s.heap.objs.size/\s1={s with heap:=s.heap.push {cls:=.type "range_iterator",data:=.fields #[rawInt (a + (Builtin.Range.rangeSize a b 1 - 1) * 1),rawInt (Builtin.Range.rangeSize a b 1),rawInt (-1)]}}) (by decide +kernel) F.create_reversed ⟨_,_,F.mro_reversed⟩ F.made_reversed z3A (F.typeCall_reversed_1 _) ?_ ?_
 ·refine codeAny_of_tree (show wpAny _ A.in1.in1 (do checkBuiltinCall "reversed.__new__" ⟨[.type "reversed",.ref r],[]⟩;again (.builtin "reversed.__new__" ⟨[.type "reversed",.ref r],[]⟩)) _ _ s from ?_)
  refine wpAny_bind (wpAny_of_eq (F.newCall_reversed_1 _) (wpAny_pure ⟨plainId_quiet F.plain_reversed_new _,codeAny_builtin F.entry_reversed_new ?_⟩));rw[Around.under_plainId F.plain_reversed_new _]
  unfold Builtin.«reversed.__new__»;refine wpAny_bind (wpAny_of_eq (newClass_reversed _) ?_)
  refine wpAny_bind (wpAny_of_eq (a:=()) (by first | rfl | kernel_rfl) ?_);refine wpAny_bind (wpAny_of_eq (a:=()) (by first | rfl | kernel_rfl) ?_)
  refine wpAny_bind (wpAny_specialOf hT F.slot_range_reversed.lookup ?_);refine wpAny_bind (wpAny_of_eq (F.slot_range_reversed.bind _) ?_)
  show wpAny _ _ (if (Value.builtin "range.__reversed__" == Value.none)=true then _ else _) _ _ _;rw[if_neg (show ¬ ((Value.builtin "range.__reversed__" == Value.none)=true) from Bool.false_ne_true)]
  refine wpAny_bind (wpAny_rule (wpAny_bind (m:=runValue (.call (.builtin "range.__reversed__") ⟨[.ref r],[]⟩)) (show wpAny _ _ (call (.builtin "range.__reversed__") [.ref r]) _ _ _ from z8x hr hs ?_)))
  first | exact wpAny_pure ⟨rfl,rfl⟩ | exact wpAny_bind (wpAny_pure (wpAny_pure ⟨rfl,rfl⟩))
 ·rintro ob s1 ⟨rfl,rfl⟩
  exact⟨⟨_,Heap.get?_push_size _ rfl,rfl⟩,h⟩
end
def Itd(lo:Int)(n:Nat):It:=⟨fun i _=>i < n,fun i H x H'=>H'=H/\x=.int (lo + (n:Int) - 1 - i),fun i _=>n<=i⟩
theorem z5j{P:Program}{w:World}{K:PySem.W.Frag}{tg:Expr}(it:Addr)(lo:Int)(n:Nat):Turn P w K tg (Itd lo n) [it] it (fun i h=>IsRangeIter h it (lo + (n:Int) - 1 + (i:Nat) * (-1)) ((n:Int) - (i:Nat)) (-1)) where
 mem:=by simp
 obj:=fun i h st b hb=>by
  have e:b=it:=by simpa using hb
  subst e
  exact⟨_,st,fun v z=>nomatch (show Data.fields _=Data.cell v from z)⟩
 keep:=fun i h h' st k=>k it (by simp) _ st
 item:=by
  intro X hP hw hK hc i pins s σ H E I hf st hg
  subst hP hw hK
  obtain⟨f0,f1,f2,f3,f4,f5⟩:=hf it (by simp)
  have hlt:i < n:=hg
  refine wpAny_pyNext_range_item st (by omega) fun h' st' sb=>?_
  have I1:Inv X pins σ H {s with heap:=h',toks:=s.toks + 1}:=I.turned (fun b o hb e=>(sb.2 b hb).trans e) f0 f1 f3 f4 f5
  have e1:lo + (n:Int) - 1 + (i:Nat) * (-1) + (-1)=lo + (n:Int) - 1 + ((i + 1:Nat):Int) * (-1):=by omega
  have e2:(n:Int) - (i:Nat) - 1=(n:Int) - ((i + 1:Nat):Int):=by omega
  rw[e1,e2]at st'
  refine⟨_,rfl,z8a (s:={s with heap:=h',toks:=s.toks + 1}) (n:="range_iterator") st' rfl rfl (by decide) ⟨.int (lo + (n:Int) - 1 - i),H,I1,⟨s.toks,?_⟩,⟨rfl,rfl⟩,st',fun b hb=>(hf b hb).1⟩⟩
  rw[show lo + (n:Int) - 1 + (i:Nat) * (-1)=lo + (n:Int) - 1 - (i:Int) by omega]
 done:=by
  intro X hP hw hK hc i pins s σ H E I hf st hg
  subst hP hw hK
  obtain⟨f0,f1,f2,f3,f4,f5⟩:=hf it (by simp)
  exact wpAny_pyNext_range_end (I.ok.hd hc) st (by have:n<=i:=hg;omega) fun h' eb=>⟨rfl,I.turned (t':=s.toks) (fun b o hb e=>eb b o hb e) f0 f1 f3 f4 f5⟩
 self:=fun _ _ _ _ _ st h=>wpAny_pyIter_rangeiter st h
def iRevR(ta:TA):TI:=fun σ H R=>ta σ H fun vs H1=>∃ j:Int,vs=[.int j]/\-(2 ^ 62)<=j/\j < 2 ^ 62/\R (Itd 0 j.toNat) H1
theorem zbf{X:Cx}{tg a:Expr}{ta:TA}{p pos p2 pos2:Pos}(hg:Gl X "reversed")(hm:X.mg "reversed"=none)(hg2:Gl X "range")(hm2:X.mg "range"=none)(ha:PA X [a] ta)(hs2:starEach [a] X.env=[(false,eval a X.env)]:=by rfl)
  (hs:starEach [.Call (.Name "range" p2) [a] [] pos2] X.env=(false,eval (.Call (.Name "range" p2) [a] [] pos2) X.env)::starEach [] X.env:=by rfl):PI X tg (.Call (.Name "reversed" p) [.Call (.Name "range" p2) [a] [] pos2] [] pos) (iRevR ta):=by
 intro pins s σ H R I h
 refine Call_ (z2e I hg hm (u:=.type "reversed") rfl (PyProof.Rows.callWith_type1 ?_ hs rfl))
 rw[hs]
 refine Calls.spliced_cons (s:=s) ?_
 refine Call_ (z2e I hg2 hm2 boot_range (PyProof.Rows.callWith_type1 (thn (ha pos2 pins s σ H _ I h) fun us s1 zfG=>?_) hs2 rfl))
 obtain⟨vs,H1,I1,r1,q1⟩:=zfG
 obtain⟨j,e,q1,q2,q⟩:=q1
 subst e
 obtain⟨u,rfl,ru⟩:=vals1 r1
 obtain⟨t,rfl⟩:=ru
 refine call_range_1 (Calls.spliced_nil ?_)
 generalize hR:({cls:=.type "range",data:=.fields #[.int 0 s1.toks,.int j t,.int 1 (s1.toks + 1)]}:Obj)=ro
 have I2:Inv X pins σ H1 {s1 with heap:=s1.heap.push ro,toks:=s1.toks + 1 + 1}:=I1.kept fun b o e=>Heap.get?_push_of_some _ e
 have hr:IsRange (s1.heap.push ro) s1.heap.objs.size 0 j 1 s1.toks t (s1.toks + 1):=by rw[<- hR];exact Heap.get?_push_size _ rfl
 have hn:Builtin.Range.rangeSize 0 j 1=(j.toNat:Int):=by rw[rangeSize_one];split <;> omega
 have hsm:revSm 0 j 1=true:=by
  unfold revSm
  rw[hn]
  simp only[Builtin.Range.rangeFitsLong,Bool.and_eq_true,decide_eq_true_eq]
  omega
 refine z2p (s:={s1 with heap:=s1.heap.push ro,toks:=s1.toks + 1 + 1}) hr hsm ?_
 have hst:IsRangeIter ((s1.heap.push ro).push {cls:=.type "range_iterator",data:=.fields #[rawInt (0 + (Builtin.Range.rangeSize 0 j 1 - 1) * 1),rawInt (Builtin.Range.rangeSize 0 j 1),rawInt (-1)]}) (s1.heap.push ro).objs.size (0 + (j.toNat:Int) - 1 + ((0:Nat):Int) * (-1)) ((j.toNat:Int) - ((0:Nat):Int)) (-1):=by
  have e1:(0:Int) + (j.toNat:Int) - 1 + ((0:Nat):Int) * (-1)=0 + (Builtin.Range.rangeSize 0 j 1 - 1) * 1:=by rw[hn];omega
  have e2:(j.toNat:Int) - ((0:Nat):Int)=Builtin.Range.rangeSize 0 j 1:=by rw[hn];omega
  rw[e1,e2]
  exact Heap.get?_push_size _ rfl
 refine wpAny_pyIter_rangeiter (s:={s1 with heap:=(s1.heap.push ro).push {cls:=.type "range_iterator",data:=.fields #[rawInt (0 + (Builtin.Range.rangeSize 0 j 1 - 1) * 1),rawInt (Builtin.Range.rangeSize 0 j 1),rawInt (-1)]},toks:=s1.toks + 1 + 1}) hst ?_
 exact⟨(s1.heap.push ro).objs.size,[(s1.heap.push ro).objs.size],_,Itd 0 j.toNat,H1,rfl,I2.kept (t':=s1.toks + 1 + 1) fun b o e=>Heap.get?_push_of_some _ e,z5j _ 0 j.toNat,hst,fun b hb=>by
  have e:b=(s1.heap.push ro).objs.size:=by simpa using hb
  rw[e]
  exact I2.fpOk (Nat.le_refl _) (I2.hok.fresh (Nat.le_refl _)),q⟩
end L2
namespace L2
open PySem PySem.Spec PyProof.Rows
section
variable {prog:Program} {w:World} {A:Around} {E:Value->Shared->Prop} {s:Shared}
theorem z5k{it t:Addr}{items:Array Value}(hne:t≠it):∀ (n i:Nat) (s:Shared) (Q:List Value->Shared->Prop),s.heap.IsListIter it t i->s.heap.IsList t items->i + n<=items.size ->
  (∀ h',h'.IsListIter it t (i + n)->Heap.SameBut it s.heap h'->Q ((items.toList.drop i).take n) {s with heap:=h'})->wpAny (model prog w) A (draw (.ref it) n) Q E s
 | 0,i,s,Q,hit,_,_,hQ=>by
  show wpAny _ _ (pure []) Q E s
  exact wpAny_pure (by simpa using hQ s.heap hit (Heap.SameBut.refl ..))
 | n + 1,i,s,Q,hit,ht,hle,hQ=>by
  have hlt:i < items.size:=by omega
  show wpAny _ _ (pyNext (.ref it) >>= _) Q E s
  refine wpAny_bind (wpAny_pyNext_list_item hit ht (x:=items[i]) (by simp[hlt]) fun h₁ hit₁ hs₁=>?_)
  refine wpAny_bind (wpAny_holding (z5k hne n (i + 1) _ _ hit₁ (ht.extBut hs₁.extBut hne) (by omega) fun h₂ hit₂ hs₂=>wpAny_pure ?_))
  have hd:items.toList.drop i=items[i]::items.toList.drop (i + 1):=by simp[List.drop_eq_getElem_cons,hlt]
  have:=hQ h₂ (by rw[show i + (n + 1)=i + 1 + n by omega];exact hit₂) (hs₁.trans hs₂)
  rw[hd,List.take_succ_cons]at this
  exact this
theorem z3p{t:Addr}{items:Array Value}{Q:List Value->Shared->Prop}(hh:A.handled=none)(ht:s.heap.IsList t items)
  (hQ:∀ h',Heap.ExtBut s.heap.objs.size s.heap h'->Q items.toList {s with heap:=h'}):wpAny (model prog w) A (unpackItems (.ref t) items.size none) Q E s:=by
 have hlt:t≠s.heap.objs.size:=by obtain⟨o,ho,_⟩:=ht;exact Nat.ne_of_lt (Heap.lt_size ho)
 unfold unpackItems
 refine wpAny_bind ?_
 ·unfold notIterableAtAll
  refine wpAny_bind (wpAny_specialOf ht.typeIs F.slot_list_iter.lookup ?_)
  refine wpAny_pure ?_
  simp only[Bool.false_eq_true,if_false]
  refine wpAny_bind (wpAny_holding (wpAny_pyIter_list ht ?_))
  refine wpAny_bind (wpAny_holding (z5k hlt items.size 0 _ _ ⟨_,Heap.get?_push_size _ rfl,rfl,rfl⟩ (ht.push _) (by omega) fun h₁ hit₁ hs₁=>?_))
  have hall:List.take items.size (List.drop 0 items.toList)=items.toList:=by
   rw[List.drop_zero];exact List.take_of_length_le (by simp)
  rw[hall]
  rw[if_neg (by simp)]
  have ht₁:h₁.IsList t items:=(ht.push _).extBut hs₁.extBut hlt
  refine wpAny_bind (wpAny_holding (wpAny_pyNext_list_end hh hit₁ ht₁ (by simp) fun h₂ he₂=>?_))
  simp only[Option.isSome_none,Bool.false_eq_true,if_false]
  refine wpAny_pure (hQ h₂ fun b o hb e=>he₂ b o hb (hs₁.extBut b o hb (Heap.get?_push_of_some _ e)))
theorem z2X{env:Env}{elts:List Expr}{x1:Nat}{pos:Pos}{t:Addr}{items:Array Value}{Q:Unit->Shared->Prop}(hh:A.handled=none)(ht:s.heap.IsList t items)
  (hn:(assignEach elts env).length=items.size) (hstar:(assignEach elts env).findIdx? (·.1)=none)
  (h:∀ h',Heap.ExtBut s.heap.objs.size s.heap h'->wpAny (model prog w) A (assignInOrder ((assignEach elts env).map (·.2)) items.toList) Q E {s with heap:=h'}) :
  wpAny (model prog w) A (assign (.Tuple elts x1 pos) env (.ref t)) Q E s:=by
 rw[assign_Tuple]
 refine wpAny_bind (wpAny_standAt ?_)
 unfold unpack
 rw[hn,hstar]
 exact wpAny_bind (wpAny_holding (z3p hh ht h))
end
section
variable {X:Cx} {pos:Pos}
def gSeqT(K:PySem.W.Frag)(n:Nat)(t:TGs):TG:=fun v σ H Q=>∃ a xs,v=.ref a/\(SqT K H a xs\/SqL K H a xs)/\xs.length=n/\t xs σ H Q
theorem zbg{es:List Expr}{k:Nat}{t:TGs}{n:Nat}(hc:X.calm=true)(h:PGs X es t)
  (hn:(assignEach es X.env).length=n:=by rfl) (hst:(assignEach es X.env).findIdx? (·.1)=none:=by rfl):PG X (.Tuple es k pos) (gSeqT X.K n t):=by
 intro pins s σ H v u Q I r hw
 obtain⟨a,xs,e1,hq,hl,hw⟩:=hw
 rcases hq with hq | hq
 ·exact zav hc h hn hst pins s σ H v u Q I r ⟨a,xs,e1,hq,hl,hw⟩
 ·subst e1
  cases r
  obtain⟨its,rv,pl,hz⟩:=I.list hq
  refine z2X (I.ok.hd hc) pl.isList (by simp[hn,<- hl,rv.length]) hst fun h' hx=>?_
  have I1:Inv X pins σ H {s with heap:=h'}:=I.kept (t':=s.toks) fun b o e=>hx b o (Nat.ne_of_lt (Heap.lt_size e)) e
  exact h pins _ σ H xs _ Q I1 (by simpa using rv) hw
end
end L2
namespace L2
open PySem PySem.Spec PyProof.Rows
theorem z5l:Manifest.owners.lookup (String.ofList ['d','e','s','r','e','v','e','r'].reverse)=some Manifest.sig_reversed:=by kernel_rfl
theorem slot_rev_next:Slot "reversed" "__next__" "reversed.__next__":=.of (owner:="reversed") (n:="__next__") (by rw[typeLookup_type,builtinLookup_eq_fast];kernel_rfl) (by decide +kernel) (by decide +kernel) (by decide +kernel) (by first | exact .inl (by decide +kernel) | exact .inr (by decide +kernel)) (by rw[isSubtype_type];kernel_rfl)
theorem z2f:entryFor table "reversed.__next__"=some Builtin.«reversed.__next__»:=entryFor_of_tree (by kernel_rfl)
theorem z2K(a:Value):argsOk "reversed.__next__" ⟨[a],[]⟩:=by
 unfold argsOk;rw[signature?_of (id:="reversed.__next__") (n:=['_','_','t','x','e','n','_','_']) (o:=['d','e','s','r','e','v','e','r']) (by kernel_rfl) z5l];kernel_rfl
theorem z2L:Slot "reversed" "__iter__" "reversed.__iter__":=.of (owner:="reversed") (n:="__iter__") (by rw[typeLookup_type,builtinLookup_eq_fast];kernel_rfl) (by decide +kernel) (by decide +kernel) (by decide +kernel) (by first | exact .inl (by decide +kernel) | exact .inr (by decide +kernel)) (by rw[isSubtype_type];kernel_rfl)
theorem z4t(a:Value):argsOk "reversed.__iter__" ⟨[a],[]⟩:=by
 unfold argsOk;rw[signature?_of (id:="reversed.__iter__") (n:=['_','_','r','e','t','i','_','_']) (o:=['d','e','s','r','e','v','e','r']) (by kernel_rfl) z5l];kernel_rfl
theorem z3W:entryFor table "reversed.__iter__"=some Builtin.«dict_keyiterator.__iter__»:=entryFor_alias (id':="dict_keyiterator.__iter__") (by kernel_rfl) (by first | rfl | decide +kernel | (unfold String.splitOn;simp +decide [String.splitOnAux])) (by decide +kernel) (by kernel_rfl)
theorem z4u:Slot "reversed" "__init__" "object.__init__":=.of (owner:="object") (n:="__init__") (by rw[typeLookup_type,builtinLookup_eq_fast];kernel_rfl) (by decide +kernel) (by decide +kernel) (by decide +kernel) (by first | exact .inl (by decide +kernel) | exact .inr (by decide +kernel)) (by rw[isSubtype_type];kernel_rfl)
theorem z7O:TypeCalled "reversed" "reversed.__new__" "object.__init__":=⟨by decide +kernel,F.create_reversed,⟨_,_,F.mro_reversed⟩,F.made_reversed,F.plain_reversed_new,F.sub_reversed_self,z4u⟩
theorem z5m:typeLookup (.type "tuple") "__reversed__"=pure none:=by rw[typeLookup_type,builtinLookup_eq_fast];kernel_rfl
def revT(t:Addr)(i:Int):Obj:={cls:=.type "reversed",data:=.fields #[.ref t,rawInt i]}
def IsRevT(h:Heap)(it t:Addr)(i:Int):Prop:=h.get? it=some (revT t i)
section
variable {prog:Program} {w:World} {A:Around} {E:Value->Shared->Prop} {s:Shared}
theorem z7P(t:Addr)(items:Array Value)(hz:items.size<=sizeLine):Meets (Builtin.«reversed.__new__» ⟨[.type "reversed",.ref t],[]⟩) (fun _ R s=>IsTup s.heap t items/\R (.ok (.ret (.ref s.heap.objs.size))) {s with heap:=s.heap.push (revT t ((items.size:Int) - 1)),toks:=s.toks + 1 + 1}) :=
 .of_wp fun prog w A R s h=>by
  obtain⟨ht,h⟩:=h
  unfold Builtin.«reversed.__new__»
  refine wpAny_bind (wpAny_of_eq (newClass_reversed _) ?_)
  refine wpAny_bind (wpAny_of_eq (a:=()) (by first | rfl | kernel_rfl) ?_)
  refine wpAny_bind (wpAny_of_eq (a:=()) (by first | rfl | kernel_rfl) ?_)
  refine wpAny_bind (wpAny_specialOf ht.typeIs z5m ?_)
  refine wpAny_bind ?_
  show wpAny (model prog w) _ (isInstance (.ref t) (.type "dict") >>= _) _ _ _
  refine wpAny_bind (wpAny_isInstance ht.typeIs F.sub_tuple_dict ?_)
  show wpAny (model prog w) _ (specialOf (.ref t) (Str.ofString "__getitem__") >>= _) _ _ _
  refine wpAny_bind (wpAny_specialOf ht.typeIs slot_tuple_getitem.lookup ?_)
  refine wpAny_pure ?_
  show wpAny (model prog w) _ (call (.builtin "len") [.ref t] >>= _) _ _ _
  refine wpAny_bind (len_tuple ht (Int.lt_of_le_of_lt (Int.ofNat_le.mpr hz) (by decide)) ?_)
  show wpAny (model prog w) _ (asInt? (.int (items.size:Int) (s.toks + 1)) >>= _) _ _ _
  refine wpAny_bind (wpAny_of_eq (a:=some (items.size:Int)) rfl ?_)
  show wpAny (model prog w) _ (newObj (.type "reversed") (.fields #[.ref t,rawInt ((items.size:Int) - 1)]) >>= _) _ _ _
  refine wpAny_bind (wpAny_newObj_type (wpAny_pure ⟨_,rfl,h⟩))
theorem z2q{t:Addr}{items:Array Value}{Q:Value->Shared->Prop}(ht:IsTup s.heap t items)(hz:items.size<=sizeLine)
  (h:Q (.ref s.heap.objs.size) {s with heap:=s.heap.push (revT t ((items.size:Int) - 1)),toks:=s.toks + 1 + 1}):wpAny (model prog w) A (call (.type "reversed") [.ref t]) Q E s :=
 callType_new z7O (by decide) (F.typeCall_reversed_1 _) (F.newCall_reversed_1 _) (fun obj=>F.args_object_init_2 obj _) F.entry_reversed_new (z7P t items hz) ⟨ht,⟨_,Heap.get?_push_size _ rfl,rfl⟩,h⟩
theorem z4v{it t:Addr}{i:Nat}{items:Array Value}{x:Value}{Q:Option Value->Shared->Prop}(hit:IsRevT s.heap it t (i:Int))(ht:IsTup s.heap t items)(hx:items[i]?=some x)(hz:items.size<=sizeLine)
  (hQ:∀ h',IsRevT h' it t ((i:Int) - 1)->Heap.SameBut it s.heap h'->Q (some x) {s with heap:=h',toks:=s.toks + 1}):wpAny (model prog w) A (pyNext (.ref it)) Q E s:=by
 have ty:s.TypeIs (.ref it) "reversed":=⟨_,hit,rfl⟩
 have il:i < items.size:=by
  rcases Nat.lt_or_ge i items.size with h | h
  ·exact h
  ·rw[Array.getElem?_eq_none h]at hx;cases hx
 unfold pyNext
 refine wpAny_bind (wpAny_attempt (wpAny_callSpecial?_slot (name:=Str.ofString "__next__") ty slot_rev_next (wpAny_call_entry slot_rev_next ty z2f ?_ (z2K _))))
 unfold Builtin.«reversed.__next__»
 refine wpAny_bind (wpAny_of_eq (a:=(Value.ref it,[])) rfl ?_)
 refine wpAny_bind (wpAny_field hit rfl (x:=.ref t) rfl ?_)
 refine wpAny_bind (wpAny_field hit rfl (x:=rawInt (i:Int)) rfl ?_)
 show wpAny _ _ (if (i:Int) < 0 then _ else _) _ _ s
 rw[if_neg (by omega)]
 show wpAny (model prog w) _ (specialOf (.ref t) (Str.ofString "__getitem__") >>= _) _ _ s
 refine wpAny_bind (wpAny_specialOf ht.typeIs slot_tuple_getitem.lookup ?_)
 show wpAny (model prog w) _ (mkInt (i:Int) >>= _) _ _ s
 refine wpAny_bind (wpAny_mkInt ?_)
 have li:(i:Int) < 2 ^ 63:=Int.lt_of_lt_of_le (Int.ofNat_lt.mpr (Nat.lt_of_lt_of_le il hz)) (by decide)
 have hj:seqIndex? (i:Int) items.size=some i:=by
  unfold seqIndex?
  simp
  omega
 refine wpAny_bind (wpAny_attempt (getItem_tuple (s:={s with toks:=s.toks + 1}) (j:=i) ht (by omega) li hj hx ?_))
 show wpAny (model prog w) _ (field (.ref it) 1 >>= _) _ _ _
 refine wpAny_bind (wpAny_field (s:={s with toks:=s.toks + 1}) hit rfl (x:=rawInt (i:Int)) rfl ?_)
 show wpAny (model prog w) _ (setField (.ref it) 1 (rawInt ((i:Int) - 1)) >>= _) _ _ _
 refine wpAny_bind (wpAny_setField_rec (s:={s with toks:=s.toks + 1}) hit (by simp) fun g1 r1 e1=>?_)
 exact wpAny_pure ⟨x,rfl,wpAny_pure (hQ g1 r1 e1)⟩
theorem z5n{it t:Addr}{Q:Option Value->Shared->Prop}(hh:A.handled=none)(hit:IsRevT s.heap it t (-1))(hQ:∀ h',Heap.ExtBut it s.heap h'->Q none {s with heap:=h'}):wpAny (model prog w) A (pyNext (.ref it)) Q E s:=by
 have ty:s.TypeIs (.ref it) "reversed":=⟨_,hit,rfl⟩
 unfold pyNext
 refine wpAny_bind (wpAny_attempt (wpAny_callSpecial?_slot (name:=Str.ofString "__next__") ty slot_rev_next (wpAny_call_entry slot_rev_next ty z2f ?_ (z2K _))))
 unfold Builtin.«reversed.__next__»
 refine wpAny_bind (wpAny_of_eq (a:=(Value.ref it,[])) rfl ?_)
 refine wpAny_bind (wpAny_field hit rfl (x:=.ref t) rfl ?_)
 refine wpAny_bind (wpAny_field hit rfl (x:=rawInt (-1)) rfl ?_)
 show wpAny (model prog w) _ (if (-1:Int) < 0 then _ else _) _ _ s
 rw[if_pos (by decide)]
 refine wpAny_bind (wpAny_rule ?_)
 show wpAny (model prog w) _ ((setField (.ref it) 1 (rawInt (-1)) >>= fun _=>setField (.ref it) 0 .none) >>= _) _ _ s
 refine wpAny_bind (wpAny_bind (wpAny_setField_rec hit (by simp) fun g1 r1 e1=>wpAny_setField_rec (s:={s with heap:=g1}) r1 (by simp) fun g2 r2 e2=>?_))
 show wpAny (model prog w) _ ((newExc (.type "StopIteration") [] >>= _) >>= _) _ _ _
 refine wpAny_bind (wpAny_bind ?_)
 simp only[newExc,newTuple]
 refine wpAny_bind (wpAny_newObj_type ?_ (by size_fits))
 refine wpAny_bind (m:=firstArgMember _ _) (wpAny_of_eq (a:=Value.none) (by first | rfl | (simp only[firstArgMember];rfl)) (wpAny_newObj_type ?_ (by size_fits)))
 simp only[raiseNew]
 refine wpAny_bind (wpAny_handled ?_)
 first | rw[show A.in1.handled=none from hh] | rw[hh]
 refine wpAny_bind (wpAny_pure (wpAny_throw ?_))
 exact wpAny_bind (wpAny_isInstance (T:="StopIteration") (b:=true) ⟨_,Heap.get?_push_size _ rfl,rfl⟩ isSubtype_stop (wpAny_pure (hQ _ (((e1.extBut.trans e2.extBut).push _).push _))))
theorem iterRevT{it t:Addr}{i:Int}{Q:Value->Shared->Prop}(hit:IsRevT s.heap it t i)(h:Q (.ref it) s):wpAny (model prog w) A (pyIter (.ref it)) Q E s:=by
 have ty:s.TypeIs (.ref it) "reversed":=⟨_,hit,rfl⟩
 refine wpAny_pyIter_slot ty z2L (wpAny_call_entry z2L ty z3W ?_ (z4t _))
 exact wpAny_pure ⟨_,rfl,"reversed",_,ty,slot_rev_next.lookup,h⟩
end
def Itb(k:Bool)(K:PySem.W.Frag)(a:Addr)(xs:List V):It :=
 ⟨fun i H=>SqK k K H a xs/\i < xs.length,fun i H x H'=>H'=H/\xs[xs.length - 1 - i]?=some x,fun i _=>xs.length<=i⟩
def RevAt(k:Bool)(h:Heap)(it a:Addr)(i:Int):Prop:=if k=true then h.IsRevIter it a i else IsRevT h it a i
theorem RevAt.at{k:Bool}{h h':Heap}{it a:Addr}{i:Int}(x:RevAt k h it a i)(e:∀ o,h.get? it=some o->h'.get? it=some o):RevAt k h' it a i:=by
 cases k with
 | true=>exact Heap.IsRevIter.at (show h.IsRevIter it a i from x) e
 | false=>exact e _ (show IsRevT h it a i from x)
theorem RevAt.get{k:Bool}{h:Heap}{it a:Addr}{i:Int}(x:RevAt k h it a i):∃ o n vs,h.get? it=some o/\o.cls=.type n/\o.data=.fields vs/\(["enumerate","zip","dict_itemiterator","dict_reverseitemiterator","odict_iterator","itertools.zip_longest","itertools.pairwise"].contains n=false):=by
 cases k with
 | true=>obtain⟨o,e,c,d⟩:=(show h.IsRevIter it a i from x);exact⟨o,_,_,e,c,d,by decide⟩
 | false=>exact⟨_,"reversed",_,(show IsRevT h it a i from x),rfl,rfl,by decide⟩
theorem z5o{P:Program}{w:World}{K:PySem.W.Frag}{tg:Expr}(k:Bool)(a it:Addr)(xs:List V):Turn P w K tg (Itb k K a xs) [it] it (fun i h=>i<=xs.length/\RevAt k h it a ((xs.length:Int) - 1 - (i:Int))) where
 mem:=by simp
 obj:=fun i h st b hb=>by
  have e:b=it:=by simpa using hb
  subst e
  obtain⟨o,n,vs,e,_,d,_⟩:=st.2.get
  exact⟨o,e,fun v z=>by rw[d]at z;cases z⟩
 keep:=fun i h h' st kp=>⟨st.1,st.2.at fun o e=>kp it (by simp) o e⟩
 item:=by
  intro X hP hw hK hc i pins s σ H E I hf st hg
  subst hP hw hK
  obtain⟨f0,f1,f2,f3,f4,f5⟩:=hf it (by simp)
  obtain⟨sq,hlt⟩:=hg
  obtain⟨hi,st⟩:=st
  obtain⟨its,rv,ha,hz⟩:=I.hasK sq
  obtain⟨x,hx⟩:∃ x,xs[xs.length - 1 - i]?=some x:=⟨_,List.getElem?_eq_getElem (by omega)⟩
  obtain⟨u,hu,ru⟩:=rv.get hx
  have hu':its.toArray[xs.length - 1 - i]?=some u:=by simpa using hu
  have e1:((xs.length - 1 - i:Nat):Int)=(xs.length:Int) - 1 - (i:Int):=by omega
  have e2:((xs.length - 1 - i:Nat):Int) - 1=(xs.length:Int) - 1 - ((i + 1:Nat):Int):=by omega
  have fin:∀ h' t',RevAt k h' it a ((xs.length:Int) - 1 - ((i + 1:Nat):Int))->Heap.SameBut it s.heap h'->∃ u',some u=some u'/\wpAny (model X.prog X.w) X.A (letOwnedTupleGo tg (.ref it) u') (fun _ s2=>Yl X pins σ (Itb k X.K a xs) i H [it] (fun i h=>i<=xs.length/\RevAt k h it a ((xs.length:Int) - 1 - (i:Int))) u' s2) E {s with heap:=h',toks:=t'}:=fun h' t' r' sb=>by
   obtain⟨o,n,vs,eo,ec,ed,hn⟩:=r'.get
   exact⟨u,rfl,z8a (s:={s with heap:=h',toks:=t'}) eo ec ed hn ⟨x,H,I.turned (fun b o hb e=>(sb.2 b hb).trans e) f0 f1 f3 f4 f5,ru,⟨rfl,hx⟩,⟨by omega,r'⟩,fun b hb=>(hf b hb).1⟩⟩
  rw[<- e1]at st
  cases k with
  | true=>exact wpAny_pyNext_rev_item st ha hu' fun h' r' sb=>fin h' s.toks (by rw[<- e2];exact r') sb
  | false=>exact z4v st ha hu' (by rw[List.size_toArray,<- rv.length];exact hz) fun h' r' sb=>fin h' (s.toks + 1) (by rw[<- e2];exact r') sb
 done:=by
  intro X hP hw hK hc i pins s σ H E I hf st hg
  subst hP hw hK
  obtain⟨f0,f1,f2,f3,f4,f5⟩:=hf it (by simp)
  obtain⟨hi,st⟩:=st
  have hg':xs.length<=i:=hg
  rw[show(xs.length:Int) - 1 - (i:Int)=-1 by omega]at st
  cases k with
  | true=>exact wpAny_pyNext_rev_end (I.ok.hd hc) st fun h' eb=>⟨rfl,I.turned (t':=s.toks) (fun b o hb e=>eb b o hb e) f0 f1 f3 f4 f5⟩
  | false=>exact z5n (I.ok.hd hc) st fun h' eb=>⟨rfl,I.turned (t':=s.toks) (fun b o hb e=>eb b o hb e) f0 f1 f3 f4 f5⟩
 self:=fun A i s Q E st h=>by
  cases k with
  | true=>exact wpAny_pyIter_revIter st.2 h
  | false=>exact iterRevT st.2 h
def iBack(K:PySem.W.Frag)(ta:TA):TI:=fun σ H R=>ta σ H fun vs H1=>∃ k a xs,vs=[.ref a]/\SqK k K H1 a xs/\R (Itb k K a xs) H1
theorem zbh{X:Cx}{tg a:Expr}{ta:TA}{p pos:Pos}(hg:Gl X "reversed")(hm:X.mg "reversed"=none)(ha:PA X [a] ta)(hs:starEach [a] X.env=[(false,eval a X.env)]:=by rfl):PI X tg (.Call (.Name "reversed" p) [a] [] pos) (iBack X.K ta):=by
 intro pins s σ H R I h
 refine Call_ (z2e I hg hm (u:=.type "reversed") rfl (PyProof.Rows.callWith_type1 (thn (ha pos pins s σ H _ I h) fun us s1 zfH=>?_) hs rfl))
 obtain⟨vs,H1,I1,r1,q1⟩:=zfH
 obtain⟨k,a,xs,e,sa,q⟩:=q1
 subst e
 obtain⟨u,rfl,ru⟩:=vals1 r1
 cases (show u=Value.ref a from ru)
 obtain⟨its,rv,ha',hz⟩:=I1.hasK sa
 have hl:its.toArray.size=xs.length:=by rw[List.size_toArray,<- rv.length]
 have fin:∀ (o:Obj) t',(s1.heap.push o).get? s1.heap.objs.size=some o->RevAt k (s1.heap.push o) s1.heap.objs.size a ((xs.length:Int) - 1 - ((0:Nat):Int))->wpAny (model X.prog X.w) X.A (pyIter (.ref s1.heap.objs.size)) (PIE X pins σ tg R) X.xe {s1 with heap:=s1.heap.push o,toks:=t'}:=fun o t' e st=>by
  refine(z5o (P:=X.prog) (w:=X.w) (K:=X.K) (tg:=tg) k a s1.heap.objs.size xs).self X.A 0 {s1 with heap:=s1.heap.push o,toks:=t'} _ _ ⟨Nat.zero_le _,st⟩ ?_
  exact⟨s1.heap.objs.size,[s1.heap.objs.size],_,Itb k X.K a xs,H1,rfl,I1.kept (t':=t') fun b o e=>Heap.get?_push_of_some _ e,z5o k a s1.heap.objs.size xs,⟨Nat.zero_le _,st⟩,fun b hb=>by
   have e:b=s1.heap.objs.size:=by simpa using hb
   rw[e]
   exact I1.fpOk (Nat.le_refl _) (I1.hok.fresh (Nat.le_refl _)),q⟩
 have e0:(xs.length:Int) - 1 - ((0:Nat):Int)=(its.toArray.size:Int) - 1:=by rw[hl];omega
 cases k with
 | true =>
  refine call_reversed_list (show s1.heap.IsList a its.toArray from ha') ?_
  have e9:(s1.heap.push (revObj a ((its.toArray.size:Int) - 1))).get? s1.heap.objs.size=some (revObj a ((its.toArray.size:Int) - 1)):=Heap.get?_push_size _ rfl
  exact fin _ s1.toks e9 (by rw[e0];exact⟨_,e9,rfl,rfl⟩)
 | false =>
  refine z2q (show IsTup s1.heap a its.toArray from ha') (by rw[hl];exact hz) ?_
  have e9:(s1.heap.push (revT a ((its.toArray.size:Int) - 1))).get? s1.heap.objs.size=some (revT a ((its.toArray.size:Int) - 1)):=Heap.get?_push_size _ rfl
  exact fin _ (s1.toks + 1 + 1) e9 (by rw[e0];exact e9)
end L2
namespace L2
open PySem PySem.Spec PyProof.Rows
structure ZipRec2(h:Heap)(k1 k2:Bool)(z TI TO i1 i2 a b:Addr)(n:Nat)(B:Addr):Prop where
 zr:∃ f1:Bool,h.get? z=some {cls:=.type "zip",data:=.fields #[rawInt B,.bool f1,.bool false,.ref TI,.ref TO]}
 pi:IsPair h TI (.ref i1) (.ref i2)
 it1:IterK k1 h i1 a n
 it2:IterK k2 h i2 b n
 bl:∃ o,h.get? B=some o
section
variable {prog:Program} {w:World} {A:Around} {E:Value->Shared->Prop} {s:Shared} {k1 k2:Bool} {z TI TO i1 i2 a b B:Addr} {n:Nat} {xs ys:Array Value}
end
structure ZipAcc(h0 h:Heap)(k1 k2:Bool)(z TI TO i1 i2 a b S N:Addr)(xs ys:Array Value)(i:Nat):Prop where
 sz:h.objs.size=N + i
 zr:(i=0/\ZipRec h k1 k2 z TI TO i1 i2 a b 0 .none)\/(0 < i/\ZipRec2 h k1 k2 z TI TO i1 i2 a b i N)
 ha:HasK k1 h a xs
 hb:HasK k2 h b ys
 ps:∀ j,j < i->∃ x y,xs[j]?=some x/\ys[j]?=some y/\IsPair h (N + j) x y
 ls:∃ c,h.get? S=some {cls:=.type "list",data:=.seq ((List.range i).map fun j=>Value.ref (N + j)).toArray c}
 kp:∀ c o,c≠z->c≠TO->c≠i1->c≠i2->c≠S->h0.get? c=some o->h.get? c=some o
section
variable {prog:Program} {w:World} {A:Around} {R:Result->Shared->Prop} {k1 k2:Bool} {z TI TO i1 i2 a b S N:Addr} {xs ys:Array Value} {h0:Heap}
end
def laid(H:Hp)(N:Addr):List (V × V)->Hp
 | []=>H
 | p::r=>laid (upd H N (.tup [p.1,p.2])) (N + 1) r
section
variable {X:Cx} {pins:List (Addr × Obj)} {σ:St} {s:Shared}
end
end L2
namespace L2
open PySem PySem.Spec PyProof.Rows
section
variable {M:Model} {A:Around} {E:Value->Shared->Prop} {s:Shared} {base:Heap} {env:Env} {outer:List Env} {L e:Addr} {oe:Obj} {vs:Array Value} {Q:Unit->Shared->Prop}
structure Entry(h h':Heap)(l:List Env)(e T:Addr)(oe:Obj)(fl:Value):Prop where
 keep:∀ b o,b≠e->b ∉ frs l->h.get? b=some o->h'.get? b=some o
 slot:∀ b o,b∈frs l->h.get? b=some o->∃ sl,h'.get? b=some {o with slots:=sl}
 new:h.get? T=none
 ne:T≠e
 exc:h'.get? e=some (Obj.mapFields (·.setIfInBounds 1 (.ref T)) oe)
 tb:∃ oT ts,h'.get? T=some oT/\oT.data=.fields ts/\ts[3]?=some fl
end
inductive TrT(h:Heap)(a T:Addr)(cls:Value):Prop
 | mk (oe:Obj) (vs:Array Value) (oT:Obj) (ts:Array Value) (h0:h.get? a=some oe) (h1:oe.cls=cls) (h2:oe.dict=none) (h3:oe.data=.fields vs) (h4:vs[1]?=some (.ref T)) (h5:T≠a) (h6:h.get? T=some oT) (h7:oT.data=.fields ts) (h8:ts[3]?=some .none)
structure Mark(h h':Heap)(l:List Env)(e T0 T:Addr)(cls:Value):Prop where
 keep:∀ b o,b≠e->b≠T0->b ∉ frs l->h.get? b=some o->h'.get? b=some o
 slot:∀ b o,b∈frs l->h.get? b=some o->∃ sl,h'.get? b=some {o with slots:=sl}
 new:h.get? T=none
 tr:TrT h' e T cls
section
variable {M:Model} {A:Around} {E:Value->Shared->Prop} {s:Shared} {base:Heap} {env:Env} {outer:List Env} {L e T0:Addr} {oe:Obj} {vs:Array Value} {cls:Value} {Q:Unit->Shared->Prop}
end
inductive Flew(P:Program)(w:World)(base:Heap)(outer:List Env)(H0:Hp)(s0:Shared)(E:XK)(e:Value)(s':Shared):Prop
 | mk (a:Addr) (cls:Value) (H':Hp) (h0:e=.ref a) (h1:E cls none H') (h2:s'.os=s0.os) (h3:AllBare s'.gens) (h4:Un (frs outer) [] H0 H' s0.heap s'.heap) (h5:HOk P w H' s'.heap)
  (T:Addr) (h6:TrT s'.heap a T cls) (h7:H' a=none) (h8:s0.heap.get? a=none) (h9:s0.heap.get? T=none) (h10:s'.heap.FunFrames base outer) (h11:H' T=none)
section
variable {X:Cx} {pins:List (Addr × Obj)} {σ:St} {H:Hp} {s:Shared} {h':Heap} {e:Addr} {cls:Value} {args:List Value} {E:XK} {E':Value->Shared->Prop}
end
section
variable {X:Cx} {x z:Str} {C:Addr} {B newId initId:String} {bmB:List Value} {np cpos pos p2:Pos} {j:Nat}
def tRaise(X:Cx)(C:Addr):TS:=fun _ σ H=>∀ pins s h' e args,Inv X pins σ H s->Heap.MadeExcOf s.heap h' e (.ref C) args->X.xe (.ref e) {s with heap:=h'}
end
section
variable {X:Cx} {pins:List (Addr × Obj)} {σ:St} {H:Hp} {h3:Heap} {s':Shared} {a T C':Addr} {cls:Value} {c n y:Str} {ie iy:Nat} {np p1 p2 p3 pos:Pos} {Q:Flow->Shared->Prop} {E':Value->Shared->Prop}
end
section
variable {X:Cx} {k ie iy:Nat} {f C C':Addr} {fd:FuncData} {ps:List Str} {sp:Sp} {x c n y:Str} {p cpos xpos np p1 p2 p3 pos1 pos:Pos} {e:Expr} {es:List Expr} {t:TA}
end
section
variable {prog:Program} {w:World} {A:Around} {E:Value->Shared->Prop} {s:Shared} {K:PySem.W.Frag} {x D:Addr}
open PySem.W in
open PySem.W in
end
structure ExcK(K:PySem.W.Frag)(D:Addr):Prop where
 hg:PySem.W.findIn K (.ref D) "__getattribute__"=some (some (.builtin "BaseException.__getattribute__"))
 hno:PySem.W.findIn K (.ref D) "__getattr__"=some none
 hb:PySem.W.mroIn K D (.type "BaseException")=some true
 hdct:PySem.W.hasDictIn K D=true
 ha:PySem.W.findIn K (.ref D) "__class__"=some (some (.builtin "object.__class__"))
 hn:PySem.W.specialIn K (.builtin "object.__class__") "__get__"=some (some (.builtin "getset_descriptor.__get__"))
 htk:PySem.W.takesIn K (.builtin "object.__class__")=some true
 hm:PySem.W.mroIn K D (.type "object")=some true
end L2
namespace L2
open PySem PySem.Spec PyProof.Rows
structure CompOkC(X:Cx)(scope:Scope)(cl:List (Str × Addr))(N:List Str)(k:Nat)(fr:List Nat)(x0:Str):Prop where
 kind:scope.kind=.function
 names:∀ y∈scope.names,y.2=.local->scope.names.lookup y.1=some .local
 lay:∀ n acc,cellsFrom n scope.names acc=(x0,n)::acc
 push:∀ h,pushCells h scope.names=h.push {cls:=.type "cell",data:=.cell none}
 clos:closureFor scope X.env=pure cl
 sub:∀ x c,cl.lookup x=some c->X.env.cells.lookup x=some c
 has:∀ x,x≠x0->((relabel scope X.env).names.lookup x=some .cell\/(relabel scope X.env).names.lookup x=some .free)->∃ c,cl.lookup x=some c
 len:N.length=k + fr.length
 free:∀ (t j:Nat) (x:Str),fr[t]?=some j->N[k + t]?=some x->x≠x0/\X.N[j]?=some x/\Vis X.env.scope x/\(∃ c,cl.lookup x=some c)/\((relabel scope X.env).names.lookup x=some .cell\/(relabel scope X.env).names.lookup x=some .free)/\¬ X.env.scope.names.lookup x=some .local
section
variable {X:Cx} {pins:List (Addr × Obj)} {σ:St} {H:Hp} {s:Shared}
end
end L2
namespace L3
open PySem L2 PySem.Spec PyProof.Rows
theorem bnd1{α γ:Type}{x:Option α}{f:α->Option γ}{r:γ}{Q:Prop}(e:x.bind f=some r)(h:∀ p,x=some p->f p=some r->Q):Q:=by
 cases x with
 | none=>cases e
 | some p=>exact h p rfl e
theorem bnd2{α β γ:Type}{x:Option (α × β)}{f:α × β->Option γ}{r:γ}{Q:Prop}(e:x.bind f=some r)(h:∀ d s,x=some (d,s)->f (d,s)=some r->Q):Q:=bnd1 e fun p=>h p.1 p.2
theorem mpp1{α γ:Type}{x:Option α}{f:α->γ}{r:γ}{Q:Prop}(e:x.map f=some r)(h:∀ p,x=some p->f p=r->Q):Q:=by
 cases x with
 | none=>cases e
 | some p=>exact h p rfl (Option.some.inj e)
theorem mpp2{α β γ:Type}{x:Option (α × β)}{f:α × β->γ}{r:γ}{Q:Prop}(e:x.map f=some r)(h:∀ d s,x=some (d,s)->f (d,s)=r->Q):Q:=mpp1 e fun p=>h p.1 p.2
abbrev D:=PyData
abbrev Zt:=Option (Addr × Addr)
abbrev Sx:=List Int × Int
def NotZ(Z:Zt)(p:Addr):Prop:=∀ a c,Z=some (a,c)->p≠a/\p≠c
def stDict(c:Addr)(t:Int):List (Key × V):=[(Sum.inr "cells",.ref c),(Sum.inr "turn",.int t)]
def StateAt(Z:Zt)(H:Hp)(s:Sx):Prop:=∀ a c,Z=some (a,c)->H a=some (.dK (stDict c s.2))/\H c=some (.lst (s.1.map V.int))
def Ext(Z:Zt)(H H':Hp):Prop:=∀ b o,H b=some o->NotZ Z b->H' b=some o
theorem Ext.refl{Z:Zt}(H:Hp):Ext Z H H:=fun _ _ e _=>e
theorem Ext.trans{Z:Zt}{H H1 H2:Hp}(a:Ext Z H H1)(b:Ext Z H1 H2):Ext Z H H2:=fun c o e n=>b c o (a c o e n) n
theorem Ext.upd{Z:Zt}{H:Hp}{p:Addr}{o:HO}(h:H p=none):Ext Z H (upd H p o):=fun b u e _=>by rw[zg (zj e h)];exact e
theorem StateAt.upd{Z:Zt}{H:Hp}{s:Sx}{p:Addr}{o:HO}(S:StateAt Z H s)(h:H p=none):StateAt Z (upd H p o) s:=fun a c e =>
 ⟨by rw[zg (zj (S a c e).1 h)];exact(S a c e).1,by rw[zg (zj (S a c e).2 h)];exact(S a c e).2⟩
theorem StateAt.notZ{Z:Zt}{H:Hp}{s:Sx}{p:Addr}(S:StateAt Z H s)(h:H p=none):NotZ Z p:=fun a c e=>⟨Ne.symm (zj (S a c e).1 h),Ne.symm (zj (S a c e).2 h)⟩
def ModT(K:PySem.W.Frag)(p:Addr)(vs:List V):Prop:=∃ (o:Obj) (its:Array Value) (n:Nat),K.lookup p=some o/\o.cls=.type "tuple"/\o.data=.seq its n/\its.size<=sizeLine/\Vals vs its.toList
mutual
inductive Rep(K:PySem.W.Frag)(Z:Zt)(H:Hp)(A:List Addr):V->D->Prop
 | non:Rep K Z H A .non .none
 | bl (b:Bool):Rep K Z H A (.bl b) (.bool b)
 | int (i:Int):Rep K Z H A (.int i) (.int i)
 | str (x:Str):Rep K Z H A (.str x) (.str x)
 | tup {p:Addr} {vs:List V} {ds:List D}:H p=some (.tup vs)->¬ p∈A->NotZ Z p->Reps K Z H A vs ds->Rep K Z H A (.ref p) (.tuple ds)
 | lst {p:Addr} {vs:List V} {ds:List D}:H p=some (.lst vs)->¬ p∈A->NotZ Z p->Reps K Z H A vs ds->Rep K Z H A (.ref p) (.list ds)
 | mod {p:Addr} {vs:List V} {ds:List D}:ModT K p vs->Reps K Z H A vs ds->Rep K Z H A (.ref p) (.tuple ds)
 | st {a c:Addr}:Z=some (a,c)->Rep K Z H A (.ref a) (.dict [])
 | obj {p C dx:Addr} {c:Str} {ns:List Str} {vs:List V} {ds:List D}:PySem.W.nsIn K mainGlobals c=some (some (.ref C))->H p=some (.ins C dx (ns.zip vs))->¬ p∈A->NotZ Z p->Reps K Z H A vs ds ->
   Rep K Z H A (.ref p) (.dict ((.str "",.str c)::(ns.map PyData.str).zip ds))
inductive Reps(K:PySem.W.Frag)(Z:Zt)(H:Hp)(A:List Addr):List V->List D->Prop
 | nil:Reps K Z H A [] []
 | cons {v:V} {d:D} {vs:List V} {ds:List D}:Rep K Z H A v d->Reps K Z H A vs ds->Reps K Z H A (v::vs) (d::ds)
end
section
variable {K:PySem.W.Frag} {Z:Zt} {H H':Hp} {A A':List Addr}
theorem Reps.move(hm:∀ p o,H p=some o->¬ p∈A->NotZ Z p->H' p=some o/\¬ p∈A'){vs:List V}{ds:List D}(r:Reps K Z H A vs ds):Reps K Z H' A' vs ds :=
 Reps.rec (motive_1:=fun v d _=>Rep K Z H' A' v d) (motive_2:=fun vs ds _=>Reps K Z H' A' vs ds) .non .bl .int .str
  (fun h n z _ r=>.tup (hm _ _ h n z).1 (hm _ _ h n z).2 z r) (fun h n z _ r=>.lst (hm _ _ h n z).1 (hm _ _ h n z).2 z r) (fun h _ r=>.mod h r) (fun h=>.st h)
  (fun k h n z _ r=>.obj k (hm _ _ h n z).1 (hm _ _ h n z).2 z r) .nil (fun _ _ r t=>.cons r t) r
theorem Reps.head{v:V}{d:D}{vs:List V}{ds:List D}(r:Reps K Z H A (v::vs) (d::ds)):Rep K Z H A v d:=by
 cases r with
 | cons r _=>exact r
theorem Rep.move(hm:∀ p o,H p=some o->¬ p∈A->NotZ Z p->H' p=some o/\¬ p∈A'){v:V}{d:D}(r:Rep K Z H A v d):Rep K Z H' A' v d:=Reps.head (Reps.move hm (.cons r .nil))
theorem Rep.ext{v:V}{d:D}(r:Rep K Z H A v d)(e:Ext Z H H'):Rep K Z H' A v d:=r.move fun p o h n z=>⟨e p o h z,n⟩
theorem Reps.ext{vs:List V}{ds:List D}(r:Reps K Z H A vs ds)(e:Ext Z H H'):Reps K Z H' A vs ds:=r.move fun p o h n z=>⟨e p o h z,n⟩
theorem Rep.sub{v:V}{d:D}(r:Rep K Z H A v d)(e:∀ q∈A',q∈A):Rep K Z H A' v d:=r.move fun p o h n z=>⟨h,fun q=>n (e _ q)⟩
theorem Reps.sub{vs:List V}{ds:List D}(r:Reps K Z H A vs ds)(e:∀ q∈A',q∈A):Reps K Z H A' vs ds:=r.move fun p o h n z=>⟨h,fun q=>n (e _ q)⟩
theorem Reps.length{vs:List V}{ds:List D}(h:Reps K Z H A vs ds):vs.length=ds.length:=by
 induction vs generalizing ds with
 | nil=>cases h;rfl
 | cons v vs ih =>
  cases h with
  | cons _ t=>exact congrArg (· + 1) (ih t)
theorem Reps.get:∀ {vs:List V} {ds:List D} {i:Nat} {d:D},Reps K Z H A vs ds->ds[i]?=some d->∃ v,vs[i]?=some v/\Rep K Z H A v d
 | _,_,_,_,.nil,e=>by simp at e
 | _,_,0,_,.cons r _,e=>by simp at e;subst e;exact⟨_,rfl,r⟩
 | _,_,i + 1,d,.cons _ t,e=>by
  obtain⟨u,h1,h2⟩:=Reps.get (i:=i) (d:=d) t (by simpa using e)
  exact⟨u,by simpa using h1,h2⟩
theorem Reps.at:∀ {vs:List V} {ds:List D} {i:Nat} {v:V},Reps K Z H A vs ds->vs[i]?=some v->∃ d,ds[i]?=some d/\Rep K Z H A v d
 | _,_,_,_,.nil,e=>by simp at e
 | _,_,0,_,.cons r _,e=>by simp at e;subst e;exact⟨_,rfl,r⟩
 | _,_,i + 1,v,.cons _ t,e=>by
  obtain⟨u,h1,h2⟩:=Reps.at (i:=i) (v:=v) t (by simpa using e)
  exact⟨u,by simpa using h1,h2⟩
theorem Reps.append{vs ws:List V}{ds es:List D}(h:Reps K Z H A vs ds)(s:Reps K Z H A ws es):Reps K Z H A (vs++ws) (ds++es):=by
 induction vs generalizing ds with
 | nil=>cases h;exact s
 | cons v vs ih =>
  cases h with
  | cons r t=>exact .cons r (ih t)
theorem Reps.take:∀ {vs:List V} {ds:List D} (n:Nat),Reps K Z H A vs ds->Reps K Z H A (vs.take n) (ds.take n)
 | _,_,0,_=>.nil
 | _,_,_ + 1,.nil=>.nil
 | _,_,n + 1,.cons r t=>.cons r (Reps.take n t)
theorem Reps.drop:∀ {vs:List V} {ds:List D} (n:Nat),Reps K Z H A vs ds->Reps K Z H A (vs.drop n) (ds.drop n)
 | _,_,0,r=>r
 | _,_,_ + 1,.nil=>.nil
 | _,_,n + 1,.cons _ t=>Reps.drop n t
theorem Reps.set{v:V}{d:D}(r:Rep K Z H A v d):∀ {vs:List V} {ds:List D} (i:Nat),Reps K Z H A vs ds->Reps K Z H A (vs.set i v) (ds.set i d)
 | _,_,_,.nil=>.nil
 | _,_,0,.cons _ t=>.cons r t
 | _,_,i + 1,.cons q t=>.cons q (Reps.set r i t)
theorem Reps.rep(k:Nat){vs:List V}{ds:List D}(h:Reps K Z H A vs ds):Reps K Z H A (List.replicate k vs).flatten (List.replicate k ds).flatten:=by
 induction k with
 | zero=>exact .nil
 | succ k ih=>rw[List.replicate_succ,List.replicate_succ,List.flatten_cons,List.flatten_cons];exact h.append ih
theorem Reps.dropLast:∀ {vs:List V} {ds:List D},Reps K Z H A vs ds->Reps K Z H A vs.dropLast ds.dropLast:=fun{vs ds} h=>by
 rw[List.dropLast_eq_take,List.dropLast_eq_take,h.length];exact h.take _
theorem zO{p:Addr}(hA:∀ q∈A,∃ o,H q=some o)(h:H p=none):¬ p∈A:=fun m=>by
 obtain⟨o,e⟩:=hA p m
 rw[h]at e;cases e
end
def RepW(K:PySem.W.Frag)(Z:Zt)(H:Hp)(A:List Addr)(v:V)(d:D):Prop :=
 Rep K Z H A v d\/∃ p vs ds,v=.ref p/\d=.list ds/\H p=some (.lst vs)/\NotZ Z p/\Reps K Z H A vs ds
section
variable {K:PySem.W.Frag} {Z:Zt} {H H':Hp} {A A':List Addr} {v:V} {d:D}
theorem Rep.w(r:Rep K Z H A v d):RepW K Z H A v d:=.inl r
theorem RepW.ext(r:RepW K Z H A v d)(e:Ext Z H H'):RepW K Z H' A v d:=by
 rcases r with r | ⟨p,vs,ds,e1,e2,e3,e4,e5⟩
 ·exact .inl (r.ext e)
 ·exact .inr ⟨p,vs,ds,e1,e2,e _ _ e3 e4,e4,e5.ext e⟩
theorem RepW.list{ds:List D}(r:RepW K Z H A v (.list ds)):∃ p vs,v=.ref p/\SqL K H p vs/\NotZ Z p/\Reps K Z H A vs ds:=by
 rcases r with r | ⟨p,vs,ds,e1,e2,e3,e4,e5⟩
 ·cases r with
  | lst h n z q=>exact⟨_,_,rfl,.of h,z,q⟩
 ·cases e2;exact⟨p,vs,e1,.of e3,e4,e5⟩
theorem RepW.tuple{ds:List D}(r:RepW K Z H A v (.tuple ds)):∃ p vs,v=.ref p/\SqT K H p vs/\Reps K Z H A vs ds:=by
 rcases r with r | ⟨p,vs,ds,e1,e2,e3,e4,e5⟩
 ·cases r with
  | tup h n z q=>exact⟨_,_,rfl,.of h,q⟩
  | mod h q=>exact⟨_,_,rfl,.inr h,q⟩
 ·cases e2
theorem RepW.int{i:Int}(r:RepW K Z H A v (.int i)):v=.int i:=by
 rcases r with r | ⟨p,vs,ds,e1,e2,e3,e4,e5⟩
 ·cases r;rfl
 ·cases e2
theorem RepW.bool{i:Bool}(r:RepW K Z H A v (.bool i)):v=.bl i:=by
 rcases r with r | ⟨p,vs,ds,e1,e2,e3,e4,e5⟩
 ·cases r;rfl
 ·cases e2
theorem RepW.str{i:Str}(r:RepW K Z H A v (.str i)):v=.str i:=by
 rcases r with r | ⟨p,vs,ds,e1,e2,e3,e4,e5⟩
 ·cases r;rfl
 ·cases e2
theorem RepW.none(r:RepW K Z H A v .none):v=.non:=by
 rcases r with r | ⟨p,vs,ds,e1,e2,e3,e4,e5⟩
 ·cases r;rfl
 ·cases e2
end
inductive Ce where
 | non | val (d:D) | own (xs:List D)
abbrev Sl:=List Ce
abbrev Ow:=List (Nat × Addr)
inductive ValAt(K:PySem.W.Frag)(Z:Zt)(A:List Addr)(ow:Ow)(σ:L2.St)(H:Hp)(i:Nat)(d:D):Prop
 | mk (v:V) (h0:σ[i]?=some (some v)) (h1:Rep K Z H (A++ow.map (·.2)) v d)
inductive OwnAt(K:PySem.W.Frag)(Z:Zt)(A:List Addr)(ow:Ow)(σ:L2.St)(H:Hp)(i:Nat)(xs:List D):Prop
 | mk (p:Addr) (vs:List V) (h0:(i,p)∈ow) (h1:σ[i]?=some (some (.ref p))) (h2:H p=some (.lst vs)) (h3:Reps K Z H (A++ow.map (·.2)) vs xs)
structure RepS(K:PySem.W.Frag)(B:Hp)(Z:Zt)(A:List Addr)(ow:Ow)(σ:L2.St)(δ:Sl)(H:Hp):Prop where
 ok:∀ q∈A,(∃ o,H q=some o)/\NotZ Z q
 ext:Ext Z B H
 len:δ.length=σ.length
 val:∀ (i:Nat) (d:D),δ[i]?=some (.val d)->ValAt K Z A ow σ H i d
 own:∀ (i:Nat) (xs:List D),δ[i]?=some (.own xs)->OwnAt K Z A ow σ H i xs
 ows:∀ i p,(i,p)∈ow->B p=none/\(∃ vs,H p=some (.lst vs))/\NotZ Z p/\¬ p∈A
 inj:∀ i j p,(i,p)∈ow->(j,p)∈ow->i=j
section
variable {K:PySem.W.Frag} {B:Hp} {Z:Zt} {A:List Addr} {ow:Ow} {σ:L2.St} {δ:Sl} {H H':Hp}
theorem RepS.mono(R:RepS K B Z A ow σ δ H)(e:Ext Z H H'):RepS K B Z A ow σ δ H' where
 ok:=fun q hq=>⟨let ⟨o,h⟩:=(R.ok q hq).1;⟨o,e q o h (R.ok q hq).2⟩,(R.ok q hq).2⟩
 ext:=R.ext.trans e
 len:=R.len
 val:=fun i d h=>let ⟨v,a,b⟩:=R.val i d h;⟨v,a,b.ext e⟩
 own:=fun i xs h=>let ⟨p,vs,a,b,c,d⟩:=R.own i xs h;⟨p,vs,a,b,e p _ c (R.ows i p a).2.2.1,d.ext e⟩
 ows:=fun i p h=>let ⟨a,⟨o,b⟩,c,d⟩:=R.ows i p h;⟨a,⟨o,e p _ b c⟩,c,d⟩
 inj:=R.inj
theorem RepS.all(R:RepS K B Z A ow σ δ H):∀ q∈A++ow.map (·.2),∃ o,H q=some o:=fun q hq=>by
 rcases List.mem_append.mp hq with h | h
 ·exact(R.ok q h).1
 ·obtain⟨⟨i,p⟩,hp,rfl⟩:=List.mem_map.mp h
  obtain⟨vs,h⟩:=(R.ows i p hp).2.1
  exact⟨_,h⟩
end
def Frm(Z:Zt)(ow:Ow)(H:Hp)(ow':Ow)(H':Hp):Prop:=∀ b o,H b=some o->NotZ Z b->¬ b∈ow.map (·.2)->H' b=some o/\¬ b∈ow'.map (·.2)
theorem Frm.ext{Z:Zt}{ow:Ow}{H H':Hp}(e:Ext Z H H'):Frm Z ow H ow H':=fun b o h n m=>⟨e b o h n,m⟩
theorem Frm.refl{Z:Zt}{ow:Ow}{H:Hp}:Frm Z ow H ow H:=fun _ _ h _ m=>⟨h,m⟩
theorem Frm.trans{Z:Zt}{o1 o2 o3:Ow}{H1 H2 H3:Hp}(a:Frm Z o1 H1 o2 H2)(b:Frm Z o2 H2 o3 H3):Frm Z o1 H1 o3 H3:=fun c o h n m=>let ⟨h',m'⟩:=a c o h n m;b c o h' n m'
section
variable {K:PySem.W.Frag} {Z:Zt} {H H':Hp} {A:List Addr} {ow ow':Ow}
theorem z48{p:Addr}{u:HO}(h:H p=some u)(f:Frm Z ow H ow' H')(n:NotZ Z p)(m:¬ p∈A++ow.map (·.2)):H' p=some u/\¬ p∈A++ow'.map (·.2):=by
 have m1:¬ p∈A:=fun q=>m (List.mem_append_left _ q)
 have m2:¬ p∈ow.map (·.2):=fun q=>m (List.mem_append_right _ q)
 exact⟨(f _ _ h n m2).1,fun q=>(List.mem_append.mp q).elim m1 (f _ _ h n m2).2⟩
theorem Rep.frm{v:V}{d:D}(r:Rep K Z H (A++ow.map (·.2)) v d)(f:Frm Z ow H ow' H'):Rep K Z H' (A++ow'.map (·.2)) v d:=r.move fun p o h n z=>z48 h f z n
theorem Reps.frm{vs:List V}{ds:List D}(r:Reps K Z H (A++ow.map (·.2)) vs ds)(f:Frm Z ow H ow' H'):Reps K Z H' (A++ow'.map (·.2)) vs ds:=r.move fun p o h n z=>z48 h f z n
end
abbrev FE:=Sl->Sx->Option (D × Sx)
abbrev FT:=Sl->Sx->Option (Bool × Sx)
abbrev FA:=Sl->Sx->Option (List D × Sx)
inductive tDK(K:PySem.W.Frag)(Z:Zt)(A:List Addr)(F:FE)(σ:L2.St)(H:Hp)(Q:VK):Prop
 | mk (B:Hp) (ow:Ow) (δ:Sl) (s:Sx) (d:D) (s':Sx) (h0:RepS K B Z A ow σ δ H) (h1:StateAt Z H s) (h2:F δ s=some (d,s')) (h3:∀ v H',Ext Z H H'->StateAt Z H' s'->Rep K Z H' (A++ow.map (·.2)) v d->Q v H')
abbrev tD(X:Cx)(Z:Zt)(A:List Addr)(F:FE):TE:=tDK X.K Z A F
inductive tDTK(K:PySem.W.Frag)(Z:Zt)(A:List Addr)(F:FT)(σ:L2.St)(H:Hp)(Q:Bool->Hp->Prop):Prop
 | mk (B:Hp) (ow:Ow) (δ:Sl) (s:Sx) (b:Bool) (s':Sx) (h0:RepS K B Z A ow σ δ H) (h1:StateAt Z H s) (h2:F δ s=some (b,s')) (h3:∀ H',Ext Z H H'->StateAt Z H' s'->Q b H')
abbrev tDT(X:Cx)(Z:Zt)(A:List Addr)(F:FT):TT:=tDTK X.K Z A F
inductive tDAK(K:PySem.W.Frag)(Z:Zt)(A:List Addr)(F:FA)(σ:L2.St)(H:Hp)(Q:List V->Hp->Prop):Prop
 | mk (B:Hp) (ow:Ow) (δ:Sl) (s:Sx) (ds:List D) (s':Sx) (h0:RepS K B Z A ow σ δ H) (h1:StateAt Z H s) (h2:F δ s=some (ds,s')) (h3:∀ vs H',Ext Z H H'->StateAt Z H' s'->Reps K Z H' (A++ow.map (·.2)) vs ds->Q vs H')
abbrev tDA(X:Cx)(Z:Zt)(A:List Addr)(F:FA):TA:=tDAK X.K Z A F
structure DE(X:Cx)(e:Expr)(F:FE):Prop where
 go:∀ Z A,PE X e (tD X Z A F)
instance {X:Cx} {e:Expr} {F:FE}:CoeFun (DE X e F) (fun _=>∀ Z A,PE X e (tD X Z A F)):=⟨fun h=>h.go⟩
structure DT(X:Cx)(e:Expr)(F:FT):Prop where
 go:∀ Z A,PT X e (tDT X Z A F)
instance {X:Cx} {e:Expr} {F:FT}:CoeFun (DT X e F) (fun _=>∀ Z A,PT X e (tDT X Z A F)):=⟨fun h=>h.go⟩
structure DA(X:Cx)(es:List Expr)(F:FA):Prop where
 go:∀ Z A,PA X es (tDA X Z A F)
instance {X:Cx} {es:List Expr} {F:FA}:CoeFun (DA X es F) (fun _=>∀ Z A,PA X es (tDA X Z A F)):=⟨fun h=>h.go⟩
abbrev FO:=Sl->Sx->Option (List D × Sx)
inductive tDOK(K:PySem.W.Frag)(Z:Zt)(A:List Addr)(F:FO)(σ:L2.St)(H:Hp)(Q:VK):Prop
 | mk (B:Hp) (ow:Ow) (δ:Sl) (s:Sx) (ds:List D) (s':Sx) (h0:RepS K B Z A ow σ δ H) (h1:StateAt Z H s) (h2:F δ s=some (ds,s')) (h3:∀ p vs H',Ext Z H H'->StateAt Z H' s'->H' p=some (.lst vs)->NotZ Z p->Reps K Z H' (A++ow.map (·.2)) vs ds->Q (.ref p) H')
abbrev tDO(X:Cx)(Z:Zt)(A:List Addr)(F:FO):TE:=tDOK X.K Z A F
structure DO(X:Cx)(e:Expr)(F:FO):Prop where
 go:∀ Z A,PE X e (tDO X Z A F)
instance {X:Cx} {e:Expr} {F:FO}:CoeFun (DO X e F) (fun _=>∀ Z A,PE X e (tDO X Z A F)):=⟨fun h=>h.go⟩
inductive tDWK(K:PySem.W.Frag)(Z:Zt)(A:List Addr)(F:FE)(σ:L2.St)(H:Hp)(Q:VK):Prop
 | mk (B:Hp) (ow:Ow) (δ:Sl) (s:Sx) (d:D) (s':Sx) (h0:RepS K B Z A ow σ δ H) (h1:StateAt Z H s) (h2:F δ s=some (d,s')) (h3:∀ v H',Ext Z H H'->StateAt Z H' s'->RepW K Z H' (A++ow.map (·.2)) v d->Q v H')
abbrev tDW(X:Cx)(Z:Zt)(A:List Addr)(F:FE):TE:=tDWK X.K Z A F
structure DW(X:Cx)(e:Expr)(F:FE):Prop where
 go:∀ Z A,PE X e (tDW X Z A F)
instance {X:Cx} {e:Expr} {F:FE}:CoeFun (DW X e F) (fun _=>∀ Z A,PE X e (tDW X Z A F)):=⟨fun h=>h.go⟩
theorem PE.imp{X:Cx}{e:Expr}{t t':TE}(h:PE X e t)(hi:∀ σ H Q,t' σ H Q->t σ H Q):PE X e t':=fun pins s σ H Q I q=>h pins s σ H Q I (hi σ H Q q)
theorem PT.imp{X:Cx}{e:Expr}{t t':TT}(h:PT X e t)(hi:∀ σ H Q,t' σ H Q->t σ H Q):PT X e t':=fun pins s σ H Q I q=>h pins s σ H Q I (hi σ H Q q)
theorem PA.imp{X:Cx}{e:List Expr}{t t':TA}(h:PA X e t)(hi:∀ σ H Q,t' σ H Q->t σ H Q):PA X e t':=fun pos pins s σ H Q I q=>h pos pins s σ H Q I (hi σ H Q q)
theorem PS.imp{X:Cx}{st:Stmt}{t t':TS}(h:PS X st t)(hi:∀ D σ H,t' D σ H->t D σ H):PS X st t':=fun pins s σ H D I q=>h pins s σ H D I (hi D σ H q)
theorem PSs.imp{X:Cx}{st:List Stmt}{t t':TS}(h:PSs X st t)(hi:∀ D σ H,t' D σ H->t D σ H):PSs X st t':=fun pins s σ H D I q=>h pins s σ H D I (hi D σ H q)
section
variable {X:Cx} {a b c:Expr} {Fa Fb Fc:FE} {pos:Pos}
def fVar(i:Nat):FE:=fun δ s=>match δ[i]? with | some (.val d)=>some (d,s) | _=>none
def fC(d:D):FE:=fun _ s=>some (d,s)
theorem zeL{e:Expr}{i:Nat}(h:PE X e (tVar i)):DE X e (fVar i):=⟨fun Z A=>PE.imp h fun σ H Q zfI=>by
 obtain⟨B,ow,δ,s,d,s',R,S,e,q⟩:=zfI
 unfold fVar at e
 split at e
 ·rename_i d' hd
  cases e
  obtain⟨v,h1,h2⟩:=R.val i _ hd
  exact⟨v,h1,q v H (Ext.refl H) S h2⟩
 ·cases e⟩
theorem dv(i:Nat){x:Str}(hN:X.N[i]?=some x:=by rfl)(hv:Vis X.env.scope x:=by first | exact Or.inl rfl | exact Or.inr (Or.inl rfl) | exact Or.inr (Or.inr rfl))(hd:(x == ("__debug__":Str))=false:=by decide)
  (hcd:(x == ("__classdict__":Str))=false:=by decide):DE X (.Name x pos) (fVar i):=zeL (pv i hN hv hd hcd)
theorem z2M{e:Expr}{v:V}{d:D}(h:PE X e (tC v))(r:∀ K Z H A,Rep K Z H A v d):DE X e (fC d):=⟨fun Z A=>PE.imp h fun σ H Q zfJ=>by
 obtain⟨B,ow,δ,s,d',s',R,S,e,q⟩:=zfJ
 cases e
 exact q v H (Ext.refl H) S (r _ _ _ _)⟩
theorem de_int{i:Int}{j}:DE X (.Constant (.int i) j pos) (fC (.int i)):=z2M z43 fun _ _ _ _=>.int i
theorem z6g{i:Bool}{j}:DE X (.Constant (.bool i) j pos) (fC (.bool i)):=z2M zeB fun _ _ _ _=>.bl i
theorem z8y{j}:DE X (.Constant .none j pos) (fC .none):=z2M zcn fun _ _ _ _=>.non
theorem zcM{x:Str}{j}:DE X (.Constant (.str x) j pos) (fC (.str x)):=z2M z3e fun _ _ _ _=>.str x
theorem DE.w{e:Expr}{F:FE}(h:DE X e F):DW X e F:=⟨fun Z A=>PE.imp (h Z A) fun σ H Q zfK=>(by obtain⟨B,ow,δ,s,d,s',R,S,e,q⟩:=zfK;exact⟨B,ow,δ,s,d,s',R,S,e,fun v H' a b c=>q v H' a b c.w⟩)⟩
def asL(F:FO):FE:=fun δ s=>(F δ s).map fun p=>(.list p.1,p.2)
abbrev G2:=D->D->Option D
def DOp(X:Cx)(f:Value->Value->Sem Value)(g:G2):Prop:=∀ (Z:Zt) (A:List Addr) (pins:List (Addr × Obj)) (s:Shared) (σ:L2.St) (H:Hp) (st:Sx) (x y:V) (v u:Value) (dx dy d:D) (Q:VK),
 Inv X pins σ H s->StateAt Z H st->(∀ q∈A,∃ o,H q=some o)->RepW X.K Z H A x dx->RepW X.K Z H A y dy->RelV x v->RelV y u->g dx dy=some d ->
 (∀ v' H',Ext Z H H'->StateAt Z H' st->Rep X.K Z H' A v' d->Q v' H')->wpAny (model X.prog X.w) X.A (f v u) (EP X pins σ Q) X.xe s
theorem DOp.of{f:Value->Value->Sem Value}{g:G2}{r:R2}(h:OpR X f r)
  (hr:∀ (Z:Zt) (A:List Addr) (H:Hp) (st:Sx) (x y:V) (dx dy d:D) (Q:VK),StateAt Z H st->(∀ q∈A,∃ o,H q=some o)->RepW X.K Z H A x dx->RepW X.K Z H A y dy->g dx dy=some d ->
   (∀ v' H',Ext Z H H'->StateAt Z H' st->Rep X.K Z H' A v' d->Q v' H')->r x y H Q):DOp X f g :=
 fun Z A pins s σ H st x y v u dx dy d Q I S hA rx ry vx vy e q=>h pins s σ H x y v u Q I vx vy (hr Z A H st x y dx dy d Q S hA rx ry e q)
theorem DOp.or{f:Value->Value->Sem Value}{g g':G2}(h:DOp X f g)(h':DOp X f g'):DOp X f (fun a b=>(g a b).or (g' a b)) :=
 fun Z A pins s σ H st x y v u dx dy d Q I S hA rx ry vx vy e q=>by
  cases e1:g dx dy with
  | some d'=>dsimp only at e;rw[e1]at e;exact h Z A pins s σ H st x y v u dx dy d Q I S hA rx ry vx vy (by rw[e1];exact e) q
  | none=>dsimp only at e;rw[e1]at e;exact h' Z A pins s σ H st x y v u dx dy d Q I S hA rx ry vx vy e q
def f2(g:G2)(Fa Fb:FE):FE:=fun δ s=>(Fa δ s).bind fun p=>(Fb δ p.2).bind fun q=>(g p.1 q.1).map fun d=>(d,q.2)
theorem two{g:G2}{f:Value->Value->Sem Value}(ho:DOp X f g)(ha:DW X a Fa)(hb:DW X b Fb){Z:Zt}{A:List Addr}{pins:List (Addr × Obj)}{s:Shared}{σ:L2.St}{H:Hp}{Q:VK}(I:Inv X pins σ H s)(h:tD X Z A (f2 g Fa Fb) σ H Q) :
  wpAny (model X.prog X.w) X.A (eval a X.env) (fun v s₁=>wpAny (model X.prog X.w) X.A (eval b X.env) (fun u s₂=>wpAny (model X.prog X.w) X.A (f v u) (EP X pins σ Q) X.xe s₂) X.xe s₁) X.xe s:=by
 obtain⟨B,ow,δ,st,d,st',R,S,e,q⟩:=h
 unfold f2 at e
 first | refine bnd2 e fun dx s1 e1 e=>?_ | refine mpp2 e fun dx s1 e1 e=>?_
 replace e:((Fb δ s1).bind fun q=>(g dx q.1).map fun d=>(d,q.2))=some (d,st'):=e
 first | refine bnd2 e fun dy s2 e2 e=>?_ | refine mpp2 e fun dy s2 e2 e=>?_
 replace e:((g dx dy).map fun d=>(d,s2))=some (d,st'):=e
 cases e3:g dx dy with
 | none=>rw[e3]at e;cases e
 | some d' =>
  rw[e3]at e
  cases e
  refine thn (ha Z A pins s σ H (fun x H1=>Ext Z H H1/\StateAt Z H1 s1/\RepW X.K Z H1 (A++ow.map (·.2)) x dx) I ⟨B,ow,δ,st,dx,s1,R,S,e1,fun v H' a b c=>⟨a,b,c⟩⟩) fun v s1' zfL=>?_
  obtain⟨x,H1,I1,r1,x1,S1,q1⟩:=zfL
  refine thn (hb Z A pins s1' σ H1 (fun y H2=>Ext Z H1 H2/\StateAt Z H2 st'/\RepW X.K Z H2 (A++ow.map (·.2)) y dy) I1 ⟨B,ow,δ,s1,dy,st',R.mono x1,S1,e2,fun v H' a b c=>⟨a,b,c⟩⟩) fun u s2' zfM=>?_
  obtain⟨y,H2,I2,r2,x2,S2,q2⟩:=zfM
  exact ho Z _ pins s2' σ H2 st' x y v u dx dy d Q I2 S2 ((R.mono x1).mono x2).all (q1.ext x2) q2 r1 r2 e3 fun v' H' a b c=>q v' H' ((x1.trans x2).trans a) b c
theorem de_op{op:Operator}{g:G2}(ho:DOp X (binaryOp op) g)(ha:DW X a Fa)(hb:DW X b Fb):DE X (.BinOp a op b pos) (f2 g Fa Fb):=⟨fun _ _ _ _ _ _ _ I h=>wpAny_BinOp (two ho ha hb I h)⟩
theorem z5p{op:CmpOp}{g:G2}(ho:DOp X (compareOp op) g)(ha:DW X a Fa)(hb:DW X b Fb)(hm:behindInMarks op b=false):DE X (.Compare a [op] [b] pos) (f2 g Fa Fb):=⟨fun _ _ _ _ _ _ _ I h=>wpAny_Compare1 (two ho ha hb I h) hm⟩
def asB(F:FE):FT:=fun δ s=>(F δ s).bind fun p=>match p.1 with | .bool b=>some (b,p.2) | _=>none
theorem zcN{Z:Zt}{A:List Addr}{F:FE}{σ:L2.St}{H:Hp}{Q:Bool->Hp->Prop}(h:tDT X Z A (asB F) σ H Q):tD X Z A F σ H fun x H'=>∃ k,x=.bl k/\Q k H':=by
 obtain⟨B,ow,δ,st,b,st',R,S,e,q⟩:=h
 unfold asB at e
 first | refine bnd2 e fun d s1 e1 e=>?_ | refine mpp2 e fun d s1 e1 e=>?_
 cases d <;> first | (cases e;done) | skip
 cases e
 exact⟨B,ow,δ,st,_,_,R,S,e1,fun v H' a b c=>by cases c;exact⟨_,rfl,q H' a b⟩⟩
theorem z10{op:CmpOp}{g:G2}(ho:DOp X (compareOp op) g)(ha:DW X a Fa)(hb:DW X b Fb)(hm:behindInMarks op b=false):DT X (.Compare a [op] [b] pos) (asB (f2 g Fa Fb)):=⟨fun Z A pins s σ H Q I h=>by
 refine wpAny_isTrue_Compare1 (thn (two ho ha hb I (zcN h)) fun v s1 h1=>thn h1 fun u s2 h2=>thn h2 fun cv s3 zfN=>?_) hm
 obtain⟨x,H1,I1,r1,k,e,q1⟩:=zfN
 subst e
 cases r1
 exact wpAny_truthy_bool ⟨H1,I1,q1⟩⟩
def gI(C:Int->Int->Bool)(f:Int->Int->D):G2:=fun a b=>match a,b with | .int i,.int j=>if C i j then some (f i j) else none | _,_=>none
theorem z1x{f:Value->Value->Sem Value}{C:Int->Int->Prop}{Cb:Int->Int->Bool}{gv:Int->Int->V}{gd:Int->Int->D}(h:OpR X f (rI C gv))(hC:∀ i j,Cb i j=true->C i j)(hg:∀ i j K Z H A,Rep K Z H A (gv i j) (gd i j)):DOp X f (gI Cb gd) :=
 DOp.of h fun Z A H st x y dx dy d Q S hA rx ry e q=>by
  unfold gI at e
  split at e
  ·have ex:=rx.int
   have ey:=ry.int
   subst ex ey
   split at e
   ·rename_i i j hc
    cases e
    exact⟨i,j,rfl,rfl,hC i j hc,q _ H (Ext.refl H) S (hg i j _ _ _ _)⟩
   ·cases e
  ·cases e
theorem z5q{g:Int->Int->V}{f:Value->Value->Sem Value}(h:OpR X f (rI0 g)):OpR X f (rI (fun _ _=>True) g):=fun pins s σ H x y v u Q I rx ry zfO=>(by obtain⟨i,j,e1,e2,_,q⟩:=zfO;exact h pins s σ H x y v u Q I rx ry ⟨i,j,e1,e2,q⟩)
def gAddI:G2:=gI (fun _ _=>true) fun i j=>.int (i + j)
def gSubI:G2:=gI (fun _ _=>true) fun i j=>.int (i - j)
def mulOk(i j:Int):Bool:=decide (Builtin.Int.intBits i + Builtin.Int.intBits j<=134217728)
def divOk(_ j:Int):Bool:=decide (j≠0) && decide (j.natAbs.log2 < 9000)
theorem dadd_int:DOp X (binaryOp .Add) gAddI:=z1x (z5q zay) (fun _ _ _=>trivial) fun i j _ _ _ _=>.int _
theorem z0h:DOp X (binaryOp .Sub) gSubI:=z1x (z5q zcw) (fun _ _ _=>trivial) fun i j _ _ _ _=>.int _
def gLt:G2:=gI (fun _ _=>true) fun i j=>.bool (decide (i < j))
def gGt:G2:=gI (fun _ _=>true) fun i j=>.bool (decide (j < i))
theorem dlt:DOp X (compareOp .Lt) gLt:=z1x (z5q zeE) (fun _ _ _=>trivial) fun i j _ _ _ _=>.bl _
theorem dgt:DOp X (compareOp .Gt) gGt:=z1x (z5q zeF) (fun _ _ _=>trivial) fun i j _ _ _ _=>.bl _
end
end L3
namespace L3
open PySem L2 PySem.Spec PyProof.Rows
section
variable {X:Cx} {a b c e:Expr} {es:List Expr} {Fa Fb Fc F:FE} {Ga Gb:FT} {FL:FA} {pos:Pos}
theorem z70{i j:Int}(h:mulOk i j=true):IntMulOk i j:=mulOk_of_bits (Nat.le_refl _) (Nat.le_refl _) (of_decide_eq_true h)
theorem zbi:OpR X (binaryOp .Mult) (rI (fun i j=>mulOk i j=true) fun i j=>.int (i * j)):=opI fun _ _ _ _ _ _ _ hc q=>mul_int q (z70 hc)
theorem z9W:OpR X (binaryOp .FloorDiv) (rI (fun i j=>divOk i j=true) fun i j=>.int (i.fdiv j)):=opI fun _ _ _ _ _ _ _ hc q=>by
 have hc':(decide _ && decide _)=true:=hc
 rw[Bool.and_eq_true]at hc'
 exact floordiv_int (of_decide_eq_true hc'.1) q (.inl (PyProof.noPylong_of_log2 (of_decide_eq_true hc'.2)))
def gMulI:G2:=gI mulOk fun i j=>.int (i * j)
def gDivI:G2:=gI divOk fun i j=>.int (i.fdiv j)
def gModI:G2:=gI (fun _ j=>decide (j≠0)) fun i j=>.int (i.fmod j)
theorem dmul_int:DOp X (binaryOp .Mult) gMulI:=z1x zbi (fun _ _ h=>h) fun i j _ _ _ _=>.int _
theorem z0G:DOp X (binaryOp .FloorDiv) gDivI:=z1x z9W (fun _ _ h=>h) fun i j _ _ _ _=>.int _
theorem dmod_int:DOp X (binaryOp .Mod) gModI:=z1x z8e (fun _ _ h=>of_decide_eq_true h) fun i j _ _ _ _=>.int _
abbrev G1:=D->Option D
def f1(g:G1)(Fa:FE):FE:=fun δ s=>(Fa δ s).bind fun p=>(g p.1).map fun d=>(d,p.2)
def gNeg:G1:=fun d=>match d with | .int i=>some (.int (-i)) | _=>none
theorem z2N(ha:DW X a Fa):DE X (.UnaryOp .USub a pos) (f1 gNeg Fa):=⟨fun Z A=>PE.imp (zeD zcy (ha Z A)) fun σ H Q zfP=>by
 obtain⟨B,ow,δ,s,d,s',R,S,e,q⟩:=zfP
 unfold f1 at e
 first | refine bnd2 e fun dx s1 e1 e=>?_ | refine mpp2 e fun dx s1 e1 e=>?_
 cases dx <;> first | (cases e;done) | skip
 cases e
 exact⟨B,ow,δ,s,_,_,R,S,e1,fun v H' x1 S1 r=>⟨_,r.int,q _ H' x1 S1 (.int _)⟩⟩⟩
def tAndF(Ga Gb:FT):FT:=fun δ s=>(Ga δ s).bind fun p=>if p.1=true then Gb δ p.2 else some (false,p.2)
def tOrF(Ga Gb:FT):FT:=fun δ s=>(Ga δ s).bind fun p=>if p.1=true then some (true,p.2) else Gb δ p.2
def tNotF(Ga:FT):FT:=fun δ s=>(Ga δ s).map fun p=>(!p.1,p.2)
structure DTW(X:Cx)(e:Expr)(F:FT):Prop where
 go:∀ Z A,PW X e (tDT X Z A F)
instance {X:Cx} {e:Expr} {F:FT}:CoeFun (DTW X e F) (fun _=>∀ Z A,PW X e (tDT X Z A F)):=⟨fun h=>h.go⟩
theorem DTW.t(h:DTW X e Ga):DT X e Ga:=⟨fun Z A=>(h Z A).pt⟩
theorem z8z(ha:DT X a Ga):DTW X (.BoolOp .And [a] pos) Ga:=⟨fun Z A=>zb2 (ha Z A)⟩
theorem z8A(ha:DT X a Ga):DTW X (.BoolOp .Or [a] pos) Ga:=⟨fun Z A=>zco (ha Z A)⟩
theorem PW.imp{t t':TT}(h:PW X e t)(hi:∀ σ H Q,t' σ H Q->t σ H Q):PW X e t':=fun wh pins s σ H Q I q=>h wh pins s σ H Q I (hi σ H Q q)
theorem zaF(ha:DT X a Ga)(hb:DTW X (.BoolOp .And (b::es) pos) Gb):DTW X (.BoolOp .And (a::b::es) pos) (tAndF Ga Gb):=⟨fun Z A=>PW.imp (zcp (ha Z A) (hb Z A)) fun σ H Q zfQ=>by
 obtain⟨B,ow,δ,s,d,s',R,S,e,q⟩:=zfQ
 unfold tAndF at e
 first | refine bnd2 e fun k s1 e1 e=>?_ | refine mpp2 e fun k s1 e1 e=>?_
 refine⟨B,ow,δ,s,k,s1,R,S,e1,fun H1 x1 S1=>?_⟩
 cases k with
 | true=>exact iteT ⟨B,ow,δ,s1,d,s',R.mono x1,S1,e,fun H2 x2 S2=>q H2 (x1.trans x2) S2⟩
 | false=>cases e;exact iteF (q H1 x1 S1)⟩
theorem zbj(ha:DT X a Ga)(hb:DTW X (.BoolOp .Or (b::es) pos) Gb):DTW X (.BoolOp .Or (a::b::es) pos) (tOrF Ga Gb):=⟨fun Z A=>PW.imp (zeC (ha Z A) (hb Z A)) fun σ H Q zfR=>by
 obtain⟨B,ow,δ,s,d,s',R,S,e,q⟩:=zfR
 unfold tOrF at e
 first | refine bnd2 e fun k s1 e1 e=>?_ | refine mpp2 e fun k s1 e1 e=>?_
 refine⟨B,ow,δ,s,k,s1,R,S,e1,fun H1 x1 S1=>?_⟩
 cases k with
 | true=>cases e;exact iteT (q H1 x1 S1)
 | false=>exact iteF ⟨B,ow,δ,s1,d,s',R.mono x1,S1,e,fun H2 x2 S2=>q H2 (x1.trans x2) S2⟩⟩
theorem z71(ha:DT X a Ga):DT X (.UnaryOp .Not a pos) (tNotF Ga):=⟨fun Z A=>PT.imp (zcq (ha Z A)) fun σ H Q zfS=>by
 obtain⟨B,ow,δ,s,d,s',R,S,e,q⟩:=zfS
 unfold tNotF at e
 first | refine bnd1 e fun p e1 e=>?_ | refine mpp1 e fun p e1 e=>?_
 cases e
 exact⟨B,ow,δ,s,_,_,R,S,e1,fun H1 x1 S1=>q H1 x1 S1⟩⟩
def eAnd(Fa Fb:FE):FE:=fun δ s=>(Fa δ s).bind fun p=>match p.1 with | .bool true=>Fb δ p.2 | .bool false=>some (.bool false,p.2) | _=>none
theorem zaG{op}(ha:DE X a Fa):DE X (.BoolOp op [a] pos) Fa:=⟨fun Z A=>zcr (ha Z A)⟩
theorem z8B(ha:DE X a Fa)(hb:DE X (.BoolOp .And (b::es) pos) Fb):DE X (.BoolOp .And (a::b::es) pos) (eAnd Fa Fb):=⟨fun Z A=>PE.imp (zcs (ha Z A) (hb Z A)) fun σ H Q zfT=>by
 obtain⟨B,ow,δ,s,d,s',R,S,e,q⟩:=zfT
 unfold eAnd at e
 first | refine bnd2 e fun dx s1 e1 e=>?_ | refine mpp2 e fun dx s1 e1 e=>?_
 cases dx with
 | bool k =>
  refine⟨B,ow,δ,s,_,s1,R,S,e1,fun v H1 x1 S1 r=>?_⟩
  cases r
  refine⟨k,rfl,?_⟩
  cases k with
  | true=>exact iteT ⟨B,ow,δ,s1,d,s',R.mono x1,S1,e,fun v H2 x2 S2 r=>q v H2 (x1.trans x2) S2 r⟩
  | false=>cases e;exact iteF (q _ H1 x1 S1 (.bl _))
 | _=>cases e⟩
def gNot:G1:=fun d=>match d with | .bool k=>some (.bool (!k)) | _=>none
theorem zcO(ha:DE X a Fa):DE X (.UnaryOp .Not a pos) (f1 gNot Fa):=⟨fun Z A=>PE.imp (zct (ha Z A)) fun σ H Q zfU=>by
 obtain⟨B,ow,δ,s,d,s',R,S,e,q⟩:=zfU
 unfold f1 at e
 first | refine bnd2 e fun dx s1 e1 e=>?_ | refine mpp2 e fun dx s1 e1 e=>?_
 cases dx with
 | bool k=>cases e;exact⟨B,ow,δ,s,_,_,R,S,e1,fun v H' x1 S1 r=>by cases r;exact⟨_,rfl,q _ H' x1 S1 (.bl _)⟩⟩
 | _=>cases e⟩
def aNil:FA:=fun _ s=>some ([],s)
def aCons(Fa:FE)(FL:FA):FA:=fun δ s=>(Fa δ s).bind fun p=>(FL δ p.2).map fun q=>(p.1::q.1,q.2)
theorem z8:DA X [] aNil:=⟨fun Z A=>PA.imp z0o fun σ H Q zfV=>by
 obtain⟨B,ow,δ,s,d,s',R,S,e,q⟩:=zfV
 cases e
 exact q [] H (Ext.refl H) S .nil⟩
theorem z3(ha:DE X e Fa)(hr:DA X es FL)(hs:starEach (e::es) X.env=(false,eval e X.env)::starEach es X.env:=by rfl):DA X (e::es) (aCons Fa FL):=⟨fun Z A=>PA.imp (zK (ha Z A) (hr Z A) hs) fun σ H Q zfW=>by
 obtain⟨B,ow,δ,s,d,s',R,S,e,q⟩:=zfW
 unfold aCons at e
 first | refine bnd2 e fun dx s1 e1 e=>?_ | refine mpp2 e fun dx s1 e1 e=>?_
 replace e:((FL δ s1).map fun q=>(dx::q.1,q.2))=some (d,s'):=e
 first | refine bnd1 e fun p2 e2 e=>?_ | refine mpp1 e fun p2 e2 e=>?_
 cases e
 exact⟨B,ow,δ,s,dx,s1,R,S,e1,fun v H1 x1 S1 r=>⟨B,ow,δ,s1,p2.1,p2.2,R.mono x1,S1,e2,fun vs H2 x2 S2 rs=>q _ H2 (x1.trans x2) S2 (.cons (r.ext x2) rs)⟩⟩⟩
def small(ds:List D):Bool:=decide (ds.length<=sizeLine)
def eTup(FL:FA):FE:=fun δ s=>(FL δ s).bind fun p=>if small p.1=true then some (.tuple p.1,p.2) else none
def eLst(FL:FA):FE:=fun δ s=>(FL δ s).bind fun p=>if small p.1=true then some (.list p.1,p.2) else none
theorem zR{x1}(h:DA X es FL):DE X (.Tuple es x1 pos) (eTup FL):=⟨fun Z A=>PE.imp (zcC (h Z A)) fun σ H Q zfX=>by
 obtain⟨B,ow,δ,s,d,s',R,S,e,q⟩:=zfX
 unfold eTup at e
 first | refine bnd1 e fun p e1 e=>?_ | refine mpp1 e fun p e1 e=>?_
 replace e:(if small p.1=true then some (PyData.tuple p.1,p.2) else none)=some (d,s'):=e
 split at e
 ·rename_i hs
  cases e
  refine⟨B,ow,δ,s,_,_,R,S,e1,fun vs H1 x1 S1 rs=>⟨?_,fun p hp=>q _ _ (x1.trans (Ext.upd hp)) (S1.upd hp) (.tup zk (zO (R.mono x1).all hp) (S1.notZ hp) (rs.ext (Ext.upd hp)))⟩⟩
  rw[rs.length];exact of_decide_eq_true hs
 ·cases e⟩
theorem z1b(h:DA X es FL):DE X (.List es pos) (eLst FL):=⟨fun Z A=>PE.imp (zaz (h Z A)) fun σ H Q zfY=>by
 obtain⟨B,ow,δ,s,d,s',R,S,e,q⟩:=zfY
 unfold eLst at e
 first | refine bnd1 e fun p e1 e=>?_ | refine mpp1 e fun p e1 e=>?_
 replace e:(if small p.1=true then some (PyData.list p.1,p.2) else none)=some (d,s'):=e
 split at e
 ·rename_i hs
  cases e
  refine⟨B,ow,δ,s,_,_,R,S,e1,fun vs H1 x1 S1 rs=>⟨?_,fun p hp=>q _ _ (x1.trans (Ext.upd hp)) (S1.upd hp) (.lst zk (zO (R.mono x1).all hp) (S1.notZ hp) (rs.ext (Ext.upd hp)))⟩⟩
  rw[rs.length];exact of_decide_eq_true hs
 ·cases e⟩
def gIx:G2:=fun a b=>match a,b with | .list xs,.int i=>atI xs i | .tuple xs,.int i=>atI xs i | _,_=>none
theorem Reps.atI{K:PySem.W.Frag}{Z:Zt}{H:Hp}{A:List Addr}{vs:List V}{ds:List D}{i:Int}{d:D}(r:Reps K Z H A vs ds)(e:L2.atI ds i=some d):∃ v,L2.atI vs i=some v/\Rep K Z H A v d:=by
 unfold L2.atI at e ⊢
 rw[r.length]
 cases e1:ixN ds.length i with
 | none=>rw[e1]at e;cases e
 | some j =>
  rw[e1]at e
  obtain⟨v,h1,h2⟩:=r.get (i:=j) (d:=d) e
  exact⟨v,h1,h2⟩
theorem zM(ha:DW X a Fa)(hb:DW X b Fb)(hs:PlainIx b):DE X (.Subscript a b pos) (f2 gIx Fa Fb):=⟨fun Z A=>PE.imp (zcG (ix_list.or ix_tup) (ha Z A) (hb Z A) hs) fun σ H Q zfZ=>by
 obtain⟨B,ow,δ,s,d,s',R,S,e,q⟩:=zfZ
 unfold f2 at e
 first | refine bnd2 e fun dx s1 e1 e=>?_ | refine mpp2 e fun dx s1 e1 e=>?_
 replace e:((Fb δ s1).bind fun q=>(gIx dx q.1).map fun d=>(d,q.2))=some (d,s'):=e
 first | refine bnd2 e fun dy s2 e2 e=>?_ | refine mpp2 e fun dy s2 e2 e=>?_
 replace e:((gIx dx dy).map fun d=>(d,s2))=some (d,s'):=e
 cases e3:gIx dx dy with
 | none=>rw[e3]at e;cases e
 | some d' =>
  rw[e3]at e
  cases e
  refine⟨B,ow,δ,s,dx,s1,R,S,e1,fun v H1 x1 S1 r1=>⟨B,ow,δ,s1,dy,s',R.mono x1,S1,e2,fun u H2 x2 S2 r2=>?_⟩⟩
  unfold gIx at e3
  split at e3
  ·rename_i xs i
   have eu:=r2.int
   obtain⟨p,vs,ev,sq,_,rs⟩:=(r1.ext x2).list
   obtain⟨w',h1,h2⟩:=Reps.atI rs e3
   exact .inl ⟨p,vs,i,w',ev,eu,sq,h1,q w' H2 (x1.trans x2) S2 h2⟩
  ·rename_i xs i
   have eu:=r2.int
   obtain⟨p,vs,ev,sq,rs⟩:=(r1.ext x2).tuple
   obtain⟨w',h1,h2⟩:=Reps.atI rs e3
   exact .inr ⟨p,vs,i,w',ev,eu,sq,h1,q w' H2 (x1.trans x2) S2 h2⟩
  ·cases e3⟩
theorem Reps.reads{K:PySem.W.Frag}{pins:List (Addr × Obj)}{σ:L2.St}{H:Hp}{s:Shared}(hK:X.K=K)(I:Inv X pins σ H s){Z:Zt}{A:List Addr}{vs:List V}{ds:List D}(x:Reps K Z H A vs ds):PyData.canLayAll0 ds=true->∀ us,Vals vs us->∃ as,ReadsAll s.heap us ds as :=
 Reps.rec (motive_1:=fun v d _=>d.canLay0=true->∀ u,RelV v u->∃ as,Reads s.heap u d as) (motive_2:=fun vs ds _=>PyData.canLayAll0 ds=true->∀ us,Vals vs us->∃ as,ReadsAll s.heap us ds as)
  (fun _ _ r=>by cases r;exact⟨_,.none⟩) (fun b _ _ r=>by cases r;exact⟨_,.bool b⟩) (fun i _ _ r=>by obtain⟨t,rfl⟩:=r;exact⟨_,.int i t⟩) (fun x _ _ r=>by obtain⟨t,rfl⟩:=r;exact⟨_,.str x t⟩)
  (fun h n z _ ih c u r=>by
   cases r
   obtain⟨its,rv,⟨o,e1,e2,m,e3⟩,_⟩:=I.tuple (.of h)
   obtain⟨as,q⟩:=ih c _ rv
   exact⟨as,.tuple e1 e2 e3 q⟩)
  (fun h n z _ ih c u r=>by
   cases r
   obtain⟨its,rv,p,_⟩:=I.list (.of h)
   obtain⟨o,e1,e2,m,e3⟩:=p.isList
   obtain⟨as,q⟩:=ih c _ rv
   exact⟨_,.list e1 e2 e3 q⟩)
  (fun h _ ih c u r=>by
   cases r
   obtain⟨its,rv,⟨o,e1,e2,m,e3⟩,_⟩:=I.tuple (.inr (hK.symm ▸ h))
   obtain⟨as,q⟩:=ih c _ rv
   exact⟨as,.tuple e1 e2 e3 q⟩)
  (fun _ c _ _=>absurd c Bool.false_ne_true) (fun _ _ _ _ _ _ c _ _=>absurd c Bool.false_ne_true)
  (fun _ _ r=>by cases r;exact⟨_,.nil⟩)
  (fun _ _ h1 h2 c us r=>by
   cases r with
   | cons q w =>
    obtain⟨as,g1⟩:=h1 ((Bool.and_eq_true _ _).mp c).1 _ q
    obtain⟨bs,g2⟩:=h2 ((Bool.and_eq_true _ _).mp c).2 _ w
    exact⟨_,.cons g1 g2⟩) x
theorem Rep.reads{K:PySem.W.Frag}{pins:List (Addr × Obj)}{σ:L2.St}{H:Hp}{s:Shared}(hK:X.K=K)(I:Inv X pins σ H s){Z:Zt}{A:List Addr}{v:V}{d:D}{u:Value}(x:Rep K Z H A v d)(c:d.canLay0=true)(r:RelV v u):∃ as,Reads s.heap u d as:=by
 obtain⟨as,h⟩:=Reps.reads hK I (.cons x .nil) (by rw[PyData.canLayAll0,c];rfl) [u] (.cons r .nil)
 cases h with
 | cons h _=>exact⟨_,h⟩
theorem RepW.reads{pins:List (Addr × Obj)}{σ:L2.St}{H:Hp}{s:Shared}(I:Inv X pins σ H s){Z:Zt}{A:List Addr}{v:V}{d:D}{u:Value}(r:RepW X.K Z H A v d)(c:d.canLay0=true)(ru:RelV v u):∃ as,Reads s.heap u d as:=by
 rcases r with r | ⟨p,vs,ds,rfl,rfl,e3,e4,e5⟩
 ·exact r.reads rfl I c ru
 ·cases ru
  obtain⟨its,rv,pl,_⟩:=I.list (SqL.of e3)
  obtain⟨o,e1,e2,m,e3⟩:=pl.isList
  obtain⟨as,q⟩:=Reps.reads rfl I e5 (by simpa [PyData.canLay0] using c) _ rv
  exact⟨_,.list e1 e2 e3 (by simpa using q)⟩
def gEq:G2:=fun a b=>if (SeqAt.shaped a && SeqAt.shaped b)=true then some (.bool (PyData.eqv a b)) else none
def gNe:G2:=fun a b=>if (SeqAt.shaped a && SeqAt.shaped b)=true then some (.bool (!PyData.eqv a b)) else none
theorem deq(hu:X.A.units + 64 < cLine):DOp X (compareOp .Eq) gEq:=fun Z A pins s σ H st x y v u dx dy d Q I S hA rx ry vx vy e q=>by
 unfold gEq at e
 split at e
 ·rename_i hc
  cases e
  rw[Bool.and_eq_true]at hc
  obtain⟨as,h1⟩:=rx.reads I (SeqAt.canLay_of_shaped hc.1) vx
  obtain⟨bs,h2⟩:=ry.reads I (SeqAt.canLay_of_shaped hc.2) vy
  exact eq_dataH h1 h2 hc.1 hc.2 hu ⟨.bl _,H,I,rfl,q _ H (Ext.refl H) S (.bl _)⟩
 ·cases e
theorem dne(hu:X.A.units + 64 < cLine):DOp X (compareOp .NotEq) gNe:=fun Z A pins s σ H st x y v u dx dy d Q I S hA rx ry vx vy e q=>by
 unfold gNe at e
 split at e
 ·rename_i hc
  cases e
  rw[Bool.and_eq_true]at hc
  obtain⟨as,h1⟩:=rx.reads I (SeqAt.canLay_of_shaped hc.1) vx
  obtain⟨bs,h2⟩:=ry.reads I (SeqAt.canLay_of_shaped hc.2) vy
  exact ne_dataH h1 h2 hc.1 hc.2 hu ⟨.bl _,H,I,rfl,q _ H (Ext.refl H) S (.bl _)⟩
 ·cases e
@[simp] def isNon:D->Option Bool
 | .none=>some true
 | .bool _ | .int _ | .str _ | .list _ | .tuple _=>some false
 | _=>none
def gIs:G2:=fun a b=>match b with | .none=>(isNon a).map .bool | .bool j=>(match a with | .bool i=>some (.bool (i == j)) | _=>none) | _=>none
theorem RepW.isNon{K:PySem.W.Frag}{Z:Zt}{H:Hp}{A:List Addr}{v:V}{d:D}{b:Bool}(r:RepW K Z H A v d)(e:isNon d=some b):decide (v=.non)=b:=by
 rcases r with r | ⟨p,vs,ds,e1,e2,e3,e4,e5⟩
 ·cases r <;> cases e <;> rfl
 ·subst e1 e2;cases e;rfl
theorem op_is_bl:OpR X (compareOp .Is) (fun x y H Q=>∃ i j,x=.bl i/\y=.bl j/\Q (.bl (i == j)) H):=fun pins s σ H x y v u Q I rx ry zg0=>by
 obtain⟨i,j,e1,e2,q⟩:=zg0
 subst e1 e2;cases rx;cases ry
 exact is_bool ⟨.bl _,H,I,rfl,q⟩
theorem dis:DOp X (compareOp .Is) gIs:=DOp.of (op_is_bl.or zcA) fun Z A H st x y dx dy d Q S hA rx ry e q=>by
 unfold gIs at e
 split at e
 ·refine mpp1 e fun b e1 e=>?_
  subst e
  exact .inr ⟨ry.none,by rw[RepW.isNon rx e1];exact q _ H (Ext.refl H) S (.bl _)⟩
 ·split at e
  ·cases e
   exact .inl ⟨_,_,rx.bool,ry.bool,q _ H (Ext.refl H) S (.bl _)⟩
  ·cases e
 ·cases e
end
end L3
namespace L3
open PySem L2 PySem.Spec PyProof.Rows
theorem lenS{α:Type}{us:List α}{n:Nat}(h:us.length=n + 1):∃ a t,us=a::t/\t.length=n:=by
 cases us with
 | nil=>cases h
 | cons a t=>exact⟨a,t,rfl,Nat.succ.inj h⟩
theorem len1{α:Type}{us:List α}(h:us.length=1):∃ a0,us=[a0]:=by
 obtain⟨a,t,rfl,h2⟩:=lenS h
 cases List.eq_nil_of_length_eq_zero h2
 exact⟨a,rfl⟩
theorem len2{α:Type}{us:List α}(h:us.length=2):∃ a0 a1,us=[a0,a1]:=by
 obtain⟨a0,t,rfl,h2⟩:=lenS h
 obtain⟨a1,rfl⟩:=len1 h2
 exact⟨a0,a1,rfl⟩
inductive rD1(K:PySem.W.Frag)(g:G1)(xs:List V)(H:Hp)(Q:VK):Prop
 | mk (Z:Zt) (A:List Addr) (st:Sx) (x:V) (dx:D) (d:D) (h0:xs=[x]) (h1:StateAt Z H st) (h2:(∀ q∈A,∃ o,H q=some o)) (h3:RepW K Z H A x dx) (h4:g dx=some d) (h5:∀ v' H',Ext Z H H'->StateAt Z H' st->Rep K Z H' A v' d->Q v' H')
inductive rD2(K:PySem.W.Frag)(g:G2)(xs:List V)(H:Hp)(Q:VK):Prop
 | mk (Z:Zt) (A:List Addr) (st:Sx) (x:V) (y:V) (dx:D) (dy:D) (d:D) (h0:xs=[x,y]) (h1:StateAt Z H st) (h2:(∀ q∈A,∃ o,H q=some o)) (h3:RepW K Z H A x dx) (h4:RepW K Z H A y dy) (h5:g dx dy=some d) (h6:∀ v' H',Ext Z H H'->StateAt Z H' st->Rep K Z H' A v' d->Q v' H')
section
variable {X:Cx} {e e2:Expr} {es:List Expr} {Fa Fb:FE} {FL:FA} {x:Str} {id T:String} {p pos:Pos} {g:G1} {g2:G2}
theorem CallR.imp{f:Value}{r r':List V->Hp->VK->Prop}(h:CallR X f r)(hi:∀ xs H Q,r' xs H Q->r xs H Q):CallR X f r':=fun pins s σ H xs us Q I rv q=>h pins s σ H xs us Q I rv (hi xs H Q q)
theorem read1{Z:Zt}{A:List Addr}{σ:L2.St}{H:Hp}{Q:VK}(h:tD X Z A (f1 g Fa) σ H Q):tDW X Z A Fa σ H fun x H1=>tNil σ H1 fun xs H2=>rD1 X.K g (x::xs) H2 Q:=by
 obtain⟨B,ow,δ,s,d,s',R,S,e,q⟩:=h
 unfold f1 at e
 first | refine bnd2 e fun dx s1 e1 e=>?_ | refine mpp2 e fun dx s1 e1 e=>?_
 replace e:((g dx).map fun d=>(d,s1))=some (d,s'):=e
 cases e3:g dx with
 | none=>rw[e3]at e;cases e
 | some d' =>
  rw[e3]at e
  cases e
  exact⟨B,ow,δ,s,dx,s',R,S,e1,fun v H1 x1 S1 r1=>⟨Z,_,s',v,dx,d,rfl,S1,(R.mono x1).all,r1,e3,fun v' H' a b c=>q v' H' (x1.trans a) b c⟩⟩
theorem read2{Z:Zt}{A:List Addr}{σ:L2.St}{H:Hp}{Q:VK}(h:tD X Z A (f2 g2 Fa Fb) σ H Q):tDW X Z A Fa σ H fun x H1=>tDW X Z A Fb σ H1 fun y H2=>tNil σ H2 fun xs H3=>rD2 X.K g2 (x::y::xs) H3 Q:=by
 obtain⟨B,ow,δ,s,d,s',R,S,e,q⟩:=h
 unfold f2 at e
 first | refine bnd2 e fun dx s1 e1 e=>?_ | refine mpp2 e fun dx s1 e1 e=>?_
 replace e:((Fb δ s1).bind fun q=>(g2 dx q.1).map fun d=>(d,q.2))=some (d,s'):=e
 first | refine bnd2 e fun dy s2 e2 e=>?_ | refine mpp2 e fun dy s2 e2 e=>?_
 replace e:((g2 dx dy).map fun d=>(d,s2))=some (d,s'):=e
 cases e3:g2 dx dy with
 | none=>rw[e3]at e;cases e
 | some d' =>
  rw[e3]at e
  cases e
  exact⟨B,ow,δ,s,dx,s1,R,S,e1,fun v H1 x1 S1 r1=>⟨B,ow,δ,s1,dy,s',R.mono x1,S1,e2,fun u H2 x2 S2 r2=>⟨Z,_,s',v,u,dx,dy,d,rfl,S2,((R.mono x1).mono x2).all,r1.ext x2,r2,e3,fun v' H' a b c=>q v' H' ((x1.trans x2).trans a) b c⟩⟩⟩
theorem z11(hc:CallR X (.builtin id) (rD1 X.K g))(hv:bootBuiltins x=some (.builtin id))(hm:X.mg x=none)(ha:DW X e Fa)(hg:Gl X x:=by rfl)(hn:x≠"__name__":=by decide)(hdb:(x == ("__debug__":Str))=false:=by decide)
  (hs:starEach [e] X.env=(false,eval e X.env)::starEach [] X.env:=by rfl):DE X (.Call (.Name x p) [e] [] pos) (f1 g Fa):=⟨fun Z A=>PE.imp (z2G hc hg hm hv (zK (ha Z A) z0o hs) hn hdb hs rfl) fun σ H Q q=>read1 q⟩
theorem zbk(hc:CallR X (.builtin id) (rD2 X.K g2))(hv:bootBuiltins x=some (.builtin id))(hm:X.mg x=none)(ha:DW X e Fa)(hb:DW X e2 Fb)(hg:Gl X x:=by rfl)(hn:x≠"__name__":=by decide)(hdb:(x == ("__debug__":Str))=false:=by decide)
  (hs:starEach [e,e2] X.env=(false,eval e X.env)::starEach [e2] X.env:=by rfl) (hs2:starEach [e2] X.env=(false,eval e2 X.env)::starEach [] X.env:=by rfl) (hpl:(backTo pos (starEach [e2] X.env)).any (·.1)=false:=by rfl):DE X (.Call (.Name x p) [e,e2] [] pos) (f2 g2 Fa Fb):=⟨fun Z A=>PE.imp (z2G hc hg hm hv (zK (ha Z A) (zK (hb Z A) z0o hs2) hs) hn hdb hs hpl) fun σ H Q q=>read2 q⟩
theorem z3q(hc:CallR X (.type T) (rD1 X.K g))(hv:bootBuiltins x=some (.type T))(hm:X.mg x=none)(ha:DW X e Fa)(hg:Gl X x:=by rfl)(hn:x≠"__name__":=by decide)(hdb:(x == ("__debug__":Str))=false:=by decide)
  (hs:starEach [e] X.env=(false,eval e X.env)::starEach [] X.env:=by rfl):DE X (.Call (.Name x p) [e] [] pos) (f1 g Fa):=⟨fun Z A=>PE.imp (z3x hc hg hm hv (zK (ha Z A) z0o hs) hn hdb hs rfl) fun σ H Q q=>read1 q⟩
def gLen:G1:=fun d=>match d with | .list xs=>some (.int xs.length) | .tuple xs=>some (.int xs.length) | _=>none
theorem z0x:CallR X (.builtin "len") (rD1 X.K gLen):=CallR.imp z3f fun xs H Q zg1=>by
 obtain⟨Z,A,st,x,dx,d,e0,S,hA,rx,e,q⟩:=zg1
 subst e0
 cases dx with
 | list ds=>cases e;obtain⟨p,vs,ev,sq,_,rs⟩:=rx.list;exact⟨p,vs,by rw[ev],.inl sq,by rw[rs.length];exact q _ H (Ext.refl H) S (.int _)⟩
 | tuple ds=>cases e;obtain⟨p,vs,ev,sq,rs⟩:=rx.tuple;exact⟨p,vs,by rw[ev],.inr sq,by rw[rs.length];exact q _ H (Ext.refl H) S (.int _)⟩
 | _=>cases e
def gAbs:G1:=fun d=>match d with | .int i=>some (.int (if i < 0 then -i else i)) | _=>none
theorem z72:CallR X (.builtin "abs") (rD1 X.K gAbs):=CallR.imp z9N fun xs H Q zg2=>by
 obtain⟨Z,A,st,x,dx,d,e0,S,hA,rx,e,q⟩:=zg2
 subst e0
 cases dx with
 | int i=>cases e;exact⟨i,by rw[rx.int],q _ H (Ext.refl H) S (.int _)⟩
 | _=>cases e
def gInt:G1:=fun d=>match d with | .int i=>some (.int i) | .bool k=>some (.int (if k then 1 else 0)) | _=>none
theorem zaH:CallR X (.type "int") (rD1 X.K gInt):=CallR.imp z8g fun xs H Q zg3=>by
 obtain⟨Z,A,st,x,dx,d,e0,S,hA,rx,e,q⟩:=zg3
 subst e0
 cases dx with
 | int i=>cases e;exact .inl ⟨i,by rw[rx.int],q _ H (Ext.refl H) S (.int _)⟩
 | bool i=>cases e;exact .inr ⟨i,by rw[rx.bool],q _ H (Ext.refl H) S (.int _)⟩
 | _=>cases e
def gMax:G2:=gI (fun _ _=>true) fun i j=>.int (if j > i then j else i)
theorem z8C(hc:X.calm=true):CallR X (.builtin "max") (rD2 X.K gMax):=CallR.imp (z8f hc) fun xs H Q zg4=>by
 obtain⟨Z,A,st,x,y,dx,dy,d,e0,S,hA,rx,ry,e,q⟩:=zg4
 subst e0
 unfold gMax gI at e
 split at e
 ·cases e;exact⟨_,_,by rw[rx.int,ry.int],q _ H (Ext.refl H) S (.int _)⟩
 ·cases e
def gTuple:G1:=fun d=>match d with | .list xs=>some (.tuple xs) | .tuple xs=>some (.tuple xs) | _=>none
theorem z1y:CallR X (.type "tuple") (rD1 X.K gTuple):=CallR.imp z4q fun xs H Q zg5=>by
 obtain⟨Z,A,st,x,dx,d,e0,S,hA,rx,e,q⟩:=zg5
 subst e0
 cases dx with
 | list ds =>
  cases e;obtain⟨p,vs,ev,sq,_,rs⟩:=rx.list
  exact⟨p,vs,by rw[ev],.inl ⟨sq,fun l hl=>q _ _ (Ext.upd hl) (S.upd hl) (.tup zk (zO hA hl) (S.notZ hl) (rs.ext (Ext.upd hl)))⟩⟩
 | tuple ds =>
  cases e
  have rx':=rx
  obtain⟨p,vs,ev,sq,rs⟩:=rx.tuple
  subst ev
  refine⟨p,vs,rfl,.inr ⟨sq,q _ H (Ext.refl H) S ?_⟩⟩
  rcases rx' with r | ⟨_,_,_,_,e2,_⟩
  ·exact r
  ·cases e2
 | _=>cases e
def gList:G1:=fun d=>match d with | .list xs=>some (.list xs) | .tuple xs=>some (.list xs) | _=>none
theorem z6h:CallR X (.type "list") (rD1 X.K gList):=CallR.imp z1O fun xs H Q zg6=>by
 obtain⟨Z,A,st,x,dx,d,e0,S,hA,rx,e,q⟩:=zg6
 subst e0
 cases dx with
 | list ds =>
  cases e;obtain⟨p,vs,ev,sq,_,rs⟩:=rx.list
  exact⟨p,vs,by rw[ev],.inl sq,fun l hl=>q _ _ (Ext.upd hl) (S.upd hl) (.lst zk (zO hA hl) (S.notZ hl) (rs.ext (Ext.upd hl)))⟩
 | tuple ds =>
  cases e;obtain⟨p,vs,ev,sq,rs⟩:=rx.tuple
  exact⟨p,vs,by rw[ev],.inr sq,fun l hl=>q _ _ (Ext.upd hl) (S.upd hl) (.lst zk (zO hA hl) (S.notZ hl) (rs.ext (Ext.upd hl)))⟩
 | _=>cases e
def bools:List D->Option (List Bool)
 | []=>some []
 | .bool k::r=>(bools r).map (k::·)
 | _=>none
def gAll:G1:=fun d=>match d with | .list xs=>(bools xs).map fun ks=>.bool (ks.all (fun b=>b)) | _=>none
theorem z5r:∀ {ds:List D} {ks:List Bool},bools ds=some ks->ds=ks.map PyData.bool
 | [],ks,e=>by simp[bools]at e;subst e;rfl
 | d::r,ks,e=>by
  cases d with
  | bool k =>
   simp only[bools,Option.map_eq_some_iff]at e
   obtain⟨ks',h1,rfl⟩:=e
   rw[z5r h1];rfl
  | _=>cases e
theorem z8D(ks:List Bool):(List.range ks.length).all (fun i=>ks.getD i false)=ks.all (fun b=>b):=by
 induction ks with
 | nil=>rfl
 | cons k r ih =>
  rw[List.length_cons,List.range_succ_eq_map,List.all_cons,List.all_map,List.all_cons,<- ih]
  congr 1
theorem zcP(hc:X.calm=true):CallR X (.builtin "all") (rD1 X.K gAll):=fun pins s σ H xs us Q I rv zg7=>by
 obtain⟨Z,A,st,x,dx,d,e0,S,hA,rx,e,q⟩:=zg7
 subst e0
 obtain⟨u,rfl,ru⟩:=vals1 rv
 cases dx with
 | list ds =>
  replace e:((bools ds).map fun ks=>PyData.bool (ks.all (fun b=>b)))=some d:=e
  first | refine bnd1 e fun ks e1 e=>?_ | refine mpp1 e fun ks e1 e=>?_
  cases e
  have eds:=z5r e1
  subst eds
  obtain⟨p,vs,ev,sq,_,rs⟩:=rx.list
  subst ev
  cases (show u=Value.ref p from ru)
  obtain⟨its,r2,pl,_⟩:=I.list sq
  have hl:=pl.isList
  have lens:its.length=ks.length:=by rw[<- r2.length,rs.length,List.length_map]
  refine call_all_walk (wpAny_pyIter_list hl ?_)
  have lt:LT.lt (α:=Nat) p s.heap.objs.size:=by obtain⟨_,e,_⟩:=hl;exact Heap.lt_size e
  refine⟨_,_,_,_,_,_,fun i=>ks.getD i false,rfl,Walks.list (A:=X.A.in1) (show X.A.in1.handled=none from I.ok.hd hc) s.heap.objs.size p (Nat.ne_of_lt lt) its.toArray,⟨⟨_,Heap.get?_push_size _ rfl,rfl,rfl⟩,hl.push _⟩,?_,fun h' tk kp=>?_⟩
  ·intro i v s' Q' E' hP hQ
   have hi:its[i]?=some v:=by simpa using hP
   obtain⟨vv,h1,h2⟩:∃ vv,vs[i]?=some vv/\RelV vv v:=by
    cases e3:vs[i]? with
    | none=>rw[r2.none_of e3]at hi;cases hi
    | some vv=>obtain⟨u',h3,h4⟩:=r2.get e3;rw[h3]at hi;cases hi;exact⟨vv,rfl,h4⟩
   obtain⟨dd,h3,h4⟩:=rs.at h1
   rw[List.getElem?_map]at h3
   cases e4:ks[i]? with
   | none=>rw[e4]at h3;cases h3
   | some k =>
    rw[e4]at h3
    cases h3
    cases h4
    cases h2
    refine wpAny_truthy_bool ?_
    have eg:ks.getD i false=k:=by simp[e4]
    have hQ2:Q' (ks.getD i false) s':=hQ
    rw[eg]at hQ2
    exact hQ2
  ·have e5:(List.range its.toArray.size).all (fun i=>ks.getD i false)=ks.all (fun b=>b):=by rw[List.size_toArray,lens];exact z8D ks
   rw[e5]
   refine⟨.bl _,H,?_,rfl,q _ H (Ext.refl H) S (.bl _)⟩
   refine I.kept (h':=h') (t':=tk) fun b o eb=>kp b o ?_ (Heap.get?_push_of_some _ eb)
   intro z
   have z':b=s.heap.objs.size:=by simpa using z
   rw[z']at eb
   exact Nat.lt_irrefl _ (Heap.lt_size eb)
 | _=>cases e
def tyN:D->Option String
 | .none=>some "NoneType" | .bool _=>some "bool" | .int _=>some "int" | .str _=>some "str" | .list _=>some "list" | .tuple _=>some "tuple" | .dict _=>none
def gInst(T:String):G1:=fun d=>(tyN d).map fun t=>.bool (t == T || (t == "bool" && T == "int"))
def isTy(T:String):Bool:=T == "int" || T == "bool" || T == "str" || T == "list" || T == "tuple"
theorem z49(K:PySem.W.Frag){t T:String}(ht:t="NoneType"\/t="bool"\/t="int"\/t="str"\/t="list"\/t="tuple")(hT:isTy T=true):PySem.W.kitOne K (.type t) (.type T)=some (t == T || (t == "bool" && T == "int")):=by
 have hT':T="int"\/T="bool"\/T="str"\/T="list"\/T="tuple":=by simpa [isTy,or_assoc] using hT
 rcases hT' with rfl | rfl | rfl | rfl | rfl <;> rcases ht with rfl | rfl | rfl | rfl | rfl | rfl <;> first | rfl | decide +kernel
theorem TypeIs.isinst{pins:List (Addr × Obj)}{σ:L2.St}{H:Hp}{s:Shared}{Z:Zt}{A:List Addr}{v:V}{d:D}{u:Value}{t:String}{Q:Value->Shared->Prop}(I:Inv X pins σ H s)(r:RepW X.K Z H A v d)(ru:RelV v u)(et:tyN d=some t)(hT:isTy T=true)
  (h:∀ tk,Q (.bool (t == T || (t == "bool" && T == "int"))) {s with toks:=tk}):wpAny (model X.prog X.w) X.A (call (.builtin "isinstance") [u,.type T]) Q X.xe s:=by
 cases d with
 | none=>cases et;cases r.none;cases ru;exact PySem.W.kia_one PySem.W.kitx_none I.kIn True.intro (z49 X.K (by simp) hT) (fun z=>nomatch z) h
 | bool b=>cases et;cases r.bool;cases ru;exact PySem.W.kia_one PySem.W.kitx_bool I.kIn True.intro (z49 X.K (by simp) hT) (fun z=>nomatch z) h
 | int b=>cases et;cases r.int;obtain⟨t,rfl⟩:=ru;exact PySem.W.kia_one PySem.W.kitx_int I.kIn True.intro (z49 X.K (by simp) hT) (fun z=>nomatch z) h
 | str b=>cases et;cases r.str;obtain⟨t,rfl⟩:=ru;exact PySem.W.kia_one PySem.W.kitx_str I.kIn True.intro (z49 X.K (by simp) hT) (fun z=>nomatch z) h
 | list ds =>
  cases et
  obtain⟨p,vs,rfl,sq,_,rs⟩:=r.list
  cases ru
  obtain⟨its,r2,pl,_⟩:=I.list sq
  obtain⟨o,e1,e2,_⟩:=pl.isList
  exact PySem.W.kia_one PySem.W.kitx_list I.kIn ⟨o,e1,e2⟩ (z49 X.K (by simp) hT) (fun z=>nomatch z) h
 | tuple ds =>
  cases et
  obtain⟨p,vs,rfl,sq,rs⟩:=r.tuple
  cases ru
  obtain⟨its,r2,⟨o,e1,e2,_⟩,_⟩:=I.tuple sq
  exact PySem.W.kia_one PySem.W.kitx_tuple I.kIn ⟨o,e1,e2⟩ (z49 X.K (by simp) hT) (fun z=>nomatch z) h
 | dict _=>cases et
theorem zbl(hT:isTy T=true):CallR X (.builtin "isinstance") (fun xs H Q=>∃ y,xs=[y,.ty T]/\rD1 X.K (gInst T) [y] H Q):=fun pins s σ H xs us Q I rv zdl=>by
 obtain⟨y,e0,Z,A,st,x,dx,d,e1,S,hA,rx,e,q⟩:=zdl
 subst e0
 cases e1
 obtain⟨u,u2,rfl,ru,ru2⟩:=vals2 rv
 cases ru2
 unfold gInst at e
 first | refine bnd1 e fun t et e=>?_ | refine mpp1 e fun t et e=>?_
 cases e
 exact TypeIs.isinst I rx ru et hT fun tk=>⟨.bl _,H,I.tok tk,rfl,q _ H (Ext.refl H) S (.bl _)⟩
theorem z1l{q:Pos}(hT:isTy T=true)(hv:bootBuiltins x=some (.type T))(hm:X.mg "isinstance"=none)(hm2:X.mg x=none)(ha:DW X e Fa)(hg:Gl X "isinstance":=by rfl)(hg2:Gl X x:=by rfl)
  (hn:x≠"__name__":=by decide) (hdb:(x == ("__debug__":Str))=false:=by decide) (hs:starEach [e,.Name x q] X.env=(false,eval e X.env)::starEach [.Name x q] X.env:=by rfl):DE X (.Call (.Name "isinstance" p) [e,.Name x q] [] pos) (f1 (gInst T) Fa):=⟨fun Z A=>PE.imp (z2G (zbl hT) hg hm rfl (zK (ha Z A) (zK (zb1 (v:=.ty T) hg2 hm2 hv rfl hn hdb) z0o rfl) hs) (by decide) (by decide) hs rfl) fun σ H Q h=>by
  obtain⟨B,ow,δ,s,dx,s1,R,S,e1,q⟩:=read1 h
  exact⟨B,ow,δ,s,dx,s1,R,S,e1,fun v H1 x1 S1 r1=>⟨v,rfl,q v H1 x1 S1 r1⟩⟩⟩
abbrev GF:=List D->Sx->Option (D × Sx)
inductive spD(K:PySem.W.Frag)(g:GF)(vs:List V)(H:Hp)(Q:VK)(_E:XK):Prop
 | mk (Z:Zt) (A:List Addr) (ds:List D) (s:Sx) (d:D) (s':Sx) (h0:Reps K Z H A vs ds) (h1:(∀ q∈A,(∃ o,H q=some o)/\NotZ Z q)) (h2:StateAt Z H s) (h3:g ds s=some (d,s')) (h4:∀ v H',Ext Z H H'->StateAt Z H' s'->Rep K Z H' A v d->Q v H')
def fCall(g:GF)(FL:FA):FE:=fun δ s=>(FL δ s).bind fun p=>g p.1 p.2
theorem z8E{gf:GF}{Z:Zt}{A:List Addr}{σ:L2.St}{H:Hp}{Q:VK}{E:XK}(h:tD X Z A (fCall gf FL) σ H Q):tCall (spD X.K gf) [] E (tDA X Z A FL) σ H Q:=by
 obtain⟨B,ow,δ,s,d,s',R,S,e,q⟩:=h
 unfold fCall at e
 first | refine bnd2 e fun ds s1 e1 e=>?_ | refine mpp2 e fun ds s1 e1 e=>?_
 refine⟨B,ow,δ,s,ds,s1,R,S,e1,fun vs H1 x1 S1 rs=>?_⟩
 show spD X.K gf (vs++[]) H1 Q E
 rw[List.append_nil]
 refine⟨Z,A++ow.map (·.2),ds,s1,d,s',rs,fun q hq=>?_,S1,e,fun v H' a b c=>q v H' (x1.trans a) b c⟩
 refine⟨(R.mono x1).all q hq,?_⟩
 rcases List.mem_append.mp hq with h | h
 ·exact(R.ok q h).2
 ·obtain⟨⟨i,p⟩,hp,rfl⟩:=List.mem_map.mp h
  exact(R.ows i p hp).2.2.1
theorem zbm{gf:GF}{k:Nat}{f:Addr}{fd:FuncData}{ps:List Str}(G:FnOk X.prog X.w X.K X.mg X.base CX0 k f fd ps (spD X.K gf))(hr:Room k X.A)(hm:X.mg x=some (.ref f))(hk:PySem.W.keepIn X.K (.ref f)=true)(hb:Binds X.K fd ps [])
  (ha:DA X (e::es) FL) (hg:Gl X x:=by rfl) (hdb:(x == ("__debug__":Str))=false:=by decide) (he:starEach (e::es) X.env=(false,eval e X.env)::starEach es X.env:=by rfl) (hpl:(backTo pos (starEach es X.env)).any (·.1)=false:=by rfl) :
  DE X (.Call (.Name x p) (e::es) [] pos) (fCall gf FL):=⟨fun Z A=>PE.imp (z4m G hr hg hm hk hb .nil pass0 (ha Z A) hdb he hpl) fun σ H Q q=>z8E q⟩
end
end L3
namespace L3
open PySem L2 PySem.Spec PyProof.Rows
inductive Out where
 | next (δ:Sl) | ret (d:D) | brk (δ:Sl) | cnt (δ:Sl) | own (xs:List D)
abbrev GS:=Sl->Sx->Option (Out × Sx)
def postS(X:Cx)(Z:Zt)(A:List Addr)(ow:Ow)(H:Hp)(s':Sx)(E:Ends):Out->Prop
 | .next δ'=>∀ ow' σ' H',RepS X.K X.H₀ Z A ow' σ' δ' H'->StateAt Z H' s'->Frm Z ow H ow' H'->E.nx σ' H'
 | .ret d=>∀ v H',Ext Z X.H₀ H'->StateAt Z H' s'->Rep X.K Z H' A v d->E.rt v H'
 | .own xs=>∀ p vs H',Ext Z X.H₀ H'->StateAt Z H' s'->X.H₀ p=none->H' p=some (.lst vs)->Reps X.K Z H' (p::A) vs xs->E.rt (.ref p) H'
 | .brk δ'=>∀ ow' σ' H',RepS X.K X.H₀ Z A ow' σ' δ' H'->StateAt Z H' s'->Frm Z ow H ow' H'->E.bk σ' H'
 | .cnt δ'=>∀ ow' σ' H',RepS X.K X.H₀ Z A ow' σ' δ' H'->StateAt Z H' s'->Frm Z ow H ow' H'->E.ct σ' H'
theorem postS.frm{X:Cx}{Z:Zt}{A:List Addr}{ow ow':Ow}{H H':Hp}{s':Sx}{E:Ends}{o:Out}(h:postS X Z A ow H s' E o)(f:Frm Z ow H ow' H'):postS X Z A ow' H' s' E o:=by
 cases o with
 | next δ=>exact fun ow2 σ2 H2 a b c=>h ow2 σ2 H2 a b (f.trans c)
 | ret d=>exact h
 | own d=>exact h
 | brk δ=>exact fun ow2 σ2 H2 a b c=>h ow2 σ2 H2 a b (f.trans c)
 | cnt δ=>exact fun ow2 σ2 H2 a b c=>h ow2 σ2 H2 a b (f.trans c)
inductive tDS(X:Cx)(Z:Zt)(A:List Addr)(G:GS)(E:Ends)(σ:L2.St)(H:Hp):Prop
 | mk (ow:Ow) (δ:Sl) (s:Sx) (o:Out) (s':Sx) (h0:RepS X.K X.H₀ Z A ow σ δ H) (h1:StateAt Z H s) (h2:G δ s=some (o,s')) (h3:postS X Z A ow H s' E o)
structure DS(X:Cx)(st:Stmt)(G:GS):Prop where
 go:∀ Z A,PS X st (tDS X Z A G)
instance {X:Cx} {st:Stmt} {G:GS}:CoeFun (DS X st G) (fun _=>∀ Z A,PS X st (tDS X Z A G)):=⟨fun h=>h.go⟩
structure DSs(X:Cx)(st:List Stmt)(G:GS):Prop where
 go:∀ Z A,PSs X st (tDS X Z A G)
instance {X:Cx} {st:List Stmt} {G:GS}:CoeFun (DSs X st G) (fun _=>∀ Z A,PSs X st (tDS X Z A G)):=⟨fun h=>h.go⟩
def sNext:GS:=fun δ s=>some (.next δ,s)
def sSeq(G1 G2:GS):GS:=fun δ s=>match G1 δ s with | some (.next δ',s')=>G2 δ' s' | r=>r
section
variable {X:Cx} {st:Stmt} {sts body a b:List Stmt} {G G1 G2:GS} {e c:Expr} {F:FE} {Ft:FT} {FL:FA} {pos:Pos}
theorem z0y:DSs X [] sNext:=⟨fun Z A=>PSs.imp z86 fun E σ H zdm=>by
 obtain⟨ow,δ,s,o,s',R,S,e,q⟩:=zdm
 cases e
 exact q ow σ H R S .refl⟩
theorem ze(h:DS X st G):DSs X [st] G:=⟨fun Z A=>z4k (h Z A)⟩
theorem dss_cons(h1:DS X st G1)(h2:DSs X sts G2):DSs X (st::sts) (sSeq G1 G2):=⟨fun Z A=>PSs.imp (z0E (h1 Z A) (h2 Z A)) fun E σ H zdn=>by
 obtain⟨ow,δ,s,o,s',R,S,e,q⟩:=zdn
 unfold sSeq at e
 cases e1:G1 δ s with
 | none=>rw[e1]at e;cases e
 | some p =>
  obtain⟨o1,s1⟩:=p
  rw[e1]at e
  cases o1 with
  | next δ1=>exact⟨ow,δ,s,.next δ1,s1,R,S,e1,fun ow' σ' H' R' S' f=>⟨ow',δ1,s1,o,s',R',S',e,q.frm f⟩⟩
  | ret d=>cases e;exact⟨ow,δ,s,_,_,R,S,e1,q⟩
  | own d=>cases e;exact⟨ow,δ,s,_,_,R,S,e1,q⟩
  | brk d=>cases e;exact⟨ow,δ,s,_,_,R,S,e1,q⟩
  | cnt d=>cases e;exact⟨ow,δ,s,_,_,R,S,e1,q⟩⟩
theorem RepS.set{K:PySem.W.Frag}{B:Hp}{Z:Zt}{A:List Addr}{ow:Ow}{σ:L2.St}{δ:Sl}{H:Hp}{i:Nat}{v:V}{d:D}(R:RepS K B Z A ow σ δ H)(r:Rep K Z H (A++ow.map (·.2)) v d) :
  RepS K B Z A (ow.filter fun p=>decide (p.1≠i)) (σ.set i (some v)) (δ.set i (.val d)) H/\Frm Z ow H (ow.filter fun p=>decide (p.1≠i)) H:=by
 have sub:∀ q∈A++(ow.filter fun p=>decide (p.1≠i)).map (·.2),q∈A++ow.map (·.2):=fun q hq=>by
  rcases List.mem_append.mp hq with h | h
  ·exact List.mem_append_left _ h
  ·obtain⟨p,hp,rfl⟩:=List.mem_map.mp h
   exact List.mem_append_right _ (List.mem_map_of_mem (List.mem_filter.mp hp).1)
 refine⟨⟨R.ok,R.ext,by rw[List.length_set,List.length_set];exact R.len,fun j d' h=>?_,fun j xs h=>?_,fun j p h=>R.ows j p (List.mem_filter.mp h).1,fun j k p h1 h2=>R.inj j k p (List.mem_filter.mp h1).1 (List.mem_filter.mp h2).1⟩,fun b o h n m=>⟨h,fun z=>m ?_⟩⟩
 ·by_cases hj:i=j
  ·subst hj
   have hi:i < δ.length:=by
    have:=(List.getElem?_eq_some_iff.mp h).1
    rwa [List.length_set]at this
   rw[List.getElem?_set_self hi]at h
   cases h
   exact⟨v,List.getElem?_set_self (by rw[<- R.len];exact hi),r.sub sub⟩
  ·rw[List.getElem?_set_ne hj]at h
   obtain⟨v',h1,h2⟩:=R.val j d' h
   exact⟨v',by rw[List.getElem?_set_ne hj];exact h1,h2.sub sub⟩
 ·by_cases hj:i=j
  ·subst hj
   have hi:i < δ.length:=by
    have:=(List.getElem?_eq_some_iff.mp h).1
    rwa [List.length_set]at this
   rw[List.getElem?_set_self hi]at h
   cases h
  ·rw[List.getElem?_set_ne hj]at h
   obtain⟨p,vs,h1,h2,h3,h4⟩:=R.own j xs h
   exact⟨p,vs,List.mem_filter.mpr ⟨h1,decide_eq_true (Ne.symm hj)⟩,by rw[List.getElem?_set_ne hj];exact h2,h3,h4.sub sub⟩
 ·obtain⟨p,hp,e⟩:=List.mem_map.mp z
  exact List.mem_map.mpr ⟨p,(List.mem_filter.mp hp).1,e⟩
def sSet(i:Nat)(F:FE):GS:=fun δ s=>(F δ s).map fun p=>(.next (δ.set i (.val p.1)),p.2)
theorem ds_set{i:Nat}{x:Str}{pos':Pos}(hN:X.N.Nodup)(he:DE X e F)(hi:X.N[i]?=some x:=by rfl)(hx:Loc X.env.scope x:=by first | exact Or.inl rfl | exact Or.inr rfl)(hs:swapsWith e (some (.Name x pos')) pos.line X.env=pure false:=by rfl)
  (hf:X.fn x=true\/X.env.scope.names.lookup x=some .local:=by first | exact .inl rfl | exact .inr rfl | assumption):DS X (.Assign [.Name x pos'] e pos) (sSet i F):=⟨fun Z A=>PS.imp (z2F hN hi hx (he Z A) hs hf) fun E σ H zdo=>by
 obtain⟨ow,δ,s,o,s',R,S,e,q⟩:=zdo
 unfold sSet at e
 cases e1:F δ s with
 | none=>rw[e1]at e;cases e
 | some p =>
  rw[e1]at e
  cases e
  refine⟨_,ow,δ,s,_,_,R,S,e1,fun v H' x1 S1 r=>?_⟩
  obtain⟨R',f⟩:=(R.mono x1).set (i:=i) r
  exact q _ _ H' R' S1 ((Frm.ext x1).trans f)⟩
def sPar(i j:Nat)(FL:FA):GS:=fun δ s=>(FL δ s).bind fun p=>match p.1 with | [x,y]=>some (.next ((δ.set i (.val x)).set j (.val y)),p.2) | _=>none
theorem z1I{i j:Nat}{x y:Str}{a b:Expr}{px py pt:Pos}{kt k2 pt2}(hN:X.N.Nodup)(hij:i≠j)(ha:DA X [a,b] FL)(hw:swappedStores [.Tuple [.Name x px,.Name y py] kt pt] (.Tuple [a,b] k2 pt2) X.env=pure (some [x,y]))
  (hi:X.N[i]?=some x:=by rfl) (hj:X.N[j]?=some y:=by rfl) (hx:X.env.scope.names.lookup x=some .local:=by rfl) (hy:X.env.scope.names.lookup y=some .local:=by rfl) (hc:X.calm=true:=by rfl)
  (hs:swapsWithSole [.Tuple [.Name x px,.Name y py] kt pt] (.Tuple [a,b] k2 pt2) pos.line X.env=pure false:=by rfl):DS X (.Assign [.Tuple [.Name x px,.Name y py] kt pt] (.Tuple [a,b] k2 pt2) pos) (sPar i j FL):=⟨fun Z A=>PS.imp (z89 hc hN hi hj hij hx hy (ha Z A) hw hs) fun E σ H zdp=>by
  obtain⟨ow,δ,s,o,s',R,S,e,q⟩:=zdp
  unfold sPar at e
  cases e1:FL δ s with
  | none=>rw[e1]at e;cases e
  | some p =>
   obtain⟨ds,s1⟩:=p
   rw[e1]at e
   refine⟨_,ow,δ,s,ds,s1,R,S,e1,fun vs H' x1 S1 rs=>?_⟩
   rcases ds with _ | ⟨dx,_ | ⟨dy,_ | _⟩⟩
   ·cases e
   ·cases e
   ·cases e
    cases rs with
    | cons r1 rs =>
     cases rs with
     | cons r2 rs =>
      cases rs
      obtain⟨R1,f1⟩:=(R.mono x1).set (i:=i) r1
      obtain⟨R2,f2⟩:=R1.set (i:=j) (r2.frm f1)
      exact⟨_,_,rfl,q _ _ H' R2 S1 (((Frm.ext x1).trans f1).trans f2)⟩
   ·cases e⟩
def sRet(F:FE):GS:=fun δ s=>(F δ s).map fun p=>(.ret p.1,p.2)
theorem zJ(he:DE X e F):DS X (.Return (some e) pos) (sRet F):=⟨fun Z A=>PS.imp (z6W (he Z A)) fun E σ H zdq=>by
 obtain⟨ow,δ,s,o,s',R,S,e,q⟩:=zdq
 unfold sRet at e
 cases e1:F δ s with
 | none=>rw[e1]at e;cases e
 | some p =>
  rw[e1]at e
  cases e
  exact⟨_,ow,δ,s,_,_,R,S,e1,fun v H' x1 S1 r=>q v H' (R.ext.trans x1) S1 (r.sub fun q hq=>List.mem_append_left _ hq)⟩⟩
def sIf(Ft:FT)(G1 G2:GS):GS:=fun δ s=>(Ft δ s).bind fun p=>if p.1=true then G1 δ p.2 else G2 δ p.2
theorem z2Y(hc:DT X c Ft)(ha:DSs X a G1)(hb:DSs X b G2):DS X (.If c a b pos) (sIf Ft G1 G2):=⟨fun Z A=>PS.imp (zcu (hc Z A) (ha Z A) (hb Z A)) fun E σ H zdr=>by
 obtain⟨ow,δ,s,o,s',R,S,e,q⟩:=zdr
 unfold sIf at e
 cases e1:Ft δ s with
 | none=>rw[e1]at e;cases e
 | some p =>
  obtain⟨k,s1⟩:=p
  rw[e1]at e
  refine⟨_,ow,δ,s,k,s1,R,S,e1,fun H1 x1 S1=>?_⟩
  cases k with
  | true=>exact iteT ⟨ow,δ,s1,o,s',R.mono x1,S1,e,q.frm (Frm.ext x1)⟩
  | false=>exact iteF ⟨ow,δ,s1,o,s',R.mono x1,S1,e,q.frm (Frm.ext x1)⟩⟩
def whileN(Ft:FT)(G:GS):Nat->GS
 | 0,_,_=>none
 | n + 1,δ,s=>(Ft δ s).bind fun p=>if p.1=true then (match G δ p.2 with
   | some (.next δ',s')=>whileN Ft G n δ' s'
   | some (.cnt δ',s')=>whileN Ft G n δ' s'
   | some (.brk δ',s')=>some (.next δ',s')
   | some (.ret d,s')=>some (.ret d,s')
   | some (.own d,s')=>some (.own d,s')
   | none=>none) else some (.next δ,p.2)
def fuel:Nat:=1000000000
def sWhile(Ft:FT)(G:GS):GS:=whileN Ft G fuel
theorem z1z(hc:DT X c Ft)(hb:DSs X body G)(hp:PassesOwn (model X.prog X.w) X.A X.env X.xe:=by exact PassesOwn.never):DS X (.While c body [] pos) (sWhile Ft G):=⟨fun Z A=>PS.imp (z9J hp (hc Z A) (hb Z A)) fun E σ H zds=>by
 obtain⟨ow,δ,s,o,s',R,S,e,q⟩:=zds
 refine⟨fun n σ H=>∃ ow δ s,RepS X.K X.H₀ Z A ow σ δ H/\StateAt Z H s/\whileN Ft G n δ s=some (o,s')/\postS X Z A ow H s' E o,⟨fuel,ow,δ,s,R,S,e,q⟩,?_⟩
 clear e q S R
 rintro n σ H ⟨ow,δ,s,R,S,e,q⟩
 cases n with
 | zero=>cases e
 | succ n =>
  unfold whileN at e
  cases e1:Ft δ s with
  | none=>rw[e1]at e;cases e
  | some p =>
   obtain⟨k,s1⟩:=p
   rw[e1]at e
   refine⟨_,ow,δ,s,k,s1,R,S,e1,fun H1 x1 S1=>?_⟩
   cases k with
   | false=>cases e;exact iteF (q ow σ H1 (R.mono x1) S1 (Frm.ext x1))
   | true =>
    refine iteT ?_
    refine⟨fun σ' H'=>∃ ow δ s,RepS X.K X.H₀ Z A ow σ' δ H'/\StateAt Z H' s/\whileN Ft G n δ s=some (o,s')/\postS X Z A ow H' s' E o,fun σ' H' h=>⟨n,Nat.lt_succ_self _,h⟩,?_⟩
    replace e:(match G δ s1 with
     | some (.next δ',s')=>whileN Ft G n δ' s'
     | some (.cnt δ',s')=>whileN Ft G n δ' s'
     | some (.brk δ',s')=>some (.next δ',s')
     | some (.ret d,s')=>some (.ret d,s')
     | some (.own d,s')=>some (.own d,s')
     | none=>none)=some (o,s'):=e
    have q1:=q.frm (Frm.ext x1)
    cases e2:G δ s1 with
    | none=>rw[e2]at e;cases e
    | some r =>
     obtain⟨o2,s2⟩:=r
     rw[e2]at e
     refine⟨ow,δ,s1,o2,s2,R.mono x1,S1,e2,?_⟩
     cases o2 with
     | next δ2=>exact fun ow' σ' H' R' S' f=>⟨ow',δ2,s2,R',S',e,q1.frm f⟩
     | cnt δ2=>exact fun ow' σ' H' R' S' f=>⟨ow',δ2,s2,R',S',e,q1.frm f⟩
     | brk δ2=>cases e;exact q1
     | ret d=>cases e;exact q1
     | own d=>cases e;exact q1⟩
theorem z06{Ft:FT}{G:GS}:∀ {n m:Nat} {δ:Sl} {s:Sx} {r:Out × Sx},whileN Ft G n δ s=some r->n<=m->whileN Ft G m δ s=some r
 | 0,_,_,_,_,h,_=>by cases h
 | n + 1,0,_,_,_,_,h=>absurd h (Nat.not_succ_le_zero _)
 | n + 1,m + 1,δ,s,r,h,hm=>by
  unfold whileN at h ⊢
  cases e1:Ft δ s with
  | none=>rw[e1]at h;cases h
  | some p =>
   rw[e1]at h
   obtain⟨k,s1⟩:=p
   cases k with
   | false=>exact h
   | true =>
    simp only[Option.bind_some,if_true]at h ⊢
    cases e2:G δ s1 with
    | none=>rw[e2]at h;cases h
    | some q =>
     obtain⟨o2,s2⟩:=q
     rw[e2]at h
     cases o2 with
     | next δ2=>exact z06 h (Nat.le_of_succ_le_succ hm)
     | cnt δ2=>exact z06 h (Nat.le_of_succ_le_succ hm)
     | brk δ2=>exact h
     | ret d=>exact h
     | own d=>exact h
def mkFn(n m:Nat)(G:GS):GF:=fun ds s=>if ds.length=n then (match G (ds.map .val++List.replicate m .non) s with
 | some (.ret d,s')=>some (d,s')
 | some (.next _,s')=>some (.none,s')
 | _=>none) else none
theorem z73{K:PySem.W.Frag}{Z:Zt}{H:Hp}{A:List Addr}{vs:List V}{ds:List D}(r:Reps K Z H A vs ds){m i:Nat}{d:D}(h:(ds.map Ce.val++List.replicate m Ce.non)[i]?=some (.val d)):∃ v,(vs.map some++List.replicate m none)[i]?=some (some v)/\Rep K Z H A v d:=by
 by_cases hi:i < ds.length
 ·rw[List.getElem?_append_left (by simpa using hi),List.getElem?_map]at h
  cases e:ds[i]? with
  | none=>rw[e]at h;cases h
  | some d' =>
   rw[e]at h
   cases h
   obtain⟨v,h1,h2⟩:=r.get e
   exact⟨v,by rw[List.getElem?_append_left (by rw[List.length_map,r.length];exact hi),List.getElem?_map,h1];rfl,h2⟩
 ·rw[List.getElem?_append_right (by simpa using Nat.not_lt.mp hi),List.getElem?_replicate]at h
  split at h <;> cases h
theorem z74{ds:List D}{m i:Nat}{xs:List D}(h:(ds.map Ce.val++List.replicate m Ce.non)[i]?=some (.own xs)):False:=by
 by_cases hi:i < ds.length
 ·rw[List.getElem?_append_left (by simpa using hi),List.getElem?_map]at h
  cases e:ds[i]? with
  | none=>rw[e]at h;cases h
  | some d'=>rw[e]at h;cases h
 ·rw[List.getElem?_append_right (by simpa using Nat.not_lt.mp hi),List.getElem?_replicate]at h
  split at h <;> cases h
theorem z75{n m:Nat}{G:GS}{ds:List D}{s:Sx}{r:D × Sx}(h:mkFn n m G ds s=some r):ds.length=n:=by
 unfold mkFn at h
 split at h
 ·assumption
 ·cases h
theorem fnD{P:Program}{w:World}{K:PySem.W.Frag}{mg:Str->Option Value}{base:Heap}{x qual:Str}{st:Stmt}{f:Addr}{fd:FuncData}{N ps:List Str}{k m:Nat}{G:GS}(Fn:Fun K x qual st f fd)(S:FnScope N ps (defScope st))(hN:N.length=ps.length + m)
  (hbody:∀ (cdv:Value) (A:Around) (outer:List Env) (s:Shared) (H:Hp) (E:XK),Room k (A.deeper (envOfC qual (defScope st) s.heap.objs.size f cdv))->DSs (cxOf CX0 P w K mg base N qual (defScope st) f cdv A outer s H E).nox (defBody st) G) :
  FnOk P w K mg base CX0 (k + 1) f fd ps (spD K (mkFn ps.length m G)):=by
 refine Fn.ok S (fun vs H Q E zdt=>?_) (fun cdv A outer s H vs Q E hr zdu=>?_)
 ·obtain⟨Z,A,ds,s,d,s',r,_,_,e,_⟩:=zdt
  rw[r.length];exact z75 e
 ·obtain⟨Z,A0,ds,st0,d,st1,r,hA,hS,e,q⟩:=zdu
  have hl:=z75 e
  refine⟨_,hbody cdv A outer s H E hr Z A0,?_⟩
  unfold mkFn at e
  rw[if_pos hl]at e
  have hst:L2.start N vs=vs.map some++List.replicate m none:=by
   unfold L2.start
   rw[hN,r.length,hl,Nat.add_sub_cancel_left]
  rw[hst]
  have R:RepS K H Z A0 [] (vs.map some++List.replicate m none) (ds.map .val++List.replicate m .non) H:={
   ok:=hA
   ext:=Ext.refl H
   len:=by simp[r.length]
   val:=fun i d h=>by
    obtain⟨v,h1,h2⟩:=z73 r h
    exact⟨v,h1,by rw[List.map_nil,List.append_nil];exact h2⟩
   own:=fun i xs h=>(z74 h).elim
   ows:=fun i p h=>nomatch h
   inj:=fun i j p h=>nomatch h}
  cases e1:G (ds.map .val++List.replicate m .non) st0 with
  | none=>rw[e1]at e;cases e
  | some r1 =>
   obtain⟨o,s1⟩:=r1
   rw[e1]at e
   refine⟨[],_,st0,o,s1,R,hS,e1,?_⟩
   cases o with
   | ret d'=>cases e;exact fun v H' a b c=>q v H' a b c
   | next δ'=>cases e;exact fun ow' σ' H' R' S' f=>q .non H' R'.ext S' .non
   | brk δ'=>cases e
   | own d'=>cases e
   | cnt δ'=>cases e
end
end L3
namespace L3
open PySem L2 PySem.Spec PyProof.Rows
def Src(K:PySem.W.Frag)(Z:Zt)(A:List Addr)(ow:Ow)(J:It)(ds:List D)(H:Hp):Prop:=∀ ow' H' st,Frm Z ow H ow' H'->StateAt Z H' st->(∀ q∈A++ow'.map (·.2),∃ o,H' q=some o)->∀ i,
 (∀ d,ds[i]?=some d->J.go i H'/\∀ x H3,J.yld i H' x H3->Ext Z H' H3/\StateAt Z H3 st/\Rep K Z H3 (A++ow'.map (·.2)) x d)/\(ds.length<=i->J.stop i H')
abbrev FI:=Sl->Sx->Option (List D × Sx)
inductive tDIK(K:PySem.W.Frag)(Z:Zt)(A:List Addr)(F:FI)(σ:L2.St)(H:Hp)(R:It->Hp->Prop):Prop
 | mk (B:Hp) (ow:Ow) (δ:Sl) (s:Sx) (ds:List D) (s':Sx) (h0:RepS K B Z A ow σ δ H) (h1:StateAt Z H s) (h2:F δ s=some (ds,s')) (h3:∀ J H',Ext Z H H'->StateAt Z H' s'->Src K Z A ow J ds H'->R J H')
abbrev tDI(X:Cx)(Z:Zt)(A:List Addr)(F:FI):TI:=tDIK X.K Z A F
structure DI(X:Cx)(tg iter:Expr)(F:FI):Prop where
 go:∀ Z A,PI X tg iter (tDI X Z A F)
instance {X:Cx} {tg iter:Expr} {F:FI}:CoeFun (DI X tg iter F) (fun _=>∀ Z A,PI X tg iter (tDI X Z A F)):=⟨fun h=>h.go⟩
theorem PI.imp{X:Cx}{tg iter:Expr}{t t':TI}(h:PI X tg iter t)(hi:∀ σ H R,t' σ H R->t σ H R):PI X tg iter t':=fun pins s σ H R I q=>h pins s σ H R I (hi σ H R q)
def seqOf:D->Option (List D)
 | .list xs=>some xs
 | .tuple xs=>some xs
 | _=>none
def iSeq(F:FE):FI:=fun δ s=>(F δ s).bind fun p=>(seqOf p.1).map fun xs=>(xs,p.2)
section
variable {X:Cx} {tg iter e e2:Expr} {F Fa Fb:FE} {FL:FA} {p pos:Pos}
theorem z9X{K:PySem.W.Frag}{Z:Zt}{A:List Addr}{ow:Ow}{H:Hp}{a:Addr}{vs:List V}{ds:List D}(h:H a=some (.lst vs))(m:¬ a∈A++ow.map (·.2))(n:NotZ Z a)(r:Reps K Z H (A++ow.map (·.2)) vs ds):Src K Z A ow (Itl K a) ds H:=fun ow' H' st f S hA i=>by
 have h':=(z48 h f n m).1
 have r':=r.frm f
 refine⟨fun d hd=>?_,fun hi=>⟨vs,.of h',by rw[r.length];exact hi⟩⟩
 obtain⟨v,h1,h2⟩:=r'.get hd
 exact⟨⟨vs,v,.of h',h1⟩,fun x H3 zdv=>by
  obtain⟨e,y⟩:=zdv
  subst e
  have q:=y vs (.of h')
  rw[h1]at q
  cases q
  exact⟨Ext.refl _,S,h2⟩⟩
theorem z8F{K:PySem.W.Frag}{Z:Zt}{A:List Addr}{ow:Ow}{H:Hp}{a:Addr}{vs:List V}{ds:List D}(h:∀ ow' H',Frm Z ow H ow' H'->SqT K H' a vs)(r:Reps K Z H (A++ow.map (·.2)) vs ds):Src K Z A ow (Itt K a) ds H:=fun ow' H' st f S hA i=>by
 have h':=h ow' H' f
 have r':=r.frm f
 refine⟨fun d hd=>?_,fun hi=>⟨vs,h',by rw[r.length];exact hi⟩⟩
 obtain⟨v,h1,h2⟩:=r'.get hd
 exact⟨⟨vs,v,h',h1⟩,fun x H3 zdw=>by
  obtain⟨e,y⟩:=zdw
  subst e
  have q:=y vs h'
  rw[h1]at q
  cases q
  exact⟨Ext.refl _,S,h2⟩⟩
theorem zcQ{l:Expr}{tl:TE}(hl:PE X l tl):PI X tg l (fun σ H R=>tl σ H fun x H1=>∃ a,x=.ref a/\(((∃ xs,SqL X.K H1 a xs)/\R (Itl X.K a) H1)\/((∃ xs,SqT X.K H1 a xs)/\R (Itt X.K a) H1))):=fun pins s σ H R I h=>by
 refine thn (hl pins s σ H _ I h) fun v s1 zdx=>?_
 obtain⟨x,H1,I1,r1,a,e,q⟩:=zdx
 subst e
 obtain rfl:v=Value.ref a:=r1
 rcases q with ⟨⟨xs,hx⟩,q⟩ | ⟨⟨xs,hx⟩,q⟩
 ·obtain⟨its,rv,pl,_⟩:=I1.list hx
  refine wpAny_pyIter_list pl.isList ?_
  have nf:=I1.hok.fresh (Nat.le_refl s1.heap.objs.size)
  exact⟨_,[s1.heap.objs.size],_,Itl X.K a,H1,rfl,I1.kept (t':=s1.toks) fun b u eb=>Heap.get?_push_of_some _ eb,z8b a _,⟨_,Heap.get?_push_size _ rfl,rfl,rfl⟩,fun b hb=>by
   have eb:b=s1.heap.objs.size:=by simpa using hb
   rw[eb];exact I1.fpOk (Nat.le_refl _) nf,q⟩
 ·obtain⟨its,rv,⟨o,e1,e2,n,e3⟩,_⟩:=I1.tuple hx
  refine wpAny_pyIter_tuple (items:=its.toArray) ⟨o,e1,e2,n,e3⟩ ?_
  have nf:=I1.hok.fresh (Nat.le_refl s1.heap.objs.size)
  exact⟨_,[s1.heap.objs.size],_,Itt X.K a,H1,rfl,I1.kept (t':=s1.toks) fun b u eb=>Heap.get?_push_of_some _ eb,z7D a _,⟨_,Heap.get?_push_size _ rfl,rfl,rfl⟩,fun b hb=>by
   have eb:b=s1.heap.objs.size:=by simpa using hb
   rw[eb];exact I1.fpOk (Nat.le_refl _) nf,q⟩
theorem z2O(h:DE X e F):DI X tg e (iSeq F):=⟨fun Z A=>PI.imp (zcQ (h Z A)) fun σ H R zdy=>by
 obtain⟨B,ow,δ,s,ds,s',RS,S,ee,q⟩:=zdy
 unfold iSeq at ee
 first | refine bnd2 ee fun d s1 e1 ee=>?_ | refine mpp2 ee fun d s1 e1 ee=>?_
 replace ee:((seqOf d).map fun xs=>(xs,s1))=some (ds,s'):=ee
 refine⟨B,ow,δ,s,d,s1,RS,S,e1,fun v H1 x1 S1 r=>?_⟩
 cases r with
 | lst h n z rs=>cases ee;exact⟨_,rfl,.inl ⟨⟨_,.of h⟩,q _ H1 x1 S1 (z9X h n z rs)⟩⟩
 | tup h n z rs=>cases ee;exact⟨_,rfl,.inr ⟨⟨_,.of h⟩,q _ H1 x1 S1 (z8F (fun ow' H' f=>.of (z48 h f z n).1) rs)⟩⟩
 | mod h rs=>cases ee;exact⟨_,rfl,.inr ⟨⟨_,.inr h⟩,q _ H1 x1 S1 (z8F (fun ow' H' f=>.inr h) rs)⟩⟩
 | non=>cases ee
 | bl _=>cases ee
 | int _=>cases ee
 | str _=>cases ee
 | st _=>cases ee
 | obj _ _ _ _ _=>cases ee⟩
def rng(lo:Int)(n:Nat):List D:=(List.range n).map fun(k:Nat)=>.int (lo + (k:Int))
def rOk(i:Int):Bool:=decide (-(2 ^ 62)<=i) && decide (i < 2 ^ 62)
def iRange1(F:FE):FI:=fun δ s=>(F δ s).bind fun p=>match p.1 with | .int j=>if rOk j=true then some (rng 0 j.toNat,p.2) else none | _=>none
theorem zbn{K:PySem.W.Frag}{Z:Zt}{A:List Addr}{ow:Ow}{H:Hp}(lo:Int)(n:Nat):Src K Z A ow (Itr lo n) (rng lo n) H:=fun ow' H' st f S hA i=>by
 refine⟨fun d hd=>?_,fun hi=>(show n<=i by simpa [rng] using hi)⟩
 unfold rng at hd
 rw[List.getElem?_map]at hd
 first | refine bnd1 hd fun k e hd=>?_ | refine mpp1 hd fun k e hd=>?_
 cases hd
 have hk:i < n/\k=i:=by
  have h1:=(List.getElem?_eq_some_iff.mp e).1
  rw[List.length_range]at h1
  rw[List.getElem?_range h1]at e
  exact⟨h1,(Option.some.inj e).symm⟩
 obtain⟨h1,rfl⟩:=hk
 exact⟨h1,fun x H3 zdz=>by obtain⟨e1,e2⟩:=zdz;subst e1 e2;exact⟨Ext.refl _,S,.int _⟩⟩
theorem z2P(hm:X.mg "range"=none)(ha:DE X e F)(hg:Gl X "range":=by rfl)(hs:starEach [e] X.env=[(false,eval e X.env)]:=by rfl):DI X tg (.Call (.Name "range" p) [e] [] pos) (iRange1 F):=⟨fun Z A=>PI.imp (z8c hg hm (zK (ha Z A) z0o hs) hs) fun σ H R zdA=>by
  obtain⟨B,ow,δ,s,ds,s',RS,S,ee,q⟩:=zdA
  unfold iRange1 at ee
  first | refine bnd2 ee fun d s1 e1 ee=>?_ | refine mpp2 ee fun d s1 e1 ee=>?_
  refine⟨B,ow,δ,s,d,s1,RS,S,e1,fun v H1 x1 S1 r=>?_⟩
  cases r with
  | int j =>
   replace ee:(if rOk j=true then some (rng 0 j.toNat,s1) else none)=some (ds,s'):=ee
   split at ee
   ·rename_i hj
    cases ee
    unfold rOk at hj
    rw[Bool.and_eq_true]at hj
    exact⟨j,rfl,of_decide_eq_true hj.1,of_decide_eq_true hj.2,q _ H1 x1 S1 (zbn 0 j.toNat)⟩
   ·cases ee
  | _=>cases ee⟩
def iZipF(Fa Fb:FE):FI:=fun δ s=>(Fa δ s).bind fun p=>(Fb δ p.2).bind fun q=>(seqOf p.1).bind fun xs=>(seqOf q.1).map fun ys=>((xs.zip ys).map fun z=>.tuple [z.1,z.2],q.2)
theorem z8G{K:PySem.W.Frag}{Z:Zt}{H:Hp}{A:List Addr}{ow:Ow}{v:V}{d:D}{xs:List D}(r:Rep K Z H (A++ow.map (·.2)) v d)(e:seqOf d=some xs) :
  ∃ k a vs,v=.ref a/\SqK k K H a vs/\Reps K Z H (A++ow.map (·.2)) vs xs/\∀ ow' H',Frm Z ow H ow' H'->SqK k K H' a vs:=by
 cases r with
 | lst h n z rs=>cases e;exact⟨true,_,_,rfl,SqL.of h,rs,fun ow' H' f=>SqL.of (z48 h f z n).1⟩
 | tup h n z rs=>cases e;exact⟨false,_,_,rfl,SqT.of h,rs,fun ow' H' f=>SqT.of (z48 h f z n).1⟩
 | mod h rs=>cases e;exact⟨false,_,_,rfl,.inr h,rs,fun ow' H' f=>.inr h⟩
 | non=>cases e
 | bl _=>cases e
 | int _=>cases e
 | str _=>cases e
 | st _=>cases e
 | obj _ _ _ _ _=>cases e
theorem zaI{elts:List Expr}{c:Nat}{tp:Pos}(hm:X.mg "zip"=none)(ha:DE X e Fa)(hb:DE X e2 Fb)(hg:Gl X "zip":=by rfl)(hs:starEach [e,e2] X.env=[(false,eval e X.env),(false,eval e2 X.env)]:=by rfl)(hs2:starEach [e2] X.env=[(false,eval e2 X.env)]:=by rfl) :
  DI X (.Tuple elts c tp) (.Call (.Name "zip" p) [e,e2] [] pos) (iZipF Fa Fb):=⟨fun Z A=>PI.imp (zcL hg hm (zK (ha Z A) (zK (hb Z A) z0o hs2) (by rw[hs,hs2])) hs hs2) fun σ H R zdB=>by
  obtain⟨B,ow,δ,s,ds,s',RS,S,ee,q⟩:=zdB
  unfold iZipF at ee
  first | refine bnd2 ee fun d s1 e1 ee=>?_ | refine mpp2 ee fun d s1 e1 ee=>?_
  replace ee:((Fb δ s1).bind fun q=>(seqOf d).bind fun xs=>(seqOf q.1).map fun ys=>((xs.zip ys).map fun z=>PyData.tuple [z.1,z.2],q.2))=some (ds,s'):=ee
  first | refine bnd2 ee fun d2 s2 e2 ee=>?_ | refine mpp2 ee fun d2 s2 e2 ee=>?_
  replace ee:((seqOf d).bind fun xs=>(seqOf d2).map fun ys=>((xs.zip ys).map fun z=>PyData.tuple [z.1,z.2],s2))=some (ds,s'):=ee
  first | refine bnd1 ee fun xs e3 ee=>?_ | refine mpp1 ee fun xs e3 ee=>?_
  replace ee:((seqOf d2).map fun ys=>((xs.zip ys).map fun z=>PyData.tuple [z.1,z.2],s2))=some (ds,s'):=ee
  first | refine bnd1 ee fun ys e4 ee=>?_ | refine mpp1 ee fun ys e4 ee=>?_
  cases ee
  refine⟨B,ow,δ,s,d,s1,RS,S,e1,fun v H1 x1 S1 r=>⟨B,ow,δ,s1,d2,s',RS.mono x1,S1,e2,fun v2 H2 x2 S2 r2=>?_⟩⟩
  obtain⟨k1,a1,vs1,rfl,sq1,rs1,st1⟩:=z8G (r.ext x2) e3
  obtain⟨k2,a2,vs2,rfl,sq2,rs2,st2⟩:=z8G r2 e4
  refine⟨k1,k2,a1,a2,vs1,vs2,rfl,sq1,sq2,q _ H2 (x1.trans x2) S2 ?_⟩
  intro ow' H' st f S' hA i
  have g1:=st1 ow' H' f
  have g2:=st2 ow' H' f
  refine⟨fun dd hd=>?_,fun hi=>⟨vs1,vs2,g1,g2,?_⟩⟩
  ·rw[List.getElem?_map]at hd
   first | refine bnd1 hd fun z e5 hd=>?_ | refine mpp1 hd fun z e5 hd=>?_
   cases hd
   rw[List.getElem?_zip_eq_some]at e5
   obtain⟨u1,h1,q1⟩:=(rs1.frm f).get e5.1
   obtain⟨u2,h2,q2⟩:=(rs2.frm f).get e5.2
   refine⟨⟨vs1,vs2,u1,u2,g1,g2,h1,h2⟩,fun x H3 zdC=>?_⟩
   obtain⟨p,y1,y2,ex,hp,eH,f1,f2⟩:=zdC
   have z1:=f1 vs1 g1
   have z2:=f2 vs2 g2
   rw[h1]at z1
   rw[h2]at z2
   cases z1
   cases z2
   subst ex eH
   exact⟨Ext.upd hp,S'.upd hp,.tup zk (zO hA hp) (S'.notZ hp) (.cons (q1.ext (Ext.upd hp)) (.cons (q2.ext (Ext.upd hp)) .nil))⟩
  ·rw[rs1.length,rs2.length]
   rw[List.length_map,List.length_zip]at hi
   omega⟩
end
end L3
namespace L3
open PySem L2 PySem.Spec PyProof.Rows
inductive Tgt where
 | one (i:Nat) | tup (is:List Nat) | nest (i:Nat) (js:List Nat)
def Tgt.slots:Tgt->List Nat
 | .one i=>[i]
 | .tup is=>is
 | .nest i js=>i::js
def setD:List Nat->List D->Sl->Sl
 | i::is,d::ds,δ=>setD is ds (δ.set i (.val d))
 | _,_,δ=>δ
def Tgt.run:Tgt->D->Sl->Option Sl
 | .one i,d,δ=>some (δ.set i (.val d))
 | .tup is,.tuple ds,δ=>if ds.length=is.length then some (setD is ds δ) else none
 | .tup is,.list ds,δ=>if ds.length=is.length then some (setD is ds δ) else none
 | .tup _,_,_=>none
 | .nest i js,.tuple [a,b],δ=>(seqOf b).bind fun ds=>if ds.length=js.length then some (setD js ds (δ.set i (.val a))) else none
 | .nest _ _,_,_=>none
def Chg(l:List Nat)(σ σ':L2.St):Prop:=σ'.length=σ.length/\∀ i,¬ i∈l->σ'[i]?=σ[i]?
inductive tDG(K:PySem.W.Frag)(Z:Zt)(A:List Addr)(T:Tgt)(v:V)(σ:L2.St)(H:Hp)(Q:L2.St->Hp->Prop):Prop
 | mk (B:Hp) (ow:Ow) (δ:Sl) (d:D) (δ':Sl) (h0:RepS K B Z A ow σ δ H) (h1:Rep K Z H (A++ow.map (·.2)) v d) (h2:T.run d δ=some δ') (h3:∀ ow' σ',RepS K B Z A ow' σ' δ' H->Frm Z ow H ow' H->Chg T.slots σ σ'->Q σ' H)
structure DG(X:Cx)(tg:Expr)(T:Tgt):Prop where
 go:∀ Z A,PG X tg (tDG X.K Z A T)
instance {X:Cx} {tg:Expr} {T:Tgt}:CoeFun (DG X tg T) (fun _=>∀ Z A,PG X tg (tDG X.K Z A T)):=⟨fun h=>h.go⟩
theorem PG.imp{X:Cx}{tg:Expr}{t t':TG}(h:PG X tg t)(hi:∀ v σ H Q,t' v σ H Q->t v σ H Q):PG X tg t':=fun pins s σ H v u Q I r q=>h pins s σ H v u Q I r (hi v σ H Q q)
theorem RepS.setAll{K:PySem.W.Frag}{B:Hp}{Z:Zt}{A:List Addr}{H:Hp}:∀ {is:List Nat} {vs:List V} {ds:List D} {ow:Ow} {σ:L2.St} {δ:Sl},RepS K B Z A ow σ δ H->Reps K Z H (A++ow.map (·.2)) vs ds->ds.length=is.length ->
  ∀ {es:List Expr} {X:Cx} (Q:L2.St->Hp->Prop),True->True->(∀ ow' σ',RepS K B Z A ow' σ' (setD is ds δ) H->Frm Z ow H ow' H->Chg is σ σ'->σ'=(is.zip vs).foldl (fun σ p=>σ.set p.1 (some p.2)) σ->Q σ' H)->Q ((is.zip vs).foldl (fun σ p=>σ.set p.1 (some p.2)) σ) H
 | [],vs,ds,ow,σ,δ,R,rs,hl,es,X,Q,_,_,h=>by
  have e:ds=[]:=List.eq_nil_of_length_eq_zero hl
  subst e
  exact h ow σ R .refl ⟨rfl,fun _ _=>rfl⟩ rfl
 | i::is,vs,d::ds,ow,σ,δ,R,rs,hl,es,X,Q,_,_,h=>by
  cases rs with
  | @cons v _ vs' _ r rs =>
   obtain⟨R1,f1⟩:=R.set (i:=i) r
   refine RepS.setAll (X:=X) (es:=es) R1 (rs.frm f1) (by simpa using hl) Q trivial trivial fun ow' σ' R2 f2 c2 e2=>?_
   refine h ow' σ' R2 (f1.trans f2) ⟨by rw[c2.1,List.length_set],fun j hj=>?_⟩ e2
   have hj':¬ j=i/\¬ j∈is:=by simpa using hj
   rw[c2.2 j hj'.2,List.getElem?_set_ne (Ne.symm hj'.1)]
 | _::_,_,[],_,_,_,_,_,hl,_,_,_,_,_,_=>by simp at hl
section
variable {X:Cx} {tg iter elt e:Expr} {es:List Expr} {T:Tgt} {F:FE} {Fi:FI} {Ft:FT} {G:GS} {body:List Stmt} {pos:Pos}
theorem z0p{i:Nat}{x:Str}(hN:X.N.Nodup)(hi:X.N[i]?=some x:=by rfl)(hx:Loc X.env.scope x:=by first | exact Or.inl rfl | exact Or.inr rfl)(hf:X.fn x=true\/X.env.scope.names.lookup x=some .local:=by first | exact .inl rfl | exact .inr rfl | assumption) :
  DG X (.Name x pos) (.one i):=⟨fun Z A=>PG.imp (z6a hN hi hx hf) fun v σ H Q zdD=>by
 obtain⟨B,ow,δ,d,δ',R,r,e,q⟩:=zdD
 cases e
 obtain⟨R1,f1⟩:=R.set (i:=i) r
 exact q _ _ R1 f1 ⟨List.length_set,fun j hj=>List.getElem?_set_ne (by simpa using Ne.symm (show ¬ j=i by simpa [Tgt.slots] using hj))⟩⟩
def gSlots:List Nat->TGs
 | []=>gNil
 | i::is=>gCons (gName i) (gSlots is)
theorem z3B:∀ {is:List Nat} {vs:List V} {σ:L2.St} {H:Hp} {Q:L2.St->Hp->Prop},vs.length=is.length->Q ((is.zip vs).foldl (fun σ p=>σ.set p.1 (some p.2)) σ) H->gSlots is vs σ H Q
 | [],vs,σ,H,Q,hl,q=>⟨List.eq_nil_of_length_eq_zero hl,by have e:=List.eq_nil_of_length_eq_zero hl;subst e;exact q⟩
 | i::is,v::vs,σ,H,Q,hl,q=>⟨v,vs,rfl,z3B (by simpa using hl) q⟩
 | _::_,[],_,_,_,hl,_=>by simp at hl
theorem z0q:PGs X [] (gSlots []):=z87
theorem zu{i:Nat}{is:List Nat}{x:Str}(hN:X.N.Nodup)(h2:PGs X es (gSlots is))(hi:X.N[i]?=some x:=by rfl)(hx:Loc X.env.scope x:=by first | exact Or.inl rfl | exact Or.inr rfl)(hf:X.fn x=true\/X.env.scope.names.lookup x=some .local:=by first | exact .inl rfl | exact .inr rfl | assumption)
  (hs:(assignEach (.Name x pos::es) X.env).map (·.2)=assign (.Name x pos) X.env::(assignEach es X.env).map (·.2):=by rfl):PGs X (.Name x pos::es) (gSlots (i::is)):=z4l (z6a hN hi hx hf) h2 hs
theorem z1c{is:List Nat}{k:Nat}(h:PGs X es (gSlots is))(hn:(assignEach es X.env).length=is.length:=by rfl)(hst:(assignEach es X.env).findIdx? (·.1)=none:=by rfl)(hc:X.calm=true:=by rfl):DG X (.Tuple es k pos) (.tup is):=⟨fun Z A=>PG.imp (zbg hc h hn hst) fun v σ H Q zdE=>by
  obtain⟨B,ow,δ,d,δ',R,r,e,q⟩:=zdE
  cases d with
  | tuple ds =>
   replace e:(if ds.length=is.length then some (setD is ds δ) else none)=some δ':=e
   split at e
   ·rename_i hl
    cases e
    obtain⟨p,vs,rfl,sq,rs⟩:=r.w.tuple
    refine⟨p,vs,rfl,.inl sq,by rw[rs.length];exact hl,z3B (by rw[rs.length];exact hl) ?_⟩
    exact RepS.setAll (X:=X) (es:=es) R rs hl Q trivial trivial fun ow' σ' R' f' c' _=>q ow' σ' R' f' c'
   ·cases e
  | list ds =>
   replace e:(if ds.length=is.length then some (setD is ds δ) else none)=some δ':=e
   split at e
   ·rename_i hl
    cases e
    obtain⟨p,vs,rfl,sq,_,rs⟩:=r.w.list
    refine⟨p,vs,rfl,.inr sq,by rw[rs.length];exact hl,z3B (by rw[rs.length];exact hl) ?_⟩
    exact RepS.setAll (X:=X) (es:=es) R rs hl Q trivial trivial fun ow' σ' R' f' c' _=>q ow' σ' R' f' c'
   ·cases e
  | _=>cases e⟩
def sUnp(T:Tgt)(F:FE):GS:=fun δ s=>(F δ s).bind fun p=>(T.run p.1 δ).map fun δ'=>(.next δ',p.2)
theorem z3C(he:DE X e F)(hg:DG X tg T)(h1:List.map (·.2) (assignEach [tg] X.env)=[assign tg X.env]:=by rfl)(hs:swapsWithSole [tg] e pos.line X.env=pure false:=by rfl)(hw:swappedStores [tg] e X.env=pure none:=by rfl):DS X (.Assign [tg] e pos) (sUnp T F):=⟨fun Z A=>PS.imp (z88 (he Z A) (hg Z A) hs hw h1) fun E σ H zdF=>by
 obtain⟨ow,δ,s,o,s',R,S,e,q⟩:=zdF
 unfold sUnp at e
 first | refine bnd2 e fun d s1 e1 e=>?_ | refine mpp2 e fun d s1 e1 e=>?_
 replace e:((T.run d δ).map fun δ'=>(Out.next δ',s1))=some (o,s'):=e
 cases e2:T.run d δ with
 | none=>rw[e2]at e;cases e
 | some δ2 =>
  rw[e2]at e
  cases e
  exact⟨_,ow,δ,s,d,s',R,S,e1,fun v H1 x1 S1 r=>⟨_,ow,δ,d,δ2,R.mono x1,r,e2,fun ow' σ' R' f c=>q ow' σ' H1 R' S1 ((Frm.ext x1).trans f)⟩⟩⟩
def forD(T:Tgt)(G:GS):List D->GS
 | [],δ,s=>some (.next δ,s)
 | d::ds,δ,s=>(T.run d δ).bind fun δ1=>match G δ1 s with
  | some (.next δ',s')=>forD T G ds δ' s'
  | some (.cnt δ',s')=>forD T G ds δ' s'
  | some (.brk δ',s')=>some (.next δ',s')
  | some (.ret r,s')=>some (.ret r,s')
  | some (.own r,s')=>some (.own r,s')
  | none=>none
def sFor(Fi:FI)(T:Tgt)(G:GS):GS:=fun δ s=>(Fi δ s).bind fun p=>forD T G p.1 δ p.2
theorem z2g(hi:DI X tg iter Fi)(hg:DG X tg T)(hb:DSs X body G)(hp:PassesOwn (model X.prog X.w) X.A X.env X.xe:=by exact PassesOwn.never)(hc:X.calm=true:=by rfl)(hs:∀ x,foldedSetIterable iter X.env x=pure x:=by intro _;rfl) :
  DS X (.For tg iter body [] pos) (sFor Fi T G):=⟨fun Z A=>PS.imp (zax hp hc (hi Z A) (hg Z A) (hb Z A) hs) fun E σ H zdG=>by
 obtain⟨ow,δ,s,o,s',R,S,e,q⟩:=zdG
 unfold sFor at e
 first | refine bnd2 e fun ds s1 e1 e=>?_ | refine mpp2 e fun ds s1 e1 e=>?_
 replace e:forD T G ds δ s1=some (o,s'):=e
 refine⟨_,ow,δ,s,ds,s1,R,S,e1,fun J H1 x1 S1 src=>?_⟩
 have q1:=q.frm (Frm.ext x1)
 refine⟨fun i m σ H=>∃ ow' δ s,m=ds.length - i/\i<=ds.length/\RepS X.K X.H₀ Z A ow' σ δ H/\StateAt Z H s/\Frm Z ow H1 ow' H/\forD T G (ds.drop i) δ s=some (o,s')/\postS X Z A ow' H s' E o,
  ⟨ds.length,ow,δ,s1,by simp,Nat.zero_le _,R.mono x1,S1,.refl,by simpa using e,q1⟩,?_⟩
 rintro i m σ2 H2 ⟨ow2,δ2,s2,rfl,hi,R2,S2,f2,e2,q2⟩
 have sr:=src ow2 H2 s2 f2 S2 R2.all i
 by_cases hlt:i < ds.length
 ·have hd:ds[i]?=some ds[i]:=List.getElem?_eq_getElem hlt
  obtain⟨go,yl⟩:=sr.1 _ hd
  rw[List.drop_eq_getElem_cons hlt]at e2
  replace e2:((T.run ds[i] δ2).bind fun δ1=>match G δ1 s2 with
   | some (.next δ',s')=>forD T G (ds.drop (i + 1)) δ' s'
   | some (.cnt δ',s')=>forD T G (ds.drop (i + 1)) δ' s'
   | some (.brk δ',s')=>some (.next δ',s')
   | some (.ret r,s')=>some (.ret r,s')
   | some (.own r,s')=>some (.own r,s')
   | none=>none)=some (o,s'):=e2
  refine .inr ⟨go,fun σ' H'=>∃ ow' δ s,RepS X.K X.H₀ Z A ow' σ' δ H'/\StateAt Z H' s/\Frm Z ow H1 ow' H'/\forD T G (ds.drop (i + 1)) δ s=some (o,s')/\postS X Z A ow' H' s' E o,
   fun σ' H' zdH=>(by obtain⟨ow',δ',s3,a1,a2,a3,a4,a5⟩:=zdH;exact⟨ds.length - (i + 1),by omega,ow',δ',s3,rfl,hlt,a1,a2,a3,a4,a5⟩),fun x H3 y=>?_⟩
  obtain⟨x3,S3,r3⟩:=yl x H3 y
  cases e3:T.run ds[i] δ2 with
  | none=>rw[e3]at e2;cases e2
  | some δ3 =>
   rw[e3]at e2
   replace e2:(match G δ3 s2 with
    | some (.next δ',s')=>forD T G (ds.drop (i + 1)) δ' s'
    | some (.cnt δ',s')=>forD T G (ds.drop (i + 1)) δ' s'
    | some (.brk δ',s')=>some (.next δ',s')
    | some (.ret r,s')=>some (.ret r,s')
    | some (.own r,s')=>some (.own r,s')
    | none=>none)=some (o,s'):=e2
   refine⟨X.H₀,ow2,δ2,ds[i],δ3,R2.mono x3,r3,e3,fun ow4 σ4 R4 f4 _=>?_⟩
   have q4:=(q2.frm (Frm.ext x3)).frm f4
   have f14:Frm Z ow H1 ow4 H3:=(f2.trans (Frm.ext x3)).trans f4
   cases e4:G δ3 s2 with
   | none=>rw[e4]at e2;cases e2
   | some r =>
    obtain⟨o4,s4⟩:=r
    rw[e4]at e2
    refine⟨ow4,δ3,s2,o4,s4,R4,S3,e4,?_⟩
    cases o4 with
    | next δ5=>exact fun ow' σ' H' R' S' f=>⟨ow',δ5,s4,R',S',f14.trans f,e2,q4.frm f⟩
    | cnt δ5=>exact fun ow' σ' H' R' S' f=>⟨ow',δ5,s4,R',S',f14.trans f,e2,q4.frm f⟩
    | brk δ5=>cases e2;exact q4
    | ret d=>cases e2;exact q4
    | own d=>cases e2;exact q4
 ·have hi':i=ds.length:=by omega
  subst hi'
  rw[List.drop_length]at e2
  cases e2
  exact .inl ⟨sr.2 (Nat.le_refl _),q2 ow2 σ2 H2 R2 S2 .refl⟩⟩
def compDl(k:Nat)(fr:List Nat)(δ:Sl):Sl:=List.replicate k .non++fr.map fun j=>match δ[j]? with | some (.val d)=>.val d | _=>.non
def compD(T:Tgt)(Ft:FT)(F:FE)(δc:Sl):List D->Sx->Option (List D × Sx)
 | [],s=>some ([],s)
 | d::ds,s=>(T.run d δc).bind fun δ1=>(Ft δ1 s).bind fun p=>if p.1=true then (F δ1 p.2).bind fun q=>(compD T Ft F δc ds q.2).map fun r=>(q.1::r.1,r.2) else compD T Ft F δc ds p.2
def fTrue:FT:=fun _ s=>some (true,s)
structure DIfs(X:Cx)(ifs:List Expr)(F:FT):Prop where
 go:∀ Z A,PIfs X ifs (tDT X Z A F)
instance {X:Cx} {ifs:List Expr} {F:FT}:CoeFun (DIfs X ifs F) (fun _=>∀ Z A,PIfs X ifs (tDT X Z A F)):=⟨fun h=>h.go⟩
theorem z0H:DIfs X [] fTrue:=⟨fun Z A pins s σ H Q I zdI=>by
 obtain⟨B,ow,δ,st,b,st',R,S,e,q⟩:=zdI
 cases e
 exact z9T pins s σ H Q I (q H (Ext.refl H) S)⟩
def fComp(k:Nat)(fr:List Nat)(Fi:FI)(T:Tgt)(Ft:FT)(F:FE):FO:=fun δ s=>(Fi δ s).bind fun p=>if small p.1=true then compD T Ft F (compDl k fr δ) p.1 p.2 else none
theorem z7Q{k:Nat}{fr:List Nat}{δ:Sl}{i:Nat}{d:D}(h:(compDl k fr δ)[i]?=some (.val d)):∃ t j,i=k + t/\fr[t]?=some j/\δ[j]?=some (.val d):=by
 unfold compDl at h
 by_cases hi:i < k
 ·rw[List.getElem?_append_left (by simpa using hi),List.getElem?_replicate]at h
  split at h <;> cases h
 ·rw[List.getElem?_append_right (by simpa using Nat.not_lt.mp hi),List.length_replicate,List.getElem?_map]at h
  refine⟨i - k,?_⟩
  cases e:fr[i - k]? with
  | none=>rw[e]at h;cases h
  | some j =>
   rw[e]at h
   refine⟨j,by omega,rfl,?_⟩
   simp only[Option.map_some,Option.some.injEq]at h
   split at h
   ·rename_i d' e2
    cases h
    exact e2
   ·cases h
theorem z7R{k:Nat}{fr:List Nat}{δ:Sl}{i:Nat}{xs:List D}(h:(compDl k fr δ)[i]?=some (.own xs)):False:=by
 unfold compDl at h
 by_cases hi:i < k
 ·rw[List.getElem?_append_left (by simpa using hi),List.getElem?_replicate]at h
  split at h <;> cases h
 ·rw[List.getElem?_append_right (by simpa using Nat.not_lt.mp hi),List.length_replicate,List.getElem?_map]at h
  cases e:fr[i - k]? with
  | none=>rw[e]at h;cases h
  | some j =>
   rw[e]at h
   simp only[Option.map_some,Option.some.injEq]at h
   split at h <;> cases h
theorem z3D{k:Nat}{fr:List Nat}{Z:Zt}{A:List Addr}{ow:Ow}{σ:L2.St}{δ:Sl}{B H1:Hp}{s1 s':Sx}{J:It}{ds rs:List D}{Fin:List V->Hp->Prop}(hT:∀ i∈T.slots,i < k)(R:RepS X.K B Z A ow σ δ H1)(S1:StateAt Z H1 s1)(src:Src X.K Z A ow J ds H1)(hsm:small ds=true)
  (e:compD T Ft F (compDl k fr δ) ds s1=some (rs,s')) (fin:∀ ys H2,Ext Z H1 H2->StateAt Z H2 s'->Reps X.K Z H2 (A++ow.map (·.2)) ys rs->ys.length<=sizeLine->Fin ys H2) :
  CompW J (tDG X.K Z (A++ow.map (·.2)) T) (tDT X Z (A++ow.map (·.2)) Ft) (tD X Z (A++ow.map (·.2)) F) (compSt k fr σ) H1 Fin:=by
 have hd0:ds.length<=sizeLine:=of_decide_eq_true hsm
 have RY:∀ {H2:Hp},Ext Z H1 H2->RepS X.K H1 Z (A++ow.map (·.2)) [] (compSt k fr σ) (compDl k fr δ) H2:=fun{H2} x=>{
  ok:=fun q hq=>by
   refine⟨(R.mono x).all q hq,?_⟩
   rcases List.mem_append.mp hq with h | h
   ·exact(R.ok q h).2
   ·obtain⟨⟨i,p⟩,hp,rfl⟩:=List.mem_map.mp h
    exact(R.ows i p hp).2.2.1
  ext:=x
  len:=by simp[compDl,compSt]
  val:=fun i d h=>by
   obtain⟨t,j,rfl,h1,h2⟩:=z7Q h
   obtain⟨v,h3,h4⟩:=(R.mono x).val j d h2
   refine⟨v,?_,by rw[List.map_nil,List.append_nil];exact h4⟩
   unfold compSt
   rw[List.getElem?_append_right (by simp),List.length_replicate,Nat.add_sub_cancel_left,List.getElem?_map,h1]
   show some ((σ[j]?).getD none)=_
   rw[h3];rfl
  own:=fun i xs h=>(z7R h).elim
  ows:=fun i p h=>nomatch h
  inj:=fun i j p h=>nomatch h}
 refine⟨fun i m ys H2=>∃ s2 r1 r2,m=ds.length - i/\i<=ds.length/\ys.length<=i/\Ext Z H1 H2/\StateAt Z H2 s2/\Reps X.K Z H2 (A++ow.map (·.2)) ys r1/\rs=r1++r2/\compD T Ft F (compDl k fr δ) (ds.drop i) s2=some (r2,s'),
  ⟨ds.length,s1,[],rs,by simp,Nat.zero_le _,Nat.le_refl _,Ext.refl _,S1,.nil,rfl,by simpa using e⟩,?_⟩
 rintro i m ys H2 ⟨s2,r1,r2,rfl,hi,hy,x2,S2,rep,rfl,e2⟩
 have sr:=src ow H2 s2 (Frm.ext x2) S2 (R.mono x2).all i
 by_cases hlt:i < ds.length
 ·have hd:ds[i]?=some ds[i]:=List.getElem?_eq_getElem hlt
  obtain⟨go,yl⟩:=sr.1 _ hd
  rw[List.drop_eq_getElem_cons hlt]at e2
  replace e2:((T.run ds[i] (compDl k fr δ)).bind fun δ1=>(Ft δ1 s2).bind fun p=>if p.1=true then (F δ1 p.2).bind fun q=>(compD T Ft F (compDl k fr δ) (ds.drop (i + 1)) q.2).map fun r=>(q.1::r.1,r.2) else compD T Ft F (compDl k fr δ) (ds.drop (i + 1)) p.2)=some (r2,s'):=e2
  refine .inr ⟨go,by omega,fun x H3 y=>?_⟩
  obtain⟨x3,S3,r3⟩:=yl x H3 y
  cases e3:T.run ds[i] (compDl k fr δ) with
  | none=>rw[e3]at e2;cases e2
  | some δ3 =>
   rw[e3]at e2
   replace e2:((Ft δ3 s2).bind fun p=>if p.1=true then (F δ3 p.2).bind fun q=>(compD T Ft F (compDl k fr δ) (ds.drop (i + 1)) q.2).map fun r=>(q.1::r.1,r.2) else compD T Ft F (compDl k fr δ) (ds.drop (i + 1)) p.2)=some (r2,s'):=e2
   refine⟨H1,[],compDl k fr δ,ds[i],δ3,RY (x2.trans x3),by rw[List.map_nil,List.append_nil];exact r3,e3,fun ow4 σ4 R4 f4 c4=>⟨⟨c4.1,fun j v hj=>?_⟩,?_⟩⟩
   ·by_cases hs:j∈T.slots
    ·rw[z47 (hT j hs)]at hj;cases hj
    ·rw[c4.2 j hs];exact hj
   ·cases e4:Ft δ3 s2 with
    | none=>rw[e4]at e2;cases e2
    | some p =>
     obtain⟨b,s4⟩:=p
     rw[e4]at e2
     refine⟨H1,ow4,δ3,s2,b,s4,R4,S3,e4,fun H5 x5 S5=>?_⟩
     cases b with
     | false =>
      replace e2:compD T Ft F (compDl k fr δ) (ds.drop (i + 1)) s4=some (r2,s'):=e2
      exact iteF ⟨ds.length - (i + 1),by omega,s4,r1,r2,rfl,hlt,by omega,(x2.trans x3).trans x5,S5,rep.ext (x3.trans x5),rfl,e2⟩
     | true =>
      replace e2:((F δ3 s4).bind fun q=>(compD T Ft F (compDl k fr δ) (ds.drop (i + 1)) q.2).map fun r=>(q.1::r.1,r.2))=some (r2,s'):=e2
      refine iteT ?_
      first | refine bnd2 e2 fun dy s5 e5 e2=>?_ | refine mpp2 e2 fun dy s5 e5 e2=>?_
      replace e2:((compD T Ft F (compDl k fr δ) (ds.drop (i + 1)) s5).map fun r=>(dy::r.1,r.2))=some (r2,s'):=e2
      first | refine bnd1 e2 fun r e6 e2=>?_ | refine mpp1 e2 fun r e6 e2=>?_
      cases e2
      refine⟨H1,ow4,δ3,s4,dy,s5,R4.mono x5,S5,e5,fun yv H6 x6 S6 ry=>⟨ds.length - (i + 1),by omega,s5,r1++[dy],r.1,rfl,hlt,by rw[List.length_append,List.length_singleton];omega,((x2.trans x3).trans x5).trans x6,S6,?_,by simp,e6⟩⟩
      exact(rep.ext ((x3.trans x5).trans x6)).append (.cons (ry.sub fun q hq=>List.mem_append_left _ hq) .nil)
 ·have hi':i=ds.length:=by omega
  subst hi'
  rw[List.drop_length]at e2
  cases e2
  exact .inl ⟨sr.2 (Nat.le_refl _),fin ys H2 x2 S2 (by rw[List.append_nil];exact rep) (Nat.le_trans hy hd0)⟩
theorem z7S{Z:Zt}{H:Hp}{A:List Addr}{p:Addr}{o:HO}(hp:H p=none):∀ q u,H q=some u->¬ q∈A->NotZ Z q->upd H p o q=some u/\¬ q∈p::A:=fun q u h n _ =>
 ⟨by rw[zg (zj h hp)];exact h,fun m=>(List.mem_cons.mp m).elim (fun e=>zj h hp e) n⟩
theorem Reps.fresh{K:PySem.W.Frag}{Z:Zt}{H:Hp}{A:List Addr}{p:Addr}{o:HO}{vs:List V}{ds:List D}(hp:H p=none)(r:Reps K Z H A vs ds):Reps K Z (upd H p o) (p::A) vs ds:=r.move (z7S hp)
inductive tDFK(K:PySem.W.Frag)(Z:Zt)(A:List Addr)(F:FO)(σ:L2.St)(H:Hp)(Q:VK):Prop
 | mk (B:Hp) (ow:Ow) (δ:Sl) (s:Sx) (ds:List D) (s':Sx) (h0:RepS K B Z A ow σ δ H) (h1:StateAt Z H s) (h2:F δ s=some (ds,s')) (h3:∀ p vs H',Ext Z H H'->StateAt Z H' s'->H p=none->H' p=some (.lst vs)->Reps K Z H' (p::(A++ow.map (·.2))) vs ds->Q (.ref p) H')
abbrev tDF(X:Cx)(Z:Zt)(A:List Addr)(F:FO):TE:=tDFK X.K Z A F
structure DF(X:Cx)(e:Expr)(F:FO):Prop where
 go:∀ Z A,PE X e (tDF X Z A F)
instance {X:Cx} {e:Expr} {F:FO}:CoeFun (DF X e F) (fun _=>∀ Z A,PE X e (tDF X Z A F)):=⟨fun h=>h.go⟩
theorem DF.de{Fo:FO}(h:DF X e Fo):DE X e (asL Fo):=⟨fun Z A=>PE.imp (h Z A) fun σ H Q zdJ=>by
 obtain⟨B,ow,δ,s,d,s',R,S,ee,q⟩:=zdJ
 unfold asL at ee
 first | refine bnd1 ee fun p e1 ee=>?_ | refine mpp1 ee fun p e1 ee=>?_
 cases ee
 exact⟨B,ow,δ,s,p.1,p.2,R,S,e1,fun p vs H' x1 S1 n h r=>q _ H' x1 S1 (.lst h (zO R.all n) (S.notZ n) (r.sub fun q hq=>List.mem_cons_of_mem _ hq))⟩⟩
theorem z1P{k:Nat}{fr:List Nat}{scope:Scope}{cl:List (Str × Addr)}{N:List Str}{ifs:List Expr}(ok:CompOk X scope cl N k fr)(hT:∀ i∈T.slots,i < k)(hi:DI X tg iter Fi)
  (hg:∀ C s H ex,DG (compCx X scope cl N C s H ex) tg T) (ht:∀ C s H ex,DIfs (compCx X scope cl N C s H ex) ifs Ft) (he:∀ C s H ex,DE (compCx X scope cl N C s H ex) elt F)
  (hc:X.calm=true:=by rfl) (hs:∀ x,foldedSetIterable iter X.env x=pure x:=by intro _;rfl):DF X (.ListComp elt [⟨tg,iter,ifs,0⟩] scope pos) (fComp k fr Fi T Ft F):=⟨fun Z A pins s σ H Q I zdK=>by
 obtain⟨B,ow,δ,st,ds,st',R,S,e,q⟩:=zdK
 unfold fComp at e
 first | refine bnd2 e fun src s1 e1 e=>?_ | refine mpp2 e fun src s1 e1 e=>?_
 replace e:(if small src=true then compD T Ft F (compDl k fr δ) src s1 else none)=some (ds,st'):=e
 split at e
 ·rename_i hsm
  refine zbd (g:=tDG X.K Z (A++ow.map (·.2)) T) (tt:=tDT X Z (A++ow.map (·.2)) Ft) (te:=tD X Z (A++ow.map (·.2)) F) ok hc (hi Z A) (fun C s H ex=>hg C s H ex Z _) (fun C s H ex=>ht C s H ex Z _) (fun C s H ex=>he C s H ex Z _) hs pins s σ H Q I
   ⟨B,ow,δ,st,src,s1,R,S,e1,fun J H1 x1 S1 sr=>z3D hT (R.mono x1) S1 sr hsm e fun ys H2 x2 S2 rs hl=>⟨hl,fun p hp=>?_⟩⟩
  have hp1:H p=none:=by
   cases e9:H p with
   | none=>rfl
   | some o =>
    have nz:NotZ Z p:=S2.notZ hp
    rw[(x1.trans x2) p o e9 nz]at hp
    cases hp
  exact q p ys _ ((x1.trans x2).trans (Ext.upd hp)) (S2.upd hp) hp1 zk (rs.fresh hp)
 ·cases e⟩
def sSetL(i:Nat)(F:FO):GS:=fun δ s=>(F δ s).map fun p=>(.next (δ.set i (.val (.list p.1))),p.2)
theorem zbo{i:Nat}{x:Str}{py spos:Pos}{k:Nat}{fr:List Nat}{scope:Scope}{cl:List (Str × Addr)}{N:List Str}{ifs:List Expr}(hN:X.N.Nodup)(ok:CompOk X scope cl N k fr)(hT:∀ i∈T.slots,i < k)(hi:DI X tg iter Fi)
  (hg:∀ C s H ex,DG (compCx X scope cl N C s H ex) tg T) (ht:∀ C s H ex,DIfs (compCx X scope cl N C s H ex) ifs Ft) (he:∀ C s H ex,DE (compCx X scope cl N C s H ex) elt F)
  (hsw:swapsWith (.ListComp elt [⟨tg,iter,ifs,0⟩] scope pos) (some (.Name x py)) spos.line X.env=pure true) (hi':X.N[i]?=some x:=by rfl) (hx:Loc X.env.scope x:=by first | exact Or.inl rfl | exact Or.inr rfl)
  (hc:X.calm=true:=by rfl) (hs:∀ x,foldedSetIterable iter X.env x=pure x:=by intro _;rfl) (hf:X.fn x=true\/X.env.scope.names.lookup x=some .local:=by first | exact .inl rfl | exact .inr rfl | assumption) :
  DS X (.Assign [.Name x py] (.ListComp elt [⟨tg,iter,ifs,0⟩] scope pos) spos) (sSetL i (fComp k fr Fi T Ft F)):=⟨fun Z A pins s σ H E I zdL=>by
 obtain⟨ow,δ,st,o,st',R,S,e,q⟩:=zdL
 unfold sSetL at e
 first | refine bnd1 e fun r e0 e=>?_ | refine mpp1 e fun r e0 e=>?_
 cases e
 unfold fComp at e0
 first | refine bnd2 e0 fun src s1 e1 e0=>?_ | refine mpp2 e0 fun src s1 e1 e0=>?_
 replace e0:(if small src=true then compD T Ft F (compDl k fr δ) src s1 else none)=some r:=e0
 split at e0
 ·rename_i hsm
  refine z8t (g:=tDG X.K Z (A++ow.map (·.2)) T) (tt:=tDT X Z (A++ow.map (·.2)) Ft) (te:=tD X Z (A++ow.map (·.2)) F) hN hi' hx ok hc (hi Z A) (fun C s H ex=>hg C s H ex Z _) (fun C s H ex=>ht C s H ex Z _) (fun C s H ex=>he C s H ex Z _) hsw hs hf pins s σ H E I
   ⟨_,ow,δ,st,src,s1,R,S,e1,fun J H1 x1 S1 sr=>z3D (s':=r.2) (rs:=r.1) hT (R.mono x1) S1 sr hsm e0 fun ys H2 x2 S2 rs hl=>⟨hl,fun p hp=>?_⟩⟩
  have R2:=((R.mono x1).mono x2).mono (Ext.upd (o:=.lst ys) hp)
  obtain⟨R3,f3⟩:=R2.set (i:=i) (v:=.ref p) (d:=.list r.1) (.lst zk (zO ((R.mono x1).mono x2).all hp) (S2.notZ hp) (rs.ext (Ext.upd hp)))
  exact q _ _ _ R3 (S2.upd hp) ((Frm.ext ((x1.trans x2).trans (Ext.upd hp))).trans f3)
 ·cases e0⟩
end
end L3
namespace L3
open PySem L2 PySem.Spec PyProof.Rows
section
variable {X:Cx} {a b e:Expr} {es:List Expr} {F Fa Fb:FE} {FL:FA} {x:Str} {p pos:Pos}
def tru:D->Option Bool
 | .none=>some false | .bool k=>some k | .int i=>some (i != 0) | .list xs=>some (!xs.isEmpty) | .tuple xs=>some (!xs.isEmpty) | _=>none
def asT(F:FE):FT:=fun δ s=>(F δ s).bind fun p=>(tru p.1).map fun k=>(k,p.2)
theorem z3g{K:PySem.W.Frag}{Z:Zt}{H:Hp}{A:List Addr}{vs:List V}{ds:List D}(r:Reps K Z H A vs ds):vs.isEmpty=ds.isEmpty:=by
 cases r <;> rfl
theorem z2h(ha:DW X a F)(he:∀ whole,isTrue a X.env whole=(do let v <- whole;standAt a.pos;holding [v] (truthy v)):=by intro _;rfl):DT X a (asT F):=⟨fun Z A=>PT.imp (z9M (ha Z A) he) fun σ H Q zdM=>by
 obtain⟨B,ow,δ,s,k,s',R,S,e,q⟩:=zdM
 unfold asT at e
 cases e1:F δ s with
 | none=>rw[e1]at e;cases e
 | some p =>
  obtain⟨d,s1⟩:=p
  rw[e1]at e
  refine⟨B,ow,δ,s,d,s1,R,S,e1,fun v H1 x1 S1 r=>?_⟩
  cases d with
  | none=>cases e;rw[r.none];exact⟨_,rfl,q H1 x1 S1⟩
  | bool i=>cases e;rw[r.bool];exact⟨_,rfl,q H1 x1 S1⟩
  | int i=>cases e;rw[r.int];exact⟨_,rfl,q H1 x1 S1⟩
  | list ds =>
   cases e
   obtain⟨p,vs,rfl,sq,_,rs⟩:=r.list
   exact⟨_,.inl ⟨vs,sq,by rw[z3g rs]⟩,q H1 x1 S1⟩
  | tuple ds =>
   cases e
   obtain⟨p,vs,rfl,sq,rs⟩:=r.tuple
   exact⟨_,.inr (.inl ⟨vs,sq,by rw[z3g rs]⟩),q H1 x1 S1⟩
  | str _=>cases e
  | dict _=>cases e⟩
def gCatL:G2:=fun a b=>match a,b with | .list xs,.list ys=>if small (xs++ys)=true then some (.list (xs++ys)) else none | _,_=>none
theorem RepW.lst{K:PySem.W.Frag}{Z:Zt}{H:Hp}{A:List Addr}{v:V}{ds:List D}(r:RepW K Z H A v (.list ds)):∃ p vs,v=.ref p/\H p=some (.lst vs)/\NotZ Z p/\Reps K Z H A vs ds:=by
 rcases r with r | ⟨p,vs,ds,e1,e2,e3,e4,e5⟩
 ·cases r with
  | lst h n z q=>exact⟨_,_,rfl,h,z,q⟩
 ·cases e2;exact⟨p,vs,e1,e3,e4,e5⟩
theorem dcat:DOp X (binaryOp .Add) gCatL:=DOp.of zcI fun Z A H st x y dx dy d Q S hA rx ry e q=>by
 unfold gCatL at e
 split at e
 ·split at e
  ·rename_i hs
   cases e
   obtain⟨p1,v1,rfl,h1,_,r1⟩:=rx.lst
   obtain⟨p2,v2,rfl,h2,_,r2⟩:=ry.lst
   have hl:=of_decide_eq_true hs
   rw[List.length_append]at hl
   refine⟨p1,p2,v1,v2,rfl,rfl,h1,h2,by rw[r1.length,r2.length];exact hl,fun p hp=>?_⟩
   exact q _ _ (Ext.upd hp) (S.upd hp) (.lst zk (zO hA hp) (S.notZ hp) ((r1.append r2).ext (Ext.upd hp)))
  ·cases e
 ·cases e
def gAdd:G2:=fun a b=>(gAddI a b).or (gCatL a b)
theorem dadd:DOp X (binaryOp .Add) gAdd:=DOp.or dadd_int dcat
theorem z3s{K:PySem.W.Frag}{vs:List V}{H:Hp}{Q:VK}{E:XK}(h:spD K (fun _ _=>none) vs H Q E):False:=by
 obtain⟨_,_,_,_,_,_,_,_,_,e,_⟩:=h
 cases e
inductive Cal(P:Program)(w:World)(K:PySem.W.Frag)(mg:Str->Option Value)(base:Heap)(x:Str)(ps:List Str)(k:Nat)(g:GF):Prop
 | mk (f:Addr) (fd:FuncData) (h0:FnOk P w K mg base CX0 k f fd ps (spD K g)) (h1:mg x=some (.ref f)) (h2:PySem.W.keepIn K (.ref f)=true) (h3:Binds K fd ps [])
theorem zh{gf:GF}{k k':Nat}{ps:List Str}(C:Cal X.prog X.w X.K X.mg X.base x ps k gf)(hr:Room k' X.A)(ha:DA X (e::es) FL)(hk:k<=k':=by decide)(hg:Gl X x:=by rfl)(hdb:(x == ("__debug__":Str))=false:=by decide)
  (he:starEach (e::es) X.env=(false,eval e X.env)::starEach es X.env:=by rfl) (hpl:(backTo pos (starEach es X.env)).any (·.1)=false:=by rfl):DE X (.Call (.Name x p) (e::es) [] pos) (fCall gf FL):=by
 obtain⟨f,fd,G,hm,hk',hb⟩:=C
 exact zbm G (hr.mono hk) hm hk' hb ha hg hdb he hpl
theorem z3E{names:List (Str × NameKind)}{x:Str}{k:NameKind}(h:names.lookup x=some k):∃ y∈names,y.2=k:=by
 induction names with
 | nil=>cases h
 | cons y r ih =>
  rw[List.lookup_cons]at h
  split at h
  ·cases h;exact⟨y,List.mem_cons_self,rfl⟩
  ·obtain⟨z,hz,e⟩:=ih h
   exact⟨z,List.mem_cons_of_mem _ hz,e⟩
theorem compOk0{scope:Scope}{N:List Str}{k:Nat}(kind:scope.kind=.function)(nocell:∀ y∈scope.names,y.2≠.cell)(nofree:∀ y∈scope.names,y.2≠.free)(names:∀ y∈scope.names,y.2=.local->scope.names.lookup y.1=some .local)(len:N.length=k):CompOk X scope [] N k [] where
 kind:=kind
 nocell:=nocell
 names:=names
 clos:=closureFor_none nofree
 sub:=fun x c h=>nomatch h
 has:=fun x h=>by
  have e:(relabel scope X.env).names=scope.names:=by
   unfold relabel
   refine map_eq_self fun y hy=>?_
   obtain⟨n,kk⟩:=y
   have:=nofree _ hy
   cases kk <;> first | rfl | exact absurd rfl this
  rw[e]at h
  rcases h with h | h
  ·obtain⟨y,hy,ey⟩:=z3E h;exact absurd ey (nocell y hy)
  ·obtain⟨y,hy,ey⟩:=z3E h;exact absurd ey (nofree y hy)
 len:=by rw[len];rfl
 free:=fun t j x h=>nomatch h
end
end L3
namespace L3
open PySem L2 PySem.Spec PyProof.Rows
theorem zeM:¬ (("cells":Str)="turn"):=by decide +kernel
theorem zaJ:¬ ((Sum.inr ("cells":Str):Key)=Sum.inr ("turn":Str)):=fun e=>zeM (Sum.inr.inj e)
theorem z8H(c:Addr)(t:Int):valV (stDict c t) (Sum.inr "turn":Key)=some (.int t):=by
 unfold stDict
 rw[z3r zaJ,z2H rfl]
theorem z4w(c:Addr)(t:Int):valV (stDict c t) (Sum.inr "cells":Key)=some (.ref c):=by
 unfold stDict
 rw[z2H rfl]
theorem zcR(c:Addr)(t u:Int):putK (stDict c t) (Sum.inr "turn":Key) (.int u)=stDict c u:=by
 have e:((stDict c t).any fun kv=>decide (kv.1=(Sum.inr "turn":Key)))=true:=by rw[z4r,z8H];rfl
 unfold putK
 rw[if_pos e]
 unfold stDict
 simp only[List.map_cons,List.map_nil,if_neg zaJ,if_true]
section
variable {X:Cx}
theorem z5s:CallR X (.builtin "divmod") (fun xs H Q=>∃ i j,xs=[.int i,.int j]/\divOk i j=true/\∀ p,H p=none->Q (.ref p) (upd H p (.tup [.int (i.fdiv j),.int (i.fmod j)]))):=by
 intro pins s σ H xs us Q I r h
 obtain⟨i,j,rfl,hd,q⟩:=h
 obtain⟨u,w',rfl,⟨t,rfl⟩,⟨t',rfl⟩⟩:=vals2 r
 have hd':(decide (j≠0) && decide (j.natAbs.log2 < 9000))=true:=hd
 rw[Bool.and_eq_true]at hd'
 refine divmod_int (of_decide_eq_true hd'.1) ?_ (.inl (PyProof.noPylong_of_log2 (of_decide_eq_true hd'.2)))
 have hn:H s.heap.objs.size=none:=I.hok.fresh (Nat.le_refl _)
 refine⟨.ref s.heap.objs.size,_,?_,rfl,q _ hn⟩
 refine I.laid (fun b o e=>Heap.get?_push_of_some _ e) (Nat.le_refl _) ⟨by show 2<=sizeLine;decide,[.int (i.fdiv j) s.toks,.int (i.fmod j) (s.toks + 1)],.cons ⟨_,rfl⟩ (.cons ⟨_,rfl⟩ .nil),?_⟩
 exact⟨_,Heap.get?_push_size s.heap rfl,rfl,0,rfl⟩
end
def mix1(cell t:Int):Int:=((cell.fmod 2147483629 + t * t * 7919 + 11) * 48271).fmod 2147483647
def mix2(cell t:Int):Int:=(mix1 cell t * mix1 cell t).fmod 2147483587
def mix(cell t many:Int):Int:=((((mix2 cell t + t * 104729) * 39373).fmod 2147483629).fdiv 64).fmod many
def takeOk(s:Sx)(many:Int):Bool:=decide (0 < many) && decide (many.natAbs.log2 < 9000) && decide (0<=s.2) && decide (s.2 < 1000000) && decide (0 < s.1.length) && decide (s.1.length<=1000)
def plcOf(s:Sx):Nat:=((s.2 + 1).fmod s.1.length).toNat
def celOf(s:Sx):Int:=s.1.getD (plcOf s) 0
def takeF(s:Sx)(many:Int):D × Sx :=
 if 1000000000000000000<=celOf s then (.int ((celOf s).fmod many),(s.1.set (plcOf s) ((celOf s).fdiv many),s.2 + 1))
 else (.int (mix (celOf s) (s.2 + 1) many),(s.1,s.2 + 1))
def zf:GF:=fun ds s=>match ds with
 | [.dict [],.int many]=>if takeOk s many=true then some (takeF s many) else none
 | _=>none
def Good(n:Nat)(s:Sx):Prop:=0 < s.1.length/\s.1.length<=63/\0<=s.2/\s.2 + n < 1000000
theorem Good.mono{n m:Nat}{s:Sx}(h:Good n s)(hm:m<=n):Good m s:=⟨h.1,h.2.1,h.2.2.1,by have:=h.2.2.2;omega⟩
theorem z8I{s:Sx}{many:Int}{n:Nat}(h:Good (n + 1) s)(h1:0 < many)(h2:many < 2 ^ 100):∃ r s',zf [.dict [],.int many] s=some (.int r,s')/\0<=r/\r < many/\Good n s':=by
 obtain⟨a,b,c,d⟩:=h
 have e:takeOk s many=true:=by
  unfold takeOk
  have:many.natAbs.log2 < 9000:=by
   have hm:many.natAbs≠0:=by omega
   rw[Nat.log2_lt hm]
   calc many.natAbs < 2 ^ 100:=by omega
    _<=2 ^ 9000:=Nat.pow_le_pow_right (by decide) (by decide)
  simp only[Bool.and_eq_true,decide_eq_true_eq]
  exact⟨⟨⟨⟨⟨h1,this⟩,c⟩,by omega⟩,a⟩,by omega⟩
 have e2:zf [.dict [],.int many] s=some (takeF s many):=by
  show(if takeOk s many=true then some (takeF s many) else none)=_
  rw[if_pos e]
 rw[e2]
 unfold takeF
 split
 ·refine⟨_,_,rfl,?_,?_,?_⟩
  ·rw[Int.fmod_eq_emod_of_nonneg _ (Int.le_of_lt h1)];exact Int.emod_nonneg _ (by omega)
  ·rw[Int.fmod_eq_emod_of_nonneg _ (Int.le_of_lt h1)];exact Int.emod_lt_of_pos _ h1
  ·exact⟨by simpa using a,by simpa using b,by show 0<=s.2 + 1;omega,by show s.2 + 1 + (n:Int) < 1000000;omega⟩
 ·refine⟨_,_,rfl,?_,?_,?_⟩
  ·unfold mix;rw[Int.fmod_eq_emod_of_nonneg _ (Int.le_of_lt h1)];exact Int.emod_nonneg _ (by omega)
  ·unfold mix;rw[Int.fmod_eq_emod_of_nonneg _ (Int.le_of_lt h1)];exact Int.emod_lt_of_pos _ h1
  ·exact⟨a,b,by show 0<=s.2 + 1;omega,by show s.2 + 1 + (n:Int) < 1000000;omega⟩
def Bt(n:Nat)(i:Int):Prop:=i.natAbs < 2 ^ n
theorem Bt.mono{n m:Nat}{i:Int}(h:Bt n i)(hm:n<=m):Bt m i:=Nat.lt_of_lt_of_le h (Nat.pow_le_pow_right (by decide) hm)
theorem Bt.mul{n m:Nat}{i j:Int}(h:Bt n i)(h2:Bt m j):Bt (n + m) (i * j):=by
 unfold Bt at *
 rw[Int.natAbs_mul,Nat.pow_add]
 exact Nat.mul_lt_mul'' h h2
theorem Bt.add{n m:Nat}{i j:Int}(h:Bt n i)(h2:Bt m j):Bt (max n m + 1) (i + j):=by
 have h1':=h.mono (Nat.le_max_left n m)
 have h2':=h2.mono (Nat.le_max_right n m)
 unfold Bt at *
 have:=Int.natAbs_add_le i j
 rw[Nat.pow_succ];omega
theorem Bt.neg{n:Nat}{i:Int}(h:Bt n i):Bt n (-i):=by unfold Bt at *;rwa [Int.natAbs_neg]
theorem Bt.sub{n m:Nat}{i j:Int}(h:Bt n i)(h2:Bt m j):Bt (max n m + 1) (i - j):=by rw[Int.sub_eq_add_neg];exact h.add h2.neg
theorem Bt.lit{n:Nat}{i:Int}(h:decide (i.natAbs < 2 ^ n)=true):Bt n i:=by unfold Bt;exact of_decide_eq_true h
theorem Bt.fmod{n:Nat}{i j:Int}(hj:0 < j)(h:Bt n j):Bt n (i.fmod j):=by
 unfold Bt at *
 rw[Int.fmod_eq_emod_of_nonneg _ (Int.le_of_lt hj)]
 have:=Int.emod_nonneg i (show j≠0 by omega)
 have:=Int.emod_lt_of_pos i hj
 omega
theorem Bt.ok{n m:Nat}{i j:Int}(h:Bt n i)(h2:Bt m j)(hs:n + m<=134217728):mulOk i j=true:=by
 refine decide_eq_true (Nat.le_trans (Nat.add_le_add ?_ ?_) hs)
 ·exact PySem.intBits_le_iff.mpr h
 ·exact PySem.intBits_le_iff.mpr h2
theorem Bt.div{n:Nat}{i j:Int}(h:Bt n j)(h0:j≠0)(hn:n<=9000):divOk i j=true:=by
 unfold divOk
 simp only[Bool.and_eq_true,decide_eq_true_eq]
 refine⟨h0,?_⟩
 rw[Nat.log2_lt (by omega)]
 exact Nat.lt_of_lt_of_le h (Nat.pow_le_pow_right (by decide) hn)
def z6i:GS:=sSeq (sSet 6 (f2 gModI (f2 gMulI (f2 gAddI (f2 gAddI (f2 gModI (fVar 4) (fC (.int 2147483629))) (f2 gMulI (f2 gMulI (fVar 2) (fVar 2)) (fC (.int 7919)))) (fC (.int 11))) (fC (.int 48271))) (fC (.int 2147483647))))
 (sSeq (sSet 6 (f2 gModI (f2 gMulI (fVar 6) (fVar 6)) (fC (.int 2147483587))))
 (sRet (f2 gModI (f2 gDivI (f2 gModI (f2 gMulI (f2 gAddI (fVar 6) (f2 gMulI (fVar 2) (fC (.int 104729)))) (fC (.int 39373))) (fC (.int 2147483629))) (fC (.int 64))) (fVar 1))))
theorem z8J{cell t many:Int}{s:Sx}(h0:0<=t)(h1:t<=1000000)(hm:0 < many):z6i [.non,.val (.int many),.val (.int t),.non,.val (.int cell),.non,.non] s=some (.ret (.int (mix cell t many)),s):=by
 have b1:Bt 20 t:=by unfold Bt;omega
 have b2:Bt 31 (cell.fmod 2147483629):=Bt.fmod (by decide) (.lit (by decide))
 have b3:Bt 31 (mix1 cell t):=Bt.fmod (by decide) (.lit (by decide))
 have b4:Bt 31 (mix2 cell t):=Bt.fmod (by decide) (.lit (by decide))
 have m1:mulOk t t=true:=b1.ok b1 (by decide)
 have m2:mulOk (t * t) 7919=true:=(b1.mul b1).ok (n:=40) (m:=13) (.lit (by decide)) (by decide)
 have b5:Bt 60 (cell.fmod 2147483629 + t * t * 7919 + 11):=((b2.add ((b1.mul b1).mul (.lit (n:=13) (by decide)))).add (.lit (n:=4) (by decide))).mono (by decide)
 have m3:mulOk (cell.fmod 2147483629 + t * t * 7919 + 11) 48271=true:=b5.ok (m:=16) (.lit (by decide)) (by decide)
 have m4:mulOk (mix1 cell t) (mix1 cell t)=true:=b3.ok b3 (by decide)
 have m5:mulOk t 104729=true:=b1.ok (m:=17) (.lit (by decide)) (by decide)
 have m6:mulOk (mix2 cell t + t * 104729) 39373=true:=(b4.add (b1.mul (.lit (n:=17) (by decide)))).ok (m:=16) (.lit (by decide)) (by decide)
 have d1:divOk (((mix2 cell t + t * 104729) * 39373).fmod 2147483629) 64=true:=Bt.div (n:=7) (.lit (by decide)) (by decide) (by decide)
 have n1:decide (many≠0)=true:=decide_eq_true (by omega)
 have e1:∀ (δ:Sl),δ[4]?=some (.val (.int cell))->δ[2]?=some (.val (.int t))->sSet 6 (f2 gModI (f2 gMulI (f2 gAddI (f2 gAddI (f2 gModI (fVar 4) (fC (.int 2147483629))) (f2 gMulI (f2 gMulI (fVar 2) (fVar 2)) (fC (.int 7919)))) (fC (.int 11))) (fC (.int 48271))) (fC (.int 2147483647))) δ s=some (.next (δ.set 6 (.val (.int (mix1 cell t)))),s):=fun δ h4 h2=>by
  simp[sSet,f2,fVar,fC,h4,h2,gModI,gMulI,gAddI,gI,m1,m2,m3,mix1]
 have e2:∀ (δ:Sl),δ[6]?=some (.val (.int (mix1 cell t)))->sSet 6 (f2 gModI (f2 gMulI (fVar 6) (fVar 6)) (fC (.int 2147483587))) δ s=some (.next (δ.set 6 (.val (.int (mix2 cell t)))),s):=fun δ h6=>by
  simp[sSet,f2,fVar,fC,h6,gModI,gMulI,gI,m4,mix2]
 have e3:∀ (δ:Sl),δ[6]?=some (.val (.int (mix2 cell t)))->δ[2]?=some (.val (.int t))->δ[1]?=some (.val (.int many))->sRet (f2 gModI (f2 gDivI (f2 gModI (f2 gMulI (f2 gAddI (fVar 6) (f2 gMulI (fVar 2) (fC (.int 104729)))) (fC (.int 39373))) (fC (.int 2147483629))) (fC (.int 64))) (fVar 1)) δ s=some (.ret (.int (mix cell t many)),s):=fun δ h6 h2 h1=>by
  have n2:¬ many=0:=by omega
  simp[sRet,f2,fVar,fC,h6,h2,h1,gModI,gMulI,gAddI,gDivI,gI,m5,m6,d1,n2,mix]
 unfold z6i sSeq
 rw[e1 _ rfl rfl]
 show(match sSet 6 _ _ s with | some (.next δ',s')=>_ | r=>r)=_
 rw[e2 _ rfl]
 exact e3 _ rfl rfl rfl
def beginCells(ns:List Int):List Int:=if ns=[] then [7] else ns
def spBegin(K:PySem.W.Frag):Sp:=fun vs H Q _=>∃ a ns,vs=[.ref a]/\SqL K H a (ns.map V.int)/\ns.length<=63 /\
 ∀ st c H',(∀ b o,H b=some o->H' b=some o)->H' st=some (.dK (stDict c 0))->H' c=some (.lst ((beginCells ns).map V.int))->Q (.ref st) H'
end L3
namespace L3
open PySem L2 PySem.Spec PyProof.Rows
theorem DSs.any{X:Cx}{sts:List Stmt}{G:GS}(h:DSs X sts G):PSs X sts (fun E σ H=>∃ Z A,tDS X Z A G E σ H):=fun pins s σ H D I zdN=>(by obtain⟨Z,A,q⟩:=zdN;exact h Z A pins s σ H D I q)
theorem DS.at0{X:Cx}{st:Stmt}{G:GS}(h:DS X st G):PS X st (tDS X none [] G):=h none []
theorem z5t(K:PySem.W.Frag)(Z:Zt)(H:Hp)(A:List Addr):∀ ns:List Int,Reps K Z H A (ns.map V.int) (ns.map PyData.int)
 | []=>.nil
 | n::r=>.cons (.int n) (z5t K Z H A r)
theorem z3h{K:PySem.W.Frag}{Z:Zt}{H:Hp}{A:List Addr}:∀ {ns:List Int} {vs:List V},Reps K Z H A vs (ns.map PyData.int)->vs=ns.map V.int
 | [],_,.nil=>rfl
 | n::r,_,.cons h t=>by cases h;rw[z3h t];rfl
theorem z76:∀ ns:List Int,PyData.canLayAll0 (ns.map PyData.int)=true
 | []=>by simp[PyData.canLayAll0]
 | n::r=>by simp[PyData.canLayAll0,PyData.canLay0,z76 r]
theorem z4a:∀ ns:List Int,PyData.depthAll (ns.map PyData.int)=0
 | []=>by simp[PyData.depthAll]
 | n::r=>by simp[PyData.depthAll,PyData.depth,z4a r]
theorem z6j(ns:List Int):SeqAt.shaped (.list (ns.map PyData.int))=true:=by
 simp[SeqAt.shaped,PyData.canLay0,PyData.depth,z76,z4a]
theorem z4b:SeqAt.shaped (.list [])=true:=by simp[SeqAt.shaped,PyData.canLay0,PyData.depth,PyData.canLayAll0,PyData.depthAll]
theorem zbp(ns:List Int):PyData.eqv (.list (ns.map PyData.int)) (.list [])=decide (ns=[]):=by
 cases ns <;> simp[PyData.eqv,PyData.eqvAll]
def z6k:GS:=sIf (asB (f2 gEq (fVar 1) (eLst aNil))) (sSet 1 (eLst (aCons (fC (.int 7)) aNil))) sNext
theorem z8K(ns:List Int)(s:Sx)(c:Ce):z6k [c,.val (.list (ns.map PyData.int))] s=some (.next [c,.val (.list ((beginCells ns).map PyData.int))],s):=by
 have e1:small []=true:=by decide
 have e2:small [PyData.int 7]=true:=by decide
 simp only[z6k,sIf,asB,f2,fVar,eLst,aNil,aCons,fC,List.getElem?_cons_succ,List.getElem?_cons_zero,Option.bind_some,Option.map_some,e1,if_true,gEq,z6j,z4b,Bool.and_self,zbp]
 by_cases h:ns=[]
 ·subst h
  simp[sSet,eLst,aCons,aNil,fC,e2,beginCells]
 ·simp[h,sNext,beginCells]
end L3
namespace L3
open PySem L2 PySem.Spec PyProof.Rows
def spLaw(K:PySem.W.Frag):Sp:=fun vs H Q _=>∃ (a:Addr) (ns:List Int),vs=[.ref a]/\SqL K H a (ns.map V.int)/\ns.length<=63/\∀ H',Q (.bl true) H'
theorem z5u(ns:List Int)(h:ns.length<=63):0 < (beginCells ns).length/\(beginCells ns).length<=63:=by
 unfold beginCells
 split
 ·exact⟨by decide,by decide⟩
 ·rename_i hn
  exact⟨by cases ns with | nil=>exact absurd rfl hn | cons a r=>simp,h⟩
end L3
namespace L3
open PySem L2 PySem.Spec PyProof.Rows
theorem euclid{Ft:FT}{G:GS}{s:Sx}(mk:Nat->Nat->Sl)(t0:∀ a,Ft (mk a 0) s=some (false,s))(t1:∀ a b,0 < b->Ft (mk a b) s=some (true,s))(g:∀ a b,0 < b->G (mk a b) s=some (.next (mk b (a % b)),s)) :
  ∀ (k a b:Nat),b < 2 ^ k->whileN Ft G (2 * k + 1) (mk a b) s=some (.next (mk (Nat.gcd a b) 0),s):=by
 have zero:∀ n a,whileN Ft G (n + 1) (mk a 0) s=some (.next (mk a 0),s):=fun n a=>by
  unfold whileN
  rw[t0];rfl
 have one:∀ n a b,0 < b->whileN Ft G (n + 1) (mk a b) s=whileN Ft G n (mk b (a % b)) s:=fun n a b hb=>by
  rw[whileN.eq_2,t1 a b hb]
  show(match G (mk a b) s with | some (.next δ',s')=>whileN Ft G n δ' s' | some (.cnt δ',s')=>whileN Ft G n δ' s' | some (.brk δ',s')=>some (.next δ',s') | some (.ret d,s')=>some (.ret d,s') | some (.own d,s')=>some (.own d,s') | none=>none)=_
  rw[g a b hb]
 intro k
 induction k with
 | zero =>
  intro a b hb
  have e:b=0:=by simpa using hb
  subst e
  rw[zero,Nat.gcd_zero_right]
 | succ k ih =>
  intro a b hb
  by_cases h0:b=0
  ·subst h0;rw[show 2 * (k + 1) + 1=(2 * k + 2) + 1 by omega,zero,Nat.gcd_zero_right]
  ·have hb0:0 < b:=by omega
   rw[show 2 * (k + 1) + 1=(2 * k + 2) + 1 by omega,one _ _ _ hb0]
   by_cases h1:a % b=0
   ·rw[h1,show 2 * k + 2=(2 * k + 1) + 1 by omega,zero]
    have:Nat.gcd a b=b:=by rw[Nat.gcd_comm,Nat.gcd_rec,h1,Nat.gcd_zero_left]
    rw[this]
   ·have hr:0 < a % b:=by omega
    rw[show 2 * k + 2=(2 * k + 1) + 1 by omega,one _ _ _ hr,ih]
    ·have e1:Nat.gcd a b=Nat.gcd b (a % b):=by rw[Nat.gcd_comm a b,Nat.gcd_rec b a,Nat.gcd_comm]
     have e2:Nat.gcd b (a % b)=Nat.gcd (a % b) (b % (a % b)):=by rw[Nat.gcd_comm b (a % b),Nat.gcd_rec (a % b) b,Nat.gcd_comm]
     rw[e1,e2]
    ·have l1:a % b < b:=Nat.mod_lt _ hb0
     have l2:b % (a % b) < a % b:=Nat.mod_lt _ hr
     have l3:a % b + b % (a % b)<=b:=by
      have:=Nat.div_add_mod b (a % b)
      have h1:1<=b / (a % b):=Nat.div_pos (Nat.le_of_lt l1) hr
      have h2:a % b * 1<=a % b * (b / (a % b)):=Nat.mul_le_mul_left _ h1
      omega
     rw[Nat.pow_succ]at hb
     omega
theorem euclidF{Ft:FT}{G:GS}{s:Sx}(mk:Nat->Nat->Sl)(t0:∀ a,Ft (mk a 0) s=some (false,s))(t1:∀ a b,0 < b->Ft (mk a b) s=some (true,s))(g:∀ a b,0 < b->G (mk a b) s=some (.next (mk b (a % b)),s))
  {k a b:Nat} (hb:b < 2 ^ k) (hk:k<=100000):sWhile Ft G (mk a b) s=some (.next (mk (Nat.gcd a b) 0),s):=z06 (euclid mk t0 t1 g k a b hb) (by unfold fuel;omega)
def sgn(b:Int):Int:=if b < 0 then -1 else 1
def numT(t b:Int):Int:=(sgn b * t).fdiv (Int.gcd t b)
def numB(t b:Int):Int:=(sgn b * b).fdiv (Int.gcd t b)
def num(t b:Int):D:=.tuple [.int (numT t b),.int (numB t b)]
theorem z5v(t g:Int):t.fdiv (-g)=(-t).fdiv g:=by
 have:=Int.neg_fdiv_neg (-t) g
 rw[Int.neg_neg]at this
 exact this
theorem z2Z{t b:Int}(hb:b≠0):0 < (Int.gcd t b:Int):=by
 have:0 < Int.gcd t b:=Int.gcd_pos_of_ne_zero_right t hb
 omega
theorem z1s{t b:Int}(hb:b≠0):∃ t' b',t=(Int.gcd t b:Int) * t'/\b=(Int.gcd t b:Int) * b'/\numT t b=sgn b * t'/\numB t b=sgn b * b'/\Int.gcd t' b'=1:=by
 obtain⟨t',e1⟩:=Int.gcd_dvd_left (a:=t) (b:=b)
 obtain⟨b',e2⟩:=Int.gcd_dvd_right (a:=t) (b:=b)
 have hg:=z2Z (t:=t) hb
 refine⟨t',b',e1,e2,?_,?_,?_⟩
 ·unfold numT
  have:sgn b * t=(Int.gcd t b:Int) * (sgn b * t'):=by
   calc sgn b * t=sgn b * ((Int.gcd t b:Int) * t'):=by rw[<- e1]
    _=(Int.gcd t b:Int) * (sgn b * t'):=by rw[<- Int.mul_assoc,<- Int.mul_assoc,Int.mul_comm (sgn b)]
  rw[this,Int.mul_fdiv_cancel_left _ (by omega)]
 ·unfold numB
  have:sgn b * b=(Int.gcd t b:Int) * (sgn b * b'):=by
   calc sgn b * b=sgn b * ((Int.gcd t b:Int) * b'):=by rw[<- e2]
    _=(Int.gcd t b:Int) * (sgn b * b'):=by rw[<- Int.mul_assoc,<- Int.mul_assoc,Int.mul_comm (sgn b)]
  rw[this,Int.mul_fdiv_cancel_left _ (by omega)]
 ·have h:=Int.gcd_mul_left (Int.gcd t b:Int) t' b'
  rw[<- e1,<- e2]at h
  have hgn:0 < Int.gcd t b:=by omega
  have h2:((Int.gcd t b:Int)).natAbs=Int.gcd t b:=by omega
  rw[h2]at h
  exact Nat.eq_of_mul_eq_mul_left hgn (by rw[Nat.mul_one];exact h.symm)
end L3
namespace L3
open PySem L2 PySem.Spec PyProof.Rows
theorem z4x(b:Int):(sgn b).natAbs=1:=by unfold sgn;split <;> rfl
theorem z3t{t b:Int}(hb:b≠0):0 < numB t b:=by
 obtain⟨t',b',e1,e2,e3,e4,e5⟩:=z1s (t:=t) hb
 have hg:=z2Z (t:=t) hb
 rw[e4]
 generalize (Int.gcd t b:Int)=g at *
 subst e2
 unfold sgn
 split
 ·rename_i h
  have:b' < 0:=by
   by_cases q:b' < 0
   ·exact q
   ·exact absurd h (Int.not_lt.mpr (Int.mul_nonneg (Int.le_of_lt hg) (Int.not_lt.mp q)))
  omega
 ·rename_i h
  have:b'≠0:=fun z=>by subst z;exact hb (Int.mul_zero _)
  have:0<=b':=by
   by_cases q:b' < 0
   ·exact absurd (Int.mul_neg_of_pos_of_neg hg q) h
   ·exact Int.not_lt.mp q
  omega
theorem z4y{t b:Int}(hb:b≠0):Int.gcd (numT t b) (numB t b)=1:=by
 obtain⟨t',b',e1,e2,e3,e4,e5⟩:=z1s (t:=t) hb
 rw[e3,e4,Int.gcd_mul_left,e5,z4x]
theorem z8L(i:Int):(if i < 0 then -i else i)=(i.natAbs:Int):=by split <;> omega
theorem z4z(a b:Nat):((a:Int)).fmod (b:Int)=((a % b:Nat):Int):=by
 rw[Int.fmod_eq_emod_of_nonneg _ (Int.natCast_nonneg b)];rfl
theorem Bt.gcd{n:Nat}{a b:Int}(h:Bt n b)(hb:b≠0):Bt n (Int.gcd a b:Int):=by
 unfold Bt at *
 have h1:Int.gcd a b∣b.natAbs:=Nat.gcd_dvd_right a.natAbs b.natAbs
 have:=Nat.le_of_dvd (by omega) h1
 omega
theorem Bt.fdiv{n:Nat}{a b:Int}(h:Bt n a):Bt n (a.fdiv b):=Nat.lt_of_le_of_lt (PySem.natAbs_fdiv_le a b) h
theorem Bt.sgn{n:Nat}{a b:Int}(h:Bt n a):Bt n (L3.sgn b * a):=by unfold Bt at *;rw[Int.natAbs_mul,z4x,Nat.one_mul];exact h
theorem Bt.numT{n:Nat}{t b:Int}(h:Bt n t):Bt n (L3.numT t b):=Bt.fdiv h.sgn
theorem Bt.numB{n:Nat}{t b:Int}(h:Bt n b):Bt n (L3.numB t b):=Bt.fdiv h.sgn
end L3
namespace L3
open PySem L2 PySem.Spec PyProof.Rows
section
variable {X:Cx} {e:Expr} {Fa F:FE} {x:Str} {p pos apos cpos:Pos}
def bitsOf(i:Int):Int:=(Builtin.Int.intBits i:Int)
def gBits:G1:=fun d=>match d with | .int i=>some (.int (bitsOf i)) | _=>none
theorem zbq:MtR X "int.bit_length" (fun x xs H Q=>∃ i,x=.int i/\xs=[]/\Q (.int (bitsOf i)) H):=by
 intro pins s σ H x xs v us Q I rx rv ⟨i,e1,e2,q⟩
 subst e1 e2
 cases rv
 obtain⟨t,rfl⟩:=rx
 exact call_int_bit_length ⟨.int _,H,I.tok _,⟨_,rfl⟩,q⟩
theorem zbr(ha:DW X e Fa)(hbase:attributeBase e "bit_length" X.env (eval e X.env)=eval e X.env:=by rfl)(hline:(apos.endLine == cpos.line)=true:=by rfl):DE X (.Call (.Attribute e "bit_length" apos) [] [] cpos) (f1 gBits Fa):=⟨fun Z A=>PE.imp (z6Y PySem.F.plainAttrs_int slot_int_bit_length type_int_bit_length zbq (ha Z A) hbase hline) fun σ H Q zdO=>by
  obtain⟨B,ow,δ,s,d,s',R,S,e,q⟩:=zdO
  unfold f1 at e
  first | refine bnd2 e fun dx s1 e1 e=>?_ | refine mpp2 e fun dx s1 e1 e=>?_
  cases dx <;> first | (cases e;done) | skip
  cases e
  refine⟨B,ow,δ,s,_,_,R,S,e1,fun v H' x1 S1 r=>?_⟩
  cases r.int
  exact⟨rfl,_,rfl,rfl,q _ H' x1 S1 (.int _)⟩⟩
theorem zbs{i:Int}{t:Nat}(hm:X.mg x=some (.int i t))(hg:Gl X x:=by rfl)(hdb:(x == ("__debug__":Str))=false:=by decide):DE X (.Name x pos) (fC (.int i)) :=
 z2M (zb0 (v:=.int i) hg hm ⟨t,rfl⟩ hdb) fun _ _ _ _=>.int i
end
end L3
namespace L3
open PySem L2 PySem.Spec PyProof.Rows
theorem z1t{a b c:Int}(h:a∣b * c)(hc:Int.gcd a b=1):a∣c:=by
 have h':a.natAbs∣b.natAbs * c.natAbs:=by rw[<- Int.natAbs_mul];exact Int.natAbs_dvd_natAbs.mpr h
 exact Int.natAbs_dvd_natAbs.mp (Nat.Coprime.dvd_of_dvd_mul_left hc h')
theorem z4c{T B p q:Int}(hB:B≠0)(hq:0 < q)(hc:Int.gcd p q=1)(h:p * B=T * q):numT T B=p/\numB T B=q:=by
 obtain⟨t',b',e1,e2,e3,e4,e5⟩:=z1s (t:=T) hB
 have hg:=z2Z (t:=T) hB
 have hp:=z3t (t:=T) hB
 have hn:=z4y (t:=T) hB
 have hx:p * numB T B=numT T B * q:=by
  rw[e3,e4]
  have hgz:(Int.gcd T B:Int)≠0:=by omega
  have h1:(Int.gcd T B:Int) * (p * b')=(Int.gcd T B:Int) * (t' * q):=by
   have:p * ((Int.gcd T B:Int) * b')=((Int.gcd T B:Int) * t') * q:=by rw[<- e1,<- e2];exact h
   rw[Int.mul_left_comm,this,Int.mul_assoc]
  have h2:=Int.eq_of_mul_eq_mul_left hgz h1
  rw[Int.mul_left_comm,h2,Int.mul_assoc]
 have d1:numB T B∣q:=by
  have hd:numB T B∣numT T B * q:=⟨p,by rw[<- hx,Int.mul_comm]⟩
  exact z1t hd (by rw[Int.gcd_comm];exact hn)
 have d2:q∣numB T B:=by
  have hd:q∣p * numB T B:=⟨numT T B,by rw[hx,Int.mul_comm]⟩
  exact z1t hd (by rw[Int.gcd_comm];exact hc)
 have eq:numB T B=q:=Int.dvd_antisymm (Int.le_of_lt hp) (Int.le_of_lt hq) d1 d2
 refine⟨?_,eq⟩
 rw[eq]at hx
 exact(Int.eq_of_mul_eq_mul_right (by omega) hx).symm
theorem zcS{T B p q:Int}(hB:B≠0)(hq:0 < q)(hc:Int.gcd p q=1)(h:p * B=T * q):num T B=.tuple [.int p,.int q]:=by
 obtain⟨e1,e2⟩:=z4c hB hq hc h
 unfold num;rw[e1,e2]
theorem z5w{T B:Int}(hB:B≠0):numT T B * B=T * numB T B:=by
 obtain⟨t',b',e1,e2,e3,e4,e5⟩:=z1s (t:=T) hB
 rw[e3,e4]
 generalize (Int.gcd T B:Int)=g at *
 subst e1 e2
 simp only[Int.mul_assoc,Int.mul_comm,Int.mul_left_comm]
theorem z4A{a b c:Int}(h1:Int.gcd a b=1)(h2:Int.gcd a c=1):Int.gcd a (b * c)=1:=by
 unfold Int.gcd at *
 rw[Int.natAbs_mul]
 exact Nat.Coprime.mul_right h1 h2
theorem z4B{a b c:Int}(h1:Int.gcd a c=1)(h2:Int.gcd b c=1):Int.gcd (a * b) c=1:=by
 rw[Int.gcd_comm];exact z4A (by rw[Int.gcd_comm];exact h1) (by rw[Int.gcd_comm];exact h2)
theorem z77{a b a' b':Int}(h:Int.gcd a b=1)(ha:a'∣a)(hb:b'∣b):Int.gcd a' b'=1:=by
 unfold Int.gcd at *
 exact Nat.Coprime.coprime_dvd_left (Int.natAbs_dvd_natAbs.mpr ha) (Nat.Coprime.coprime_dvd_right (Int.natAbs_dvd_natAbs.mpr hb) h)
theorem z78{t b:Int}(hb:b≠0):numT t b∣t:=by
 obtain⟨t',b',e1,e2,e3,e4,e5⟩:=z1s (t:=t) hb
 rw[e3]
 refine⟨(Int.gcd t b:Int) * sgn b,?_⟩
 have:sgn b * sgn b=1:=by unfold sgn;split <;> rfl
 calc t=(Int.gcd t b:Int) * t':=e1
  _=(sgn b * sgn b) * ((Int.gcd t b:Int) * t'):=by rw[this,Int.one_mul]
  _=sgn b * t' * ((Int.gcd t b:Int) * sgn b):=by simp only[Int.mul_assoc,Int.mul_comm,Int.mul_left_comm]
theorem z79{t b:Int}(hb:b≠0):numB t b∣b:=by
 obtain⟨t',b',e1,e2,e3,e4,e5⟩:=z1s (t:=t) hb
 rw[e4]
 refine⟨(Int.gcd t b:Int) * sgn b,?_⟩
 have:sgn b * sgn b=1:=by unfold sgn;split <;> rfl
 calc b=(Int.gcd t b:Int) * b':=e2
  _=(sgn b * sgn b) * ((Int.gcd t b:Int) * b'):=by rw[this,Int.one_mul]
  _=sgn b * b' * ((Int.gcd t b:Int) * sgn b):=by simp only[Int.mul_assoc,Int.mul_comm,Int.mul_left_comm]
theorem z8M{a b c d:Int}(hb:0 < b)(hd:d≠0)(h1:Int.gcd a b=1)(h2:Int.gcd c d=1) :
  numT a d * numT c b=numT (a * c) (b * d)/\numB a d * numB c b=numB (a * c) (b * d):=by
 have hb0:b≠0:=by omega
 have p1:=z3t (t:=a) hd
 have p2:=z3t (t:=c) hb0
 have c1:=z4y (t:=a) hd
 have c2:=z4y (t:=c) hb0
 have x1:=z5w (T:=a) hd
 have x2:=z5w (T:=c) hb0
 have k1:Int.gcd (numT a d) (numB c b)=1:=z77 h1 (z78 hd) (z79 hb0)
 have k2:Int.gcd (numT c b) (numB a d)=1:=z77 h2 (z78 hb0) (z79 hd)
 have res:=z4c (T:=a * c) (B:=b * d) (p:=numT a d * numT c b) (q:=numB a d * numB c b)
  (Int.mul_ne_zero hb0 hd) (Int.mul_pos p1 p2) (z4B (z4A c1 k1) (z4A k2 c2)) (by
   calc numT a d * numT c b * (b * d)=(numT a d * d) * (numT c b * b):=by simp only[Int.mul_assoc,Int.mul_comm,Int.mul_left_comm]
    _=(a * numB a d) * (c * numB c b):=by rw[x1,x2]
    _=a * c * (numB a d * numB c b):=by simp only[Int.mul_assoc,Int.mul_comm,Int.mul_left_comm])
 exact⟨res.1.symm,res.2.symm⟩
theorem z3F(i j:Int):gEq (.int i) (.int j)=some (.bool (decide (i=j))):=by
 simp[gEq,SeqAt.shaped,PyData.canLay0,PyData.depth,PyData.eqv,Bool.beq_eq_decide_eq]
theorem z6l(i j:Int):gNe (.int i) (.int j)=some (.bool (!decide (i=j))):=by
 simp[gNe,SeqAt.shaped,PyData.canLay0,PyData.depth,PyData.eqv,Bool.beq_eq_decide_eq]
theorem z4C(i j:Bool):gNe (.bool i) (.bool j)=some (.bool (!(i == j))):=by
 simp[gNe,SeqAt.shaped,PyData.canLay0,PyData.depth,PyData.eqv]
theorem small2(a b:D):small [a,b]=true:=decide_eq_true (by show 2<=sizeLine;decide)
theorem atI0(a:D)(l:List D):L2.atI (a::l) 0=some a:=by
 simp[L2.atI,ixN]
theorem atI1(a b:D)(l:List D):L2.atI (a::b::l) 1=some b:=by
 have:(1:Int) < ((a::b::l).length:Int):=by simp only[List.length_cons];omega
 unfold L2.atI ixN
 rw[if_pos (by decide),if_pos this];rfl
theorem z07{G1 G2:GS}{δ δ':Sl}{s s':Sx}(h:G1 δ s=some (.next δ',s')):sSeq G1 G2 δ s=G2 δ' s':=by unfold sSeq;rw[h]
theorem z6m{Ft:FT}{G:GS}{δ:Sl}{s s':Sx}(h:Ft δ s=some (false,s')):sWhile Ft G δ s=some (.next δ,s') :=
 z06 (n:=1) (by unfold whileN;rw[h];rfl) (by unfold fuel;omega)
theorem zbt{n:Nat}{i:Int}(h:Bt n i):bitsOf i<=n:=by
 unfold bitsOf
 have:=PySem.intBits_le_iff.mpr h
 omega
def Num(n:Nat)(d:D)(p q:Int):Prop:=d=.tuple [.int p,.int q]/\0 < q/\Int.gcd p q=1/\Bt n p/\Bt n q
theorem Num.num{n:Nat}{T B:Int}(hB:B≠0)(h1:Bt n T)(h2:Bt n B):Num n (num T B) (numT T B) (numB T B):=⟨rfl,z3t hB,z4y hB,h1.numT,h2.numB⟩
end L3
namespace L3
open PySem L2 PySem.Spec PyProof.Rows
section
variable {K:PySem.W.Frag} {B:Hp} {Z:Zt} {A:List Addr} {ow:Ow} {σ:L2.St} {δ:Sl} {H H':Hp} {i:Nat} {p:Addr}
theorem RepS.setOwn{s:Sx}{vs:List V}{ds:List D}(R:RepS K B Z A ow σ δ H)(S:StateAt Z H s)(x:Ext Z H H')(hp:H p=none)(h:H' p=some (.lst vs))(r:Reps K Z H' (p::(A++ow.map (·.2))) vs ds) :
  RepS K B Z A ((i,p)::ow.filter fun q=>decide (q.1≠i)) (σ.set i (some (.ref p))) (δ.set i (.own ds)) H'/\Frm Z ow H ((i,p)::ow.filter fun q=>decide (q.1≠i)) H':=by
 have nz:NotZ Z p:=S.notZ hp
 have bp:B p=none:=by
  cases e:B p with
  | none=>rfl
  | some o=>rw[R.ext p o e nz]at hp;cases hp
 have pA:¬ p∈A:=fun m=>by obtain⟨⟨o,e⟩,_⟩:=R.ok p m;rw[hp]at e;cases e
 have pO:¬ p∈ow.map (·.2):=fun m=>by
  obtain⟨⟨j,q⟩,hq,rfl⟩:=List.mem_map.mp m
  obtain⟨_,⟨o,e⟩,_⟩:=R.ows j q hq
  rw[hp]at e;cases e
 have F:Frm Z ow H ((i,p)::ow.filter fun q=>decide (q.1≠i)) H':=fun b o e n m=>⟨x b o e n,fun z=>by
  rcases List.mem_cons.mp z with z | z
  ·rw[z]at e;simp only at e;rw[hp]at e;cases e
  ·obtain⟨q,hq,e2⟩:=List.mem_map.mp z
   exact m (List.mem_map.mpr ⟨q,(List.mem_filter.mp hq).1,e2⟩)⟩
 refine⟨⟨fun q hq=>⟨let ⟨o,e⟩:=(R.ok q hq).1;⟨o,x q o e (R.ok q hq).2⟩,(R.ok q hq).2⟩,R.ext.trans x,by rw[List.length_set,List.length_set];exact R.len,fun j d' e=>?_,fun j xs e=>?_,fun j q hq=>?_,fun j k q h1 h2=>?_⟩,F⟩
 ·by_cases hj:i=j
  ·subst hj
   have hi:i < δ.length:=by have:=(List.getElem?_eq_some_iff.mp e).1;rwa [List.length_set]at this
   rw[List.getElem?_set_self hi]at e;cases e
  ·rw[List.getElem?_set_ne hj]at e
   obtain⟨v',h1,h2⟩:=R.val j d' e
   exact⟨v',by rw[List.getElem?_set_ne hj];exact h1,h2.frm F⟩
 ·by_cases hj:i=j
  ·subst hj
   have hi:i < δ.length:=by have:=(List.getElem?_eq_some_iff.mp e).1;rwa [List.length_set]at this
   rw[List.getElem?_set_self hi]at e;cases e
   refine⟨p,vs,List.mem_cons_self,List.getElem?_set_self (by rw[<- R.len];exact hi),h,r.sub fun q hq=>?_⟩
   rcases List.mem_append.mp hq with hq | hq
   ·exact List.mem_cons_of_mem _ (List.mem_append_left _ hq)
   ·rcases List.mem_cons.mp hq with hq | hq
    ·rw[hq];exact List.mem_cons_self
    ·obtain⟨q',hq',e2⟩:=List.mem_map.mp hq
     exact List.mem_cons_of_mem _ (List.mem_append_right _ (List.mem_map.mpr ⟨q',(List.mem_filter.mp hq').1,e2⟩))
  ·rw[List.getElem?_set_ne hj]at e
   obtain⟨q,ws,h1,h2,h3,h4⟩:=R.own j xs e
   exact⟨q,ws,List.mem_cons_of_mem _ (List.mem_filter.mpr ⟨h1,decide_eq_true (Ne.symm hj)⟩),by rw[List.getElem?_set_ne hj];exact h2,x q _ h3 (R.ows j q h1).2.2.1,h4.frm F⟩
 ·rcases List.mem_cons.mp hq with hq | hq
  ·cases hq;exact⟨bp,⟨_,h⟩,nz,pA⟩
  ·obtain⟨a,⟨o,b⟩,c,d⟩:=R.ows j q (List.mem_filter.mp hq).1
   exact⟨a,⟨o,x q _ b c⟩,c,d⟩
 ·rcases List.mem_cons.mp h1 with h1 | h1 <;> rcases List.mem_cons.mp h2 with h2 | h2
  ·cases h1;cases h2;rfl
  ·cases h1;exact absurd (List.mem_map.mpr ⟨(k,p),(List.mem_filter.mp h2).1,rfl⟩) pO
  ·cases h2;exact absurd (List.mem_map.mpr ⟨(j,p),(List.mem_filter.mp h1).1,rfl⟩) pO
  ·exact R.inj j k q (List.mem_filter.mp h1).1 (List.mem_filter.mp h2).1
theorem RepS.change{vs:List V}{xs ds:List D}(R:RepS K B Z A ow σ δ H)(ho:δ[i]?=some (.own xs))(hi:(i,p)∈ow)(hs:σ[i]?=some (some (.ref p)))(r:Reps K Z H (A++ow.map (·.2)) vs ds) :
  RepS K B Z A ow σ (δ.set i (.own ds)) (upd H p (.lst vs))/\Frm Z ow H ow (upd H p (.lst vs)):=by
 obtain⟨bp,_,nz,pA⟩:=R.ows i p hi
 have F:Frm Z ow H ow (upd H p (.lst vs)):=fun b o e n m=>⟨by
  rw[zg (fun z=>m (by rw[z];exact List.mem_map.mpr ⟨(i,p),hi,rfl⟩))];exact e,m⟩
 refine⟨⟨fun q hq=>⟨?_,(R.ok q hq).2⟩,fun b o e n=>?_,by rw[List.length_set];exact R.len,fun j d' e=>?_,fun j ys e=>?_,fun j q hq=>?_,R.inj⟩,F⟩
 ·obtain⟨o,e⟩:=(R.ok q hq).1
  exact⟨o,by rw[zg (fun z=>pA (by rw[<- z];exact hq))];exact e⟩
 ·have:b≠p:=fun z=>by rw[z,bp]at e;cases e
  rw[zg this];exact R.ext b o e n
 ·by_cases hj:i=j
  ·subst hj
   rw[List.getElem?_set_self (List.getElem?_eq_some_iff.mp ho).1]at e;cases e
  ·rw[List.getElem?_set_ne hj]at e
   obtain⟨v',h1,h2⟩:=R.val j d' e
   exact⟨v',h1,h2.frm F⟩
 ·by_cases hj:i=j
  ·subst hj
   rw[List.getElem?_set_self (List.getElem?_eq_some_iff.mp ho).1]at e;cases e
   exact⟨p,vs,hi,hs,zk,r.frm F⟩
  ·rw[List.getElem?_set_ne hj]at e
   obtain⟨q,ws,h1,h2,h3,h4⟩:=R.own j ys e
   have:q≠p:=fun z=>hj (R.inj i j p hi (z ▸ h1))
   exact⟨q,ws,h1,h2,by rw[zg this];exact h3,h4.frm F⟩
 ·obtain⟨a,⟨o,b⟩,c,d⟩:=R.ows j q hq
  refine⟨a,?_,c,d⟩
  by_cases z:q=p
  ·rw[z];exact⟨_,zk⟩
  ·exact⟨o,by rw[zg z];exact b⟩
theorem StateAt.chg{s:Sx}{o:HO}(S:StateAt Z H s)(n:NotZ Z p):StateAt Z (L2.upd H p o) s:=fun a c e =>
 ⟨by rw[zg (Ne.symm (n a c e).1)];exact(S a c e).1,by rw[zg (Ne.symm (n a c e).2)];exact(S a c e).2⟩
theorem RepS.freeze{xs:List D}(R:RepS K B Z A ow σ δ H)(ho:δ[i]?=some (.own xs)) :
  ∃ ow',RepS K B Z A ow' σ (δ.set i (.val (.list xs))) H/\Frm Z ow H ow' H:=by
 obtain⟨p,vs,h1,h2,h3,h4⟩:=R.own i xs ho
 have r:Rep K Z H (A++(ow.filter fun q=>decide (q.1≠i)).map (·.2)) (.ref p) (.list xs):=by
  refine .lst h3 (fun m=>?_) (R.ows i p h1).2.2.1 (h4.sub fun q hq=>?_)
  ·rcases List.mem_append.mp m with m | m
   ·exact(R.ows i p h1).2.2.2 m
   ·obtain⟨⟨j,q⟩,hq,e⟩:=List.mem_map.mp m
    have hq':=List.mem_filter.mp hq
    cases e
    exact of_decide_eq_true hq'.2 (R.inj j i q hq'.1 h1)
  ·rcases List.mem_append.mp hq with m | m
   ·exact List.mem_append_left _ m
   ·obtain⟨q',hq',e⟩:=List.mem_map.mp m
    exact List.mem_append_right _ (List.mem_map.mpr ⟨q',(List.mem_filter.mp hq').1,e⟩)
 have sub:∀ q∈A++(ow.filter fun p=>decide (p.1≠i)).map (·.2),q∈A++ow.map (·.2):=fun q hq=>by
  rcases List.mem_append.mp hq with h | h
  ·exact List.mem_append_left _ h
  ·obtain⟨p,hp,rfl⟩:=List.mem_map.mp h
   exact List.mem_append_right _ (List.mem_map_of_mem (List.mem_filter.mp hp).1)
 refine⟨ow.filter fun q=>decide (q.1≠i),⟨R.ok,R.ext,by rw[List.length_set];exact R.len,fun j d' e=>?_,fun j ys e=>?_,fun j q hq=>R.ows j q (List.mem_filter.mp hq).1,fun j k q a b=>R.inj j k q (List.mem_filter.mp a).1 (List.mem_filter.mp b).1⟩,fun b o h n m=>⟨h,fun z=>m ?_⟩⟩
 ·by_cases hj:i=j
  ·subst hj
   rw[List.getElem?_set_self (List.getElem?_eq_some_iff.mp ho).1]at e;cases e
   exact⟨_,h2,r⟩
  ·rw[List.getElem?_set_ne hj]at e
   obtain⟨v',a,b⟩:=R.val j d' e
   exact⟨v',a,b.sub sub⟩
 ·by_cases hj:i=j
  ·subst hj
   rw[List.getElem?_set_self (List.getElem?_eq_some_iff.mp ho).1]at e;cases e
  ·rw[List.getElem?_set_ne hj]at e
   obtain⟨q,ws,a,b,c,d⟩:=R.own j ys e
   exact⟨q,ws,List.mem_filter.mpr ⟨a,decide_eq_true (Ne.symm hj)⟩,b,c,d.sub sub⟩
 ·obtain⟨q,hq,e⟩:=List.mem_map.mp z
  exact List.mem_map.mpr ⟨q,(List.mem_filter.mp hq).1,e⟩
end
section
variable {X:Cx} {st:Stmt} {sts:List Stmt} {e e2 ie:Expr} {es:List Expr} {F Fa Fb Fi:FE} {Fo Fo2:FO} {FL:FA} {G:GS} {x:Str} {i j:Nat} {p pos px apos cpos tpos:Pos}
theorem zcT(h:DA X es FL):DF X (.List es pos) (fun δ s=>(FL δ s).bind fun p=>if small p.1=true then some (p.1,p.2) else none):=⟨fun Z A=>PE.imp (zaz (h Z A)) fun σ H Q zdP=>by
 obtain⟨B,ow,δ,s,d,s',R,S,e,q⟩:=zdP
 first | refine bnd1 e fun p e1 e=>?_ | refine mpp1 e fun p e1 e=>?_
 replace e:(if small p.1=true then some (p.1,p.2) else none)=some (d,s'):=e
 split at e
 ·rename_i hs
  cases e
  refine⟨B,ow,δ,s,_,_,R,S,e1,fun vs H1 x1 S1 rs=>⟨?_,fun p hp=>q p vs _ (x1.trans (Ext.upd hp)) (S1.upd hp) ?_ zk (rs.fresh hp)⟩⟩
  ·rw[rs.length];exact of_decide_eq_true hs
  ·cases e9:H p with
   | none=>rfl
   | some o=>rw[x1 p o e9 (S1.notZ hp)]at hp;cases hp
 ·cases e⟩
def oLst(FL:FA):FO:=fun δ s=>(FL δ s).bind fun p=>if small p.1=true then some (p.1,p.2) else none
theorem z12{Z:Zt}{H H1:Hp}{s:Sx}{p:Addr}(x1:Ext Z H H1)(S1:StateAt Z H1 s)(hp:H1 p=none):H p=none:=by
 cases e9:H p with
 | none=>rfl
 | some o=>rw[x1 p o e9 (S1.notZ hp)]at hp;cases hp
theorem z8N(h:DA X es FL):DF X (.List es pos) (oLst FL):=zcT h
def oList(Fa:FE):FO:=fun δ s=>(Fa δ s).bind fun p=>(seqOf p.1).map fun xs=>(xs,p.2)
theorem z6n(hv:bootBuiltins x=some (.type "list"))(hm:X.mg x=none)(ha:DW X e Fa)(hg:Gl X x:=by rfl)(hn:x≠"__name__":=by decide)(hdb:(x == ("__debug__":Str))=false:=by decide)
  (hs:starEach [e] X.env=(false,eval e X.env)::starEach [] X.env:=by rfl):DF X (.Call (.Name x p) [e] [] pos) (oList Fa):=⟨fun Z A=>PE.imp (z3x z1O hg hm hv (zK (ha Z A) z0o hs) hn hdb hs rfl) fun σ H Q zdQ=>by
  obtain⟨B,ow,δ,s,ds,s',R,S,e,q⟩:=zdQ
  unfold oList at e
  first | refine bnd2 e fun d s1 e1 e=>?_ | refine mpp2 e fun d s1 e1 e=>?_
  replace e:((seqOf d).map fun xs=>(xs,s1))=some (ds,s'):=e
  refine⟨B,ow,δ,s,d,s1,R,S,e1,fun v H1 x1 S1 r=>?_⟩
  cases d with
  | list xs =>
   cases e
   obtain⟨p,vs,ev,sq,_,rs⟩:=r.list
   exact⟨p,vs,by rw[ev],.inl sq,fun l hl=>q l vs _ (x1.trans (Ext.upd hl)) (S1.upd hl) (z12 x1 S1 hl) zk (rs.fresh hl)⟩
  | tuple xs =>
   cases e
   obtain⟨p,vs,ev,sq,rs⟩:=r.tuple
   exact⟨p,vs,by rw[ev],.inr sq,fun l hl=>q l vs _ (x1.trans (Ext.upd hl)) (S1.upd hl) (z12 x1 S1 hl) zk (rs.fresh hl)⟩
  | _=>cases e⟩
def o2(g:D->D->Option (List D))(Fa Fb:FE):FO:=fun δ s=>(Fa δ s).bind fun p=>(Fb δ p.2).bind fun q=>(g p.1 q.1).map fun d=>(d,q.2)
theorem zeN{op:Operator}{r:R2}{g:D->D->Option (List D)}(ho:OpR X (binaryOp op) r)(ha:DW X e Fa)(hb:DW X e2 Fb)
  (hr:∀ (Z:Zt) (A:List Addr) (H:Hp) (x y:V) (dx dy:D) (ds:List D) (Q:VK),RepW X.K Z H A x dx->RepW X.K Z H A y dy->g dx dy=some ds->(∀ p vs,H p=none->Reps X.K Z H A vs ds->Q (.ref p) (upd H p (.lst vs)))->r x y H Q) :
  DF X (.BinOp e op e2 pos) (o2 g Fa Fb):=⟨fun Z A=>PE.imp (z9L ho (ha Z A) (hb Z A)) fun σ H Q zdR=>by
 obtain⟨B,ow,δ,s,ds,s',R,S,e,q⟩:=zdR
 unfold o2 at e
 first | refine bnd2 e fun dx s1 e1 e=>?_ | refine mpp2 e fun dx s1 e1 e=>?_
 replace e:((Fb δ s1).bind fun q=>(g dx q.1).map fun d=>(d,q.2))=some (ds,s'):=e
 first | refine bnd2 e fun dy s2 e2 e=>?_ | refine mpp2 e fun dy s2 e2 e=>?_
 replace e:((g dx dy).map fun d=>(d,s2))=some (ds,s'):=e
 cases e3:g dx dy with
 | none=>rw[e3]at e;cases e
 | some d' =>
  rw[e3]at e
  cases e
  refine⟨B,ow,δ,s,dx,s1,R,S,e1,fun v H1 x1 S1 r1=>⟨B,ow,δ,s1,dy,s',R.mono x1,S1,e2,fun u H2 x2 S2 r2=>?_⟩⟩
  exact hr Z _ H2 v u dx dy ds Q (r1.ext x2) r2 e3 fun p vs hp rs=>q p vs _ ((x1.trans x2).trans (Ext.upd hp)) (S2.upd hp) (z12 (x1.trans x2) S2 hp) zk (rs.fresh hp)⟩
def lRep:D->D->Option (List D):=fun a b=>match a,b with
 | .list xs,.int k=>if (decide (-(2 ^ 63)<=k) && decide (k < 2 ^ 63) && decide (xs.length * k.toNat<=sizeLine))=true then some (List.replicate k.toNat xs).flatten else none
 | _,_=>none
theorem zaK(ha:DW X e Fa)(hb:DW X e2 Fb):DF X (.BinOp e .Mult e2 pos) (o2 lRep Fa Fb):=zeN zaC ha hb fun Z A H x y dx dy ds Q rx ry e q=>by
 unfold lRep at e
 split at e
 ·split at e
  ·rename_i hs
   cases e
   simp only[Bool.and_eq_true,decide_eq_true_eq]at hs
   obtain⟨p1,v1,rfl,h1,_,r1⟩:=rx.lst
   have ey:=ry.int
   exact⟨p1,_,v1,rfl,ey,h1,hs.1.1,hs.1.2,by rw[r1.length];exact hs.2,fun p hp=>q p _ hp (r1.rep _)⟩
  ·cases e
 ·cases e
def cutD(xs:List D)(lo hi:Option Int):List D:=(xs.drop (HT.sIx xs.length 0 lo)).take (HT.sIx xs.length xs.length hi - HT.sIx xs.length 0 lo)
theorem Reps.cut{K:PySem.W.Frag}{Z:Zt}{H:Hp}{A:List Addr}{vs:List V}{ds:List D}{lo hi:Option Int}(r:Reps K Z H A vs ds):Reps K Z H A (cutV vs lo hi) (cutD ds lo hi):=by
 unfold cutV cutD
 rw[r.length]
 exact(r.drop _).take _
abbrev FP:=Sl->Sx->Option (Option Int × Sx)
def pNo:FP:=fun _ s=>some (none,s)
def pInt(F:FE):FP:=fun δ s=>(F δ s).bind fun p=>match p.1 with | .int i=>some (some i,p.2) | _=>none
inductive tDPK(K:PySem.W.Frag)(Z:Zt)(A:List Addr)(F:FP)(σ:L2.St)(H:Hp)(Q:Option Int->Hp->Prop):Prop
 | mk (B:Hp) (ow:Ow) (δ:Sl) (s:Sx) (o:Option Int) (s':Sx) (h0:RepS K B Z A ow σ δ H) (h1:StateAt Z H s) (h2:F δ s=some (o,s')) (h3:∀ H',Ext Z H H'->StateAt Z H' s'->Q o H')
abbrev tDP(X:Cx)(Z:Zt)(A:List Addr)(F:FP):TO:=tDPK X.K Z A F
structure DP(X:Cx)(e:Option Expr)(F:FP):Prop where
 go:∀ Z A,PO X e (tDP X Z A F)
instance {X:Cx} {e:Option Expr} {F:FP}:CoeFun (DP X e F) (fun _=>∀ Z A,PO X e (tDP X Z A F)):=⟨fun h=>h.go⟩
theorem PO.imp{e:Option Expr}{t t':TO}(h:PO X e t)(hi:∀ σ H Q,t' σ H Q->t σ H Q):PO X e t':=fun pins s σ H Q I q=>h pins s σ H Q I (hi σ H Q q)
theorem z9Y:DP X none pNo:=⟨fun Z A=>PO.imp z8j fun σ H Q zdS=>by
 obtain⟨B,ow,δ,s,o,s',R,S,e,q⟩:=zdS
 cases e;exact q H (Ext.refl H) S⟩
theorem z7a(h:DW X e F):DP X (some e) (pInt F):=⟨fun Z A=>PO.imp (z8k (h Z A)) fun σ H Q zdT=>by
 obtain⟨B,ow,δ,s,o,s',R,S,e,q⟩:=zdT
 unfold pInt at e
 first | refine bnd2 e fun d s1 e1 e=>?_ | refine mpp2 e fun d s1 e1 e=>?_
 cases d with
 | int k =>
  cases e
  exact⟨B,ow,δ,s,_,_,R,S,e1,fun v H1 x1 S1 r=>⟨k,r.int,q H1 x1 S1⟩⟩
 | _=>cases e⟩
def sSetO(i:Nat)(Fo:FO):GS:=fun δ s=>(Fo δ s).map fun p=>(.next (δ.set i (.own p.1)),p.2)
theorem z30{pos':Pos}(hN:X.N.Nodup)(he:DF X e Fo)(hi:X.N[i]?=some x:=by rfl)(hx:Loc X.env.scope x:=by first | exact Or.inl rfl | exact Or.inr rfl)(hs:swapsWith e (some (.Name x pos')) pos.line X.env=pure false:=by rfl)
  (hf:X.fn x=true\/X.env.scope.names.lookup x=some .local:=by first | exact .inl rfl | exact .inr rfl | assumption):DS X (.Assign [.Name x pos'] e pos) (sSetO i Fo):=⟨fun Z A=>PS.imp (z2F hN hi hx (he Z A) hs hf) fun E σ H zdU=>by
 obtain⟨ow,δ,s,o,s',R,S,e,q⟩:=zdU
 unfold sSetO at e
 first | refine bnd1 e fun p e1 e=>?_ | refine mpp1 e fun p e1 e=>?_
 cases e
 refine⟨_,ow,δ,s,_,_,R,S,e1,fun p vs H' x1 S1 n h r=>?_⟩
 obtain⟨R',f⟩:=R.setOwn (i:=i) S x1 n h r
 exact q _ _ H' R' S1 f⟩
theorem z9Z{k:Nat}{fr:List Nat}{scope:Scope}{cl:List (Str × Addr)}{N:List Str}{ifs:List Expr}{tg iter elt:Expr}{Fi:FI}{T:Tgt}{Ft:FT}{py spos:Pos}(hN:X.N.Nodup)(ok:CompOk X scope cl N k fr)(hT:∀ i∈T.slots,i < k)(hi:DI X tg iter Fi)
  (hg:∀ C s H ex,DG (compCx X scope cl N C s H ex) tg T) (ht:∀ C s H ex,DIfs (compCx X scope cl N C s H ex) ifs Ft) (he:∀ C s H ex,DE (compCx X scope cl N C s H ex) elt F)
  (hsw:swapsWith (.ListComp elt [⟨tg,iter,ifs,0⟩] scope pos) (some (.Name x py)) spos.line X.env=pure true) (hi':X.N[i]?=some x:=by rfl) (hx:Loc X.env.scope x:=by first | exact Or.inl rfl | exact Or.inr rfl)
  (hc:X.calm=true:=by rfl) (hs:∀ x,foldedSetIterable iter X.env x=pure x:=by intro _;rfl) (hf:X.fn x=true\/X.env.scope.names.lookup x=some .local:=by first | exact .inl rfl | exact .inr rfl | assumption) :
  DS X (.Assign [.Name x py] (.ListComp elt [⟨tg,iter,ifs,0⟩] scope pos) spos) (sSetO i (fComp k fr Fi T Ft F)):=⟨fun Z A pins s σ H E I zdV=>by
 obtain⟨ow,δ,st,o,st',R,S,e,q⟩:=zdV
 unfold sSetO at e
 first | refine bnd1 e fun r e0 e=>?_ | refine mpp1 e fun r e0 e=>?_
 cases e
 unfold fComp at e0
 first | refine bnd2 e0 fun src s1 e1 e0=>?_ | refine mpp2 e0 fun src s1 e1 e0=>?_
 replace e0:(if small src=true then compD T Ft F (compDl k fr δ) src s1 else none)=some r:=e0
 split at e0
 ·rename_i hsm
  refine z8t (g:=tDG X.K Z (A++ow.map (·.2)) T) (tt:=tDT X Z (A++ow.map (·.2)) Ft) (te:=tD X Z (A++ow.map (·.2)) F) hN hi' hx ok hc (hi Z A) (fun C s H ex=>hg C s H ex Z _) (fun C s H ex=>ht C s H ex Z _) (fun C s H ex=>he C s H ex Z _) hsw hs hf pins s σ H E I
   ⟨_,ow,δ,st,src,s1,R,S,e1,fun J H1 x1 S1 sr=>z3D (s':=r.2) (rs:=r.1) hT (R.mono x1) S1 sr hsm e0 fun ys H2 x2 S2 rs hl=>⟨hl,fun p hp=>?_⟩⟩
  obtain⟨R3,f3⟩:=R.setOwn (i:=i) S ((x1.trans x2).trans (Ext.upd (o:=.lst ys) hp)) (z12 (x1.trans x2) S2 hp) zk (rs.fresh hp)
  exact q _ _ _ R3 (S2.upd hp) f3
 ·cases e0⟩
def sFrz(i:Nat):GS:=fun δ s=>match δ[i]? with | some (.own xs)=>some (.next (δ.set i (.val (.list xs))),s) | _=>some (.next δ,s)
theorem z4d(i:Nat)(h:DS X st G):DS X st (sSeq (sFrz i) G):=⟨fun Z A=>PS.imp (h Z A) fun E σ H zdW=>by
 obtain⟨ow,δ,s,o,s',R,S,e,q⟩:=zdW
 unfold sSeq sFrz at e
 cases e1:δ[i]? with
 | none=>rw[e1]at e;exact⟨ow,δ,s,o,s',R,S,e,q⟩
 | some c =>
  rw[e1]at e
  cases c with
  | own xs =>
   obtain⟨ow',R',f⟩:=R.freeze e1
   exact⟨ow',_,s,o,s',R',S,e,q.frm f⟩
  | non=>exact⟨ow,δ,s,o,s',R,S,e,q⟩
  | val d=>exact⟨ow,δ,s,o,s',R,S,e,q⟩⟩
def sApp(i:Nat)(F:FE):GS:=fun δ s=>(F δ s).bind fun q=>match δ[i]? with | some (.own xs)=>if decide (xs.length < sizeLine)=true then some (.next (δ.set i (.own (xs++[q.1]))),q.2) else none | _=>none
theorem zaL(hv:PE X (.Name x px) (tVar i))(he:DE X e F)(hbase:attributeBase (.Name x px) "append" X.env (eval (.Name x px) X.env)=eval (.Name x px) X.env:=by rfl)
  (hfew:((backTo cpos (starEach [e] X.env)).all (fun x=>!x.1) && (backToKw cpos (keywordEach [] X.env)).all (fun x=>x.1.isSome) && decide ([e].length + ([]:List Keyword).length + (if ([]:List Keyword).isEmpty then 0 else 1) < 30))=true:=by rfl)
  (hline:(apos.endLine == cpos.line)=true:=by rfl) (hs:starEach [e] X.env=(false,eval e X.env)::starEach [] X.env:=by rfl)
  (hsw:swapsWith (.Call (.Attribute (.Name x px) "append" apos) [e] [] cpos) none pos.line X.env=pure false:=by rfl):DS X (.Expr (.Call (.Attribute (.Name x px) "append" apos) [e] [] cpos) pos) (sApp i F):=⟨fun Z A=>PS.imp (z69 (zeI PySem.F.plainAttrs_list PySem.F.slot_list_append PySem.F.type_list_append z8m hv (zK (he Z A) z0o hs) hbase hfew hline hs rfl) hsw) fun E σ H zdX=>by
  obtain⟨ow,δ,s,o,s',R,S,e,q⟩:=zdX
  unfold sApp at e
  first | refine bnd2 e fun d s1 e1 e=>?_ | refine mpp2 e fun d s1 e1 e=>?_
  try simp only[Option.bind_some]at e
  split at e
  ·rename_i xs ho
   split at e
   ·rename_i hl
    cases e
    obtain⟨a,vs,h1,h2,h3,h4⟩:=R.own i xs ho
    refine⟨_,h2,.inl ⟨rfl,_,SqL.of h3⟩,⟨_,ow,δ,s,d,_,R,S,e1,fun v H1 x1 S1 r=>?_⟩⟩
    have h3':=x1 _ _ h3 (R.ows i a h1).2.2.1
    refine⟨a,vs,v,rfl,rfl,h3',by rw[h4.length];exact of_decide_eq_true hl,?_⟩
    obtain⟨R',f⟩:=(R.mono x1).change ho h1 h2 ((h4.ext x1).append (.cons r .nil))
    exact q _ _ _ R' (S1.chg (R.ows i a h1).2.2.1) ((Frm.ext x1).trans f)
   ·cases e
  ·cases e⟩
def sPop(i:Nat):GS:=fun δ s=>match δ[i]? with | some (.own xs)=>if xs.isEmpty=true then none else some (.next (δ.set i (.own xs.dropLast)),s) | _=>none
theorem z7b{Z:Zt}{A:List Addr}{ow:Ow}{σ:L2.St}{δ:Sl}{B H:Hp}{s:Sx}{xs:List D}{Q:VK}(R:RepS X.K B Z A ow σ δ H)(S:StateAt Z H s)(ho:δ[i]?=some (.own xs))(hne:¬ xs.isEmpty=true)
  (q:∀ v d H',xs.getLast?=some d->Rep X.K Z H' (A++ow.map (·.2)) v d->RepS X.K B Z A ow σ (δ.set i (.own xs.dropLast)) H'->StateAt Z H' s->Frm Z ow H ow H'->Q v H'):tBM0 X.K "list" rPop (tVar i) σ H Q:=by
 obtain⟨a,vs,h1,h2,h3,h4⟩:=R.own i xs ho
 refine⟨_,h2,.inl ⟨rfl,_,SqL.of h3⟩,?_⟩
 have hlen:=h4.length
 have hx:xs.length≠0:=fun z=>hne (by simpa using z)
 obtain⟨d,hd⟩:∃ d,xs[xs.length - 1]?=some d:=⟨_,List.getElem?_eq_getElem (by omega)⟩
 obtain⟨v,hv,rv⟩:=h4.get hd
 obtain⟨R',f⟩:=R.change ho h1 h2 h4.dropLast
 exact⟨a,vs,v,rfl,rfl,h3,by rw[hlen];exact hv,q v d _ (by rw[List.getLast?_eq_getElem?];exact hd) (rv.frm f) R' (S.chg (R.ows i a h1).2.2.1) f⟩
theorem zcU(hv:PE X (.Name x px) (tVar i))(hbase:attributeBase (.Name x px) "pop" X.env (eval (.Name x px) X.env)=eval (.Name x px) X.env:=by rfl)(hline:(apos.endLine == cpos.line)=true:=by rfl)
  (hsw:swapsWith (.Call (.Attribute (.Name x px) "pop" apos) [] [] cpos) none pos.line X.env=pure false:=by rfl):DS X (.Expr (.Call (.Attribute (.Name x px) "pop" apos) [] [] cpos) pos) (sPop i):=⟨fun Z A=>PS.imp (z69 (z6Y PySem.F.plainAttrs_list PySem.F.slot_list_pop PySem.F.type_list_pop zaB hv hbase hline) hsw) fun E σ H zdY=>by
  obtain⟨ow,δ,s,o,s',R,S,e,q⟩:=zdY
  unfold sPop at e
  split at e
  ·rename_i xs ho
   split at e
   ·cases e
   ·rename_i hne
    cases e
    exact z7b R S ho hne fun v d H' _ _ R' S' f=>q _ _ _ R' S' f
  ·cases e⟩
def sSetPop(j i:Nat):GS:=fun δ s=>match δ[i]? with | some (.own xs)=>(match xs.getLast? with | some d=>some (.next ((δ.set i (.own xs.dropLast)).set j (.val d)),s) | none=>none) | _=>none
theorem z8O{y:Str}{pos':Pos}(hN:X.N.Nodup)(hv:PE X (.Name x px) (tVar i))(hi:X.N[j]?=some y:=by rfl)(hx:Loc X.env.scope y:=by first | exact Or.inl rfl | exact Or.inr rfl)
  (hbase:attributeBase (.Name x px) "pop" X.env (eval (.Name x px) X.env)=eval (.Name x px) X.env:=by rfl) (hline:(apos.endLine == cpos.line)=true:=by rfl)
  (hs:swapsWith (.Call (.Attribute (.Name x px) "pop" apos) [] [] cpos) (some (.Name y pos')) pos.line X.env=pure false:=by rfl)
  (hf:X.fn y=true\/X.env.scope.names.lookup y=some .local:=by first | exact .inl rfl | exact .inr rfl | assumption):DS X (.Assign [.Name y pos'] (.Call (.Attribute (.Name x px) "pop" apos) [] [] cpos) pos) (sSetPop j i):=⟨fun Z A=>PS.imp (z2F hN hi hx (z6Y PySem.F.plainAttrs_list PySem.F.slot_list_pop PySem.F.type_list_pop zaB hv hbase hline) hs hf) fun E σ H zdZ=>by
  obtain⟨ow,δ,s,o,s',R,S,e,q⟩:=zdZ
  unfold sSetPop at e
  split at e
  ·rename_i xs ho
   split at e
   ·rename_i d hd
    cases e
    refine z7b R S ho (fun z=>by rw[List.isEmpty_iff]at z;rw[z]at hd;cases hd) fun v d' H' hd' r R' S' f=>?_
    rw[hd]at hd'
    cases hd'
    obtain⟨R2,f2⟩:=R'.set (i:=j) r
    exact q _ _ _ R2 S' (f.trans f2)
   ·cases e
  ·cases e⟩
def putAt(xs:List D)(d v:D):Option (List D):=match d with | .int k=>(ixN xs.length k).map fun j=>xs.set j v | _=>none
def sPut(i:Nat)(Fi F:FE):GS:=fun δ s=>(F δ s).bind fun v=>(Fi δ v.2).bind fun d=>match δ[i]? with | some (.own xs)=>(putAt xs d.1 v.1).map fun ys=>(.next (δ.set i (.own ys)),d.2) | _=>none
theorem z8P(hv:PE X (.Name x px) (tVar i))(hi:DW X ie Fi)(he:DE X e F)
  (ha:∀ v,assign (.Subscript (.Name x px) ie tpos) X.env v=(do
   let ov <- holding [v] (eval (.Name x px) X.env)
   let iv <- holding [v,ov] (eval ie X.env)
   standAt tpos
   holding [v,ov,iv] (setItem ov iv v)
   release [v,ov,iv] []):=by intros;rfl)
  (hs:swapsWithSole [.Subscript (.Name x px) ie tpos] e pos.line X.env=pure false:=by rfl) (hw:swappedStores [.Subscript (.Name x px) ie tpos] e X.env=pure none:=by rfl)
  (h1:(assignEach [.Subscript (.Name x px) ie tpos] X.env).map (·.2)=[assign (.Subscript (.Name x px) ie tpos) X.env]:=by rfl):DS X (.Assign [.Subscript (.Name x px) ie tpos] e pos) (sPut i Fi F):=⟨fun Z A=>PS.imp (z88 (he Z A) (zaw hv (hi Z A) z4o ha) hs hw h1) fun E σ H ze0=>by
  obtain⟨ow,δ,s,o,s',R,S,e,q⟩:=ze0
  unfold sPut at e
  first | refine bnd2 e fun d s1 e1 e=>?_ | refine mpp2 e fun d s1 e1 e=>?_
  try simp only[Option.bind_some]at e
  first | refine bnd2 e fun k s2 e2 e=>?_ | refine mpp2 e fun k s2 e2 e=>?_
  try simp only[Option.bind_some]at e
  split at e
  ·rename_i xs ho
   first | refine bnd1 e fun ys e3 e=>?_ | refine mpp1 e fun ys e3 e=>?_
   cases e
   obtain⟨a,vs,h1,h2,h3,h4⟩:=R.own i xs ho
   have nz:=(R.ows i a h1).2.2.1
   refine⟨_,ow,δ,s,d,s1,R,S,e1,fun v H1 x1 S1 r=>⟨_,h2,⟨_,ow,δ,s1,k,_,R.mono x1,S1,e2,fun u H2 x2 S2 r2=>?_⟩⟩⟩
   unfold putAt at e3
   split at e3
   ·rename_i kk
    cases e4:ixN xs.length kk with
    | none=>rw[e4]at e3;cases e3
    | some j =>
     rw[e4]at e3
     cases e3
     have eu:=r2.int
     obtain⟨R',f⟩:=((R.mono x1).mono x2).change ho h1 h2 (((h4.ext x1).ext x2).set (r.ext x2) j)
     exact⟨a,vs,kk,j,rfl,eu,x2 _ _ (x1 _ _ h3 nz) nz,by rw[h4.length];exact e4,q _ _ _ R' (S2.chg nz) ((Frm.ext (x1.trans x2)).trans f)⟩
   ·cases e3
  ·cases e⟩
end
end L3
namespace HT
open PySem PySem.Spec PyProof.Rows L2
section
variable {prog:Program} {w:World} {A:Around} {E:Value->Shared->Prop} {s:Shared}
theorem getItem_tuple_whole{t sl:Addr}{items:Array Value}{vl vu:Value}{lo hi:Option Int}{Q:Value->Shared->Prop}(ht:IsTup s.heap t items)(hs:s.heap.IsSliceOf sl vl vu .none)(pl:IsPart vl lo)(pu:IsPart vu hi)
  (hw:sIx items.size 0 lo=0/\sIx items.size items.size hi=items.size) (h:Q (.ref t) s):wpAny (model prog w) A (getItem (.ref t) (.ref sl)) Q E s:=by
 obtain⟨os,hos,hcs,hds⟩:=id hs
 have hTs:s.TypeIs (.ref sl) "slice":=⟨os,hos,hcs⟩
 unfold getItem
 try with_reducible refine wpAny_holding ?_
 first | refine wpAny_bind (wpAny_pure ?_) | skip
 refine wpAny_bind (wpAny_sequenceKey ht.typeIs (by decide) ?_)
 refine wpAny_bind (wpAny_callSpecial?_slot (name:=Str.ofString "__getitem__") ht.typeIs PyProof.Rows.slot_tuple_getitem
  (wpAny_call_entry PyProof.Rows.slot_tuple_getitem ht.typeIs entry_tuple_getitem ?_ (args_tuple_getitem _ _)))
 show wpAny _ _ (Builtin.Tuple.tupleItemsOf (.ref t) >>= _) _ _ s
 refine wpAny_bind (tupleItemsOf_ ht ?_)
 refine wpAny_bind (wpAny_typeOf hTs ?_)
 rw[if_pos (by decide)]
 refine wpAny_bind (z1H hs pl pu ?_)
 have hyes:((((sIx items.size 0 lo:Nat):Int) == 0 && (1:Int) == 1 && (sIx items.size items.size hi - sIx items.size 0 lo) == items.size)=true):=by
  rw[hw.1,hw.2];simp
 show wpAny _ _ (if (((sIx items.size 0 lo:Nat):Int) == 0 && (1:Int) == 1 && (sIx items.size items.size hi - sIx items.size 0 lo) == items.size)=true then _ else _) _ _ s
 rw[if_pos hyes]
 refine wpAny_bind (wpAny_bind (wpAny_typeOf ht.typeIs (wpAny_pure ?_)))
 show wpAny _ _ (if (Value.type "tuple" == Value.type "tuple")=true then _ else _) _ _ s
 rw[if_pos (by decide)]
 exact wpAny_bind (wpAny_rule (wpAny_pure ⟨_,rfl,wpAny_pure h⟩))
end
end HT
namespace L3
open PySem L2 PySem.Spec PyProof.Rows
section
variable {X:Cx} {e e2 e3 ie:Expr} {F Fa Fb Fc Fi:FE} {Fo:FO} {x:Str} {i j:Nat} {p pos px apos cpos tpos:Pos}
def rSlTW(K:PySem.W.Frag):V->Option Int->Option Int->Hp->VK->Prop:=fun x lo hi H Q=>∃ a xs,x=.ref a/\SqT K H a xs /\
 (if HT.sIx xs.length 0 lo=0/\HT.sIx xs.length xs.length hi=xs.length then Q (.ref a) H else ∀ p,H p=none->Q (.ref p) (upd H p (.tup (cutV xs lo hi))))
theorem zbu:SlR X (rSlTW X.K):=by
 intro pins s σ H x v vl vu lo hi sl Q I rx hs pl pu h
 obtain⟨a,xs,rfl,hx,q⟩:=h
 split at q
 ·rename_i hw
  cases rx
  obtain⟨its,r,ht,hz⟩:=I.tuple hx
  have hlen:its.toArray.size=xs.length:=by rw[List.size_toArray];exact r.length.symm
  refine⟨"tuple",_,PyProof.Rows.slot_tuple_getitem.lookup,ht.typeIs,?_⟩
  exact HT.getItem_tuple_whole ht hs pl pu (by rw[hlen];exact hw) ⟨.ref a,H,I,rfl,q⟩
 ·rename_i hw
  exact zcF pins s σ H (.ref a) v vl vu lo hi sl Q I rx hs pl pu ⟨a,xs,rfl,hx,hw,q⟩
theorem z4e{xs:List D}{lo hi:Option Int}(h:HT.sIx xs.length 0 lo=0/\HT.sIx xs.length xs.length hi=xs.length):cutD xs lo hi=xs:=by
 unfold cutD;rw[h.1,h.2];simp
def gSlD(d:D)(lo hi:Option Int):Option D:=match d with | .list xs=>some (.list (cutD xs lo hi)) | .tuple xs=>some (.tuple (cutD xs lo hi)) | _=>none
def fSl(Fa:FE)(Fl Fh:FP):FE:=fun δ s=>(Fa δ s).bind fun p=>(Fl δ p.2).bind fun l=>(Fh δ l.2).bind fun h=>(gSlD p.1 l.1 h.1).map fun d=>(d,h.2)
theorem z3u{lo hi:Option Expr}{Fl Fh:FP}(ha:DE X e Fa)(hl:DP X lo Fl)(hh:DP X hi Fh):DE X (.Subscript e (.Slice lo hi none p) pos) (fSl Fa Fl Fh):=⟨fun Z A=>PE.imp (z6X (sl_list.or zbu) (ha Z A) (hl Z A) (hh Z A)) fun σ H Q ze1=>by
 obtain⟨B,ow,δ,s,d,s',R,S,ee,q⟩:=ze1
 unfold fSl at ee
 first | refine bnd2 ee fun dx s1 e1 ee=>?_ | refine mpp2 ee fun dx s1 e1 ee=>?_
 replace ee:((Fl δ s1).bind fun l=>(Fh δ l.2).bind fun h=>(gSlD dx l.1 h.1).map fun d=>(d,h.2))=some (d,s'):=ee
 first | refine bnd2 ee fun l s2 e2 ee=>?_ | refine mpp2 ee fun l s2 e2 ee=>?_
 replace ee:((Fh δ s2).bind fun h=>(gSlD dx l h.1).map fun d=>(d,h.2))=some (d,s'):=ee
 first | refine bnd2 ee fun h s3 e3 ee=>?_ | refine mpp2 ee fun h s3 e3 ee=>?_
 replace ee:((gSlD dx l h).map fun d=>(d,s3))=some (d,s'):=ee
 cases e4:gSlD dx l h with
 | none=>rw[e4]at ee;cases ee
 | some d' =>
  rw[e4]at ee
  cases ee
  refine⟨B,ow,δ,s,dx,s1,R,S,e1,fun v H1 x1 S1 r1=>⟨B,ow,δ,s1,l,s2,R.mono x1,S1,e2,fun H2 x2 S2=>⟨B,ow,δ,s2,h,s',(R.mono x1).mono x2,S2,e3,fun H3 x3 S3=>?_⟩⟩⟩
  have r3:=(r1.ext x2).ext x3
  have x13:=(x1.trans x2).trans x3
  cases r3 with
  | lst hh n z rs =>
   cases e4
   exact .inl ⟨_,_,rfl,.of hh,fun q' hq=>q _ _ (x13.trans (Ext.upd hq)) (S3.upd hq) (.lst zk (zO (R.mono x13).all hq) (S3.notZ hq) (rs.cut.ext (Ext.upd hq)))⟩
  | tup hh n z rs =>
   cases e4
   refine .inr ⟨_,_,rfl,.of hh,?_⟩
   split
   ·rename_i hw
    rw[rs.length]at hw
    refine q _ _ x13 S3 ?_
    rw[z4e hw]
    exact .tup hh n z rs
   ·exact fun q' hq=>q _ _ (x13.trans (Ext.upd hq)) (S3.upd hq) (.tup zk (zO (R.mono x13).all hq) (S3.notZ hq) (rs.cut.ext (Ext.upd hq)))
  | mod hh rs =>
   cases e4
   refine .inr ⟨_,_,rfl,.inr hh,?_⟩
   split
   ·rename_i hw
    rw[rs.length]at hw
    refine q _ _ x13 S3 ?_
    rw[z4e hw]
    exact .mod hh rs
   ·exact fun q' hq=>q _ _ (x13.trans (Ext.upd hq)) (S3.upd hq) (.tup zk (zO (R.mono x13).all hq) (S3.notZ hq) (rs.cut.ext (Ext.upd hq)))
  | non=>cases e4
  | bl _=>cases e4
  | int _=>cases e4
  | str _=>cases e4
  | st _=>cases e4
  | obj _ _ _ _ _=>cases e4⟩
theorem za0{prog:Program}{w:World}{A:Around}{E:Value->Shared->Prop}{s:Shared}{t b:Addr}{ws:List Value}{Q:Value->Shared->Prop}(ht:IsTup s.heap t ([]:List Value).toArray)(hb:IsTup s.heap b ws.toArray)(h1:Q (.ref b) s) :
  wpAny (model prog w) A (binaryOp .Add (.ref t) (.ref b)) Q E s:=by
 obtain⟨⟨cls,dd,data,sl⟩,ho,hc,n,hd⟩:=id ht
 obtain⟨⟨cls2,dd2,data2,sl2⟩,ho2,hc2,n2,hd2⟩:=id hb
 simp only at hc hd hc2 hd2
 subst hc hd hc2 hd2
 exact concat_meets ⟨_,ho,rfl⟩ ⟨_,ho2,rfl⟩ noFill_tuple_add seq_tuple_add PySem.F.slot_tuple_add PySem.F.entry_tuple_add (PySem.F.args_tuple_add_2 _ _)
   (tuple_addW0 t b ([]:List Value).toArray ws.toArray n n2 dd dd2 sl sl2 (by simp)) ⟨ho,ho2,h1⟩
def rCatT0(K:PySem.W.Frag):R2:=fun x y H Q=>∃ a b ys,x=.ref a/\y=.ref b/\SqT K H a []/\SqT K H b ys/\Q (.ref b) H
theorem za1:OpR X (binaryOp .Add) (rCatT0 X.K):=by
 intro pins s σ H x y v u Q I rx ry h
 obtain⟨a,b,ys,rfl,rfl,ha,hb,q1⟩:=h
 cases rx
 cases ry
 obtain⟨its,r1,p1,_⟩:=I.tuple ha
 obtain⟨its2,r2,p2,_⟩:=I.tuple hb
 cases r1
 exact za0 p1 p2 ⟨.ref b,H,I,rfl,q1⟩
def gCatT:G2:=fun a b=>match a,b with | .tuple xs,.tuple ys=>if small (xs++ys)=true then some (.tuple (xs++ys)) else none | _,_=>none
theorem RepW.tup{K:PySem.W.Frag}{Z:Zt}{H:Hp}{A:List Addr}{v:V}{ds:List D}(r:RepW K Z H A v (.tuple ds)):Rep K Z H A v (.tuple ds):=by
 rcases r with r | ⟨_,_,_,_,e2,_⟩
 ·exact r
 ·cases e2
theorem dcatT:DOp X (binaryOp .Add) gCatT:=DOp.of (op_catT.or za1) fun Z A H st x y dx dy d Q S hA rx ry e q=>by
 unfold gCatT at e
 split at e
 ·split at e
  ·rename_i hs
   cases e
   rename_i xs ys
   obtain⟨p1,v1,ev1,h1,r1⟩:=rx.tuple
   obtain⟨p2,v2,ev2,h2,r2⟩:=ry.tuple
   have hl:=of_decide_eq_true hs
   rw[List.length_append]at hl
   have l1:=r1.length
   have l2:=r2.length
   cases xs with
   | nil =>
    cases r1
    refine .inr ⟨p1,p2,v2,ev1,ev2,h1,h2,q _ H (Ext.refl H) S ?_⟩
    rw[<- ev2];exact ry.tup
   | cons a as =>
    refine .inl ⟨p1,p2,v1,v2,ev1,ev2,h1,h2,(fun z=>by rw[z]at l1;cases l1),by omega,fun z=>?_,fun z p hp=>?_⟩
    ·have ez:ys=[]:=by rw[z]at l2;exact List.eq_nil_of_length_eq_zero l2.symm
     subst ez
     rw[List.append_nil,<- ev1]at *
     exact q _ H (Ext.refl H) S rx.tup
    ·exact q _ _ (Ext.upd hp) (S.upd hp) (.tup zk (zO hA hp) (S.notZ hp) ((r1.append r2).ext (Ext.upd hp)))
  ·cases e
 ·cases e
def gAddA:G2:=fun a b=>(gAdd a b).or (gCatT a b)
theorem dadda:DOp X (binaryOp .Add) gAddA:=DOp.or dadd dcatT
def gMulA:G2:=fun a b=>(gMulI a b).or ((lRep a b).map PyData.list)
theorem drep:DOp X (binaryOp .Mult) (fun a b=>(lRep a b).map PyData.list):=DOp.of zaC fun Z A H st x y dx dy d Q S hA rx ry e q=>by
 replace e:(lRep dx dy).map PyData.list=some d:=e
 first | refine bnd1 e fun ds e1 e=>?_ | refine mpp1 e fun ds e1 e=>?_
 cases e
 unfold lRep at e1
 split at e1
 ·split at e1
  ·rename_i hs
   cases e1
   simp only[Bool.and_eq_true,decide_eq_true_eq]at hs
   obtain⟨p1,v1,rfl,h1,_,r1⟩:=rx.lst
   have ey:=ry.int
   exact⟨p1,_,v1,rfl,ey,h1,hs.1.1,hs.1.2,by rw[r1.length];exact hs.2,fun p hp=>q _ _ (Ext.upd hp) (S.upd hp) (.lst zk (zO hA hp) (S.notZ hp) ((r1.rep _).ext (Ext.upd hp)))⟩
  ·cases e1
 ·cases e1
theorem dmula:DOp X (binaryOp .Mult) gMulA:=DOp.or dmul_int drep
theorem zbv:OpR X (inplaceOp .Mult) (rI (fun i j=>mulOk i j=true) fun i j=>.int (i * j)):=opI fun _ _ _ _ _ _ _ hc q=>imul_int q (z70 hc)
theorem zaM:DOp X (inplaceOp .Sub) gSubI:=z1x (z5q zb4) (fun _ _ _=>trivial) fun i j _ _ _ _=>.int _
theorem zcV:DOp X (inplaceOp .Mult) gMulI:=z1x zbv (fun _ _ h=>h) fun i j _ _ _ _=>.int _
def sAug(i:Nat)(g:G2)(F:FE):GS:=fun δ s=>match δ[i]? with | some (.val d)=>(F δ s).bind fun q=>(g d q.1).map fun r=>(.next (δ.set i (.val r)),q.2) | _=>none
theorem zaN{op:Operator}{g:G2}{pos':Pos}(hN:X.N.Nodup)(ho:DOp X (inplaceOp op) g)(he:DE X e F)(hi:X.N[i]?=some x:=by rfl)(hx:Loc X.env.scope x:=by first | exact Or.inl rfl | exact Or.inr rfl)
  (hf:X.fn x=true\/X.env.scope.names.lookup x=some .local:=by first | exact .inl rfl | exact .inr rfl | assumption):DS X (.AugAssign (.Name x pos') op e pos) (sAug i g F):=⟨fun Z A pins s σ H E I ze2=>by
 obtain⟨ow,δ,st,o,st',R,S,ee,q⟩:=ze2
 unfold sAug at ee
 split at ee
 ·rename_i d hd
  first | refine bnd2 ee fun dy s1 e1 ee=>?_ | refine mpp2 ee fun dy s1 e1 ee=>?_
  replace ee:((g d dy).map fun r=>(Out.next (δ.set i (.val r)),s1))=some (o,st'):=ee
  first | refine bnd1 ee fun r e2 ee=>?_ | refine mpp1 ee fun r e2 ee=>?_
  cases ee
  obtain⟨v,h1,h2⟩:=R.val i d hd
  let T:TIp:=fun x y H1 Q=>x=v/\∃ H0,Ext Z H H1/\H0=H1/\StateAt Z H1 st'/\Rep X.K Z H1 (A++ow.map (·.2)) y dy/\∀ v' H',Ext Z H1 H'->StateAt Z H' st'->Rep X.K Z H' (A++ow.map (·.2)) v' r->Q v' H'
  have hT:PIp X op T:=fun pins s σ H1 x y u w Q I1 rx ry ze3=>by
   obtain⟨ex,H0,x1,_,S1,r1,q1⟩:=ze3
   subst ex
   exact ho Z (A++ow.map (·.2)) pins s σ H1 st' _ y u w d dy r Q I1 S1 (R.mono x1).all (h2.ext x1).w r1.w rx ry e2 q1
  refine zcv (ti:=T) hN hi hx (he Z A) hT hf pins s σ H E I ⟨v,h1,_,ow,δ,st,dy,_,R,S,e1,fun y H1 x1 S1 r1=>⟨rfl,H1,x1,rfl,S1,r1,fun v' H' x2 S2 r2=>?_⟩⟩
  obtain⟨R',f⟩:=(R.mono (x1.trans x2)).set (i:=i) r2
  exact q _ _ H' R' S2 ((Frm.ext (x1.trans x2)).trans f)
 ·cases ee⟩
end
end L3
namespace L3
open PySem L2 PySem.Spec PyProof.Rows
def clOf(cells:List (Str × Addr)):List (Str × NameKind)->List (Str × Addr)->List (Str × Addr)
 | [],cs=>cs
 | y::r,cs=>clOf cells r (if y.2 == NameKind.free then (y.1,(cells.lookup y.1).getD 0)::cs else cs)
theorem z4D{env:Env}{scope:Scope}(h:∀ y∈scope.names,y.2=.free->∃ c,env.cells.lookup y.1=some c):closureFor scope env=pure (clOf env.cells scope.names []):=by
 unfold closureFor
 generalize scope.names=names at h
 have key:∀ (names:List (Str × NameKind)) (cs:List (Str × Addr)),(∀ y∈names,y.2=.free->∃ c,env.cells.lookup y.1=some c) ->
   (forIn names cs fun(x:Str × NameKind) (r:List (Str × Addr))=>(if (x.2 == NameKind.free)=true then do let a <- cellOf env x.1;pure (ForInStep.yield ((x.1,a)::r)) else pure (ForInStep.yield r):Sem _))=pure (clOf env.cells names cs):=by
  intro names
  induction names with
  | nil=>intro cs _;rfl
  | cons y r ih =>
   intro cs hy
   rw[List.forIn_cons]
   obtain⟨n,k⟩:=y
   by_cases hk:k=.free
   ·subst hk
    obtain⟨c,hc⟩:=hy (n,.free) List.mem_cons_self rfl
    have e:cellOf env n=pure c:=by unfold cellOf;simp only at hc;rw[hc]
    simp only[beq_self_eq_true,if_true,e,pure_bind]
    rw[ih _ fun y hm=>hy y (List.mem_cons_of_mem _ hm)]
    simp only at hc
    simp[clOf,hc]
   ·have hb:(k == NameKind.free)=false:=by simpa using hk
    simp only[hb,Bool.false_eq_true,if_false,pure_bind]
    rw[ih _ fun y hm=>hy y (List.mem_cons_of_mem _ hm)]
    simp[clOf,hb]
 have:=key names [] h
 simpa using this
theorem z7c{cells:List (Str × Addr)}:∀ {names:List (Str × NameKind)} {cs:List (Str × Addr)} {n:Str} {c:Addr},(n,c)∈clOf cells names cs->(n,c)∈cs\/((n,NameKind.free)∈names/\c=(cells.lookup n).getD 0)
 | [],_,_,_,h=>.inl h
 | y::r,cs,n,c,h=>by
  unfold clOf at h
  rcases z7c h with h1 | ⟨h1,h2⟩
  ·split at h1
   ·rename_i hk
    rcases List.mem_cons.mp h1 with e | h1
    ·obtain⟨y1,y2⟩:=y
     cases e
     have:y2=.free:=by simpa using hk
     subst this
     exact .inr ⟨List.mem_cons_self,rfl⟩
    ·exact .inl h1
   ·exact .inl h1
  ·exact .inr ⟨List.mem_cons_of_mem _ h1,h2⟩
theorem z5x{cells:List (Str × Addr)}:∀ {names:List (Str × NameKind)} {cs:List (Str × Addr)} {q:Str × Addr},q∈cs->q∈clOf cells names cs
 | [],_,_,h=>h
 | y::r,cs,q,h=>by
  unfold clOf
  refine z5x ?_
  split
  ·exact List.mem_cons_of_mem _ h
  ·exact h
theorem z7d{cells:List (Str × Addr)}:∀ {names:List (Str × NameKind)} {cs:List (Str × Addr)} {n:Str},(n,NameKind.free)∈names->∃ c,(n,c)∈clOf cells names cs
 | [],_,_,h=>nomatch h
 | y::r,cs,n,h=>by
  rcases List.mem_cons.mp h with e | h
  ·subst e
   unfold clOf
   exact⟨(cells.lookup n).getD 0,z5x (by simp)⟩
  ·unfold clOf
   exact z7d h
theorem z28{α:Type}:∀ {l:List (Str × α)} {x:Str} {c:α},l.lookup x=some c->(x,c)∈l
 | [],_,_,h=>nomatch h
 | (y,d)::r,x,c,h=>by
  rw[List.lookup_cons]at h
  split at h
  ·rename_i e
   cases h
   rw[eq_of_beq e];exact List.mem_cons_self
  ·exact List.mem_cons_of_mem _ (z28 h)
theorem z1d{α:Type}:∀ {l:List (Str × α)} {x:Str} {c:α},(x,c)∈l->∃ d,l.lookup x=some d
 | [],_,_,h=>nomatch h
 | (y,d)::r,x,c,h=>by
  rw[List.lookup_cons]
  split
  ·exact⟨_,rfl⟩
  ·rename_i e
   rcases List.mem_cons.mp h with z | z
   ·cases z;simp at e
   ·exact z1d z
def compChk(sc:Scope)(N0:List Str)(scope:Scope)(N:List Str)(k:Nat)(fr:List Nat):Bool :=
 decide (scope.kind=.function) && decide (sc.kind=.function) && scope.names.all (fun y=>decide (y.2≠.cell)) && scope.names.all (fun y=>!decide (y.2=.local) || decide (scope.names.lookup y.1=some .local)) &&
 scope.names.all (fun y=>!decide (y.2=.free) || decide (sc.names.lookup y.1=some .cell)) && decide (N.length=k + fr.length) &&
 (List.range fr.length).all fun t=>match fr[t]?,N[k + t]? with | some j,some x=>decide (N0[j]?=some x) && decide (scope.names.lookup x=some .free) | _,_=>false
theorem z1m{scope:Scope}{env:Env}:∀ {names:List (Str × NameKind)} {x:Str} {k:NameKind},(∀ y∈names,y.2=.free->env.scope.kind=.function/\env.scope.names.lookup y.1=some .cell)->names.lookup x=some k ->
  (names.map fun(n,k)=>if (k == .free && env.scope.kind == .function && env.kindOf n == some .cell) then (n,NameKind.cell) else (n,k)).lookup x=some (if k=.free then .cell else k)
 | [],_,_,_,h=>nomatch h
 | (n,k')::r,x,k,hf,h=>by
  rw[List.lookup_cons]at h
  rw[List.map_cons]
  by_cases hk:k'=.free
  ·subst hk
   obtain⟨h1,h2⟩:=hf (n,.free) List.mem_cons_self rfl
   have e:(NameKind.free == NameKind.free && env.scope.kind == .function && env.kindOf n == some .cell)=true:=by
    simp only[beq_self_eq_true,Bool.true_and,Bool.and_eq_true,beq_iff_eq]
    exact⟨h1,h2⟩
   simp only[e,if_true]
   rw[List.lookup_cons]
   cases ex:x == n with
   | true=>rw[ex]at h;cases h;rfl
   | false=>rw[ex]at h;exact z1m (scope:=scope) (fun y hy=>hf y (List.mem_cons_of_mem _ hy)) h
  ·have e:(k' == NameKind.free && env.scope.kind == .function && env.kindOf n == some .cell)=false:=by simp[hk]
   simp only[e,Bool.false_eq_true,if_false]
   rw[List.lookup_cons]
   cases ex:x == n with
   | true=>rw[ex]at h;cases h;simp[hk]
   | false=>rw[ex]at h;exact z1m (scope:=scope) (fun y hy=>hf y (List.mem_cons_of_mem _ hy)) h
theorem z3i{env:Env}:∀ {names:List (Str × NameKind)} {x:Str},names.lookup x=none ->
  (names.map fun(n,k)=>if (k == .free && env.scope.kind == .function && env.kindOf n == some .cell) then (n,NameKind.cell) else (n,k)).lookup x=none
 | [],_,_=>rfl
 | (n,k')::r,x,h=>by
  rw[List.lookup_cons]at h
  rw[List.map_cons]
  cases ex:x == n with
  | true=>rw[ex]at h;cases h
  | false =>
   rw[ex]at h
   have ih:=z3i (env:=env) (names:=r) h
   by_cases hk:(k' == NameKind.free && env.scope.kind == .function && env.kindOf n == some .cell)=true
   ·simp only[hk,if_true,List.lookup_cons,ex];exact ih
   ·simp only[hk,Bool.false_eq_true,if_false,List.lookup_cons,ex];exact ih
theorem compOkC{X:Cx}{sc:Scope}{N0:List Str}{scope:Scope}{N:List Str}{k:Nat}{fr:List Nat}(hsc:X.env.scope=sc)(hN:X.N=N0)(h:compChk sc N0 scope N k fr=true)(hc:∀ x,X.env.scope.names.lookup x=some .cell->∃ c,X.env.cells.lookup x=some c) :
  CompOk X scope (clOf X.env.cells scope.names []) N k fr:=by
 subst hsc hN
 simp only[compChk,Bool.and_eq_true,decide_eq_true_eq,List.all_eq_true,Bool.or_eq_true,Bool.not_eq_true',decide_eq_false_iff_not]at h
 obtain⟨⟨⟨⟨⟨⟨h1,h2⟩,h3⟩,h4⟩,h5⟩,h6⟩,h7⟩:=h
 have hfree:∀ y∈scope.names,y.2=.free->X.env.scope.names.lookup y.1=some .cell:=fun y hy e=>(h5 y hy).elim (fun z=>absurd e z) id
 have hcl:∀ y∈scope.names,y.2=.free->∃ c,X.env.cells.lookup y.1=some c:=fun y hy e=>hc _ (hfree y hy e)
 have hmem:∀ x,(x,NameKind.free)∈scope.names->∃ c,(clOf X.env.cells scope.names []).lookup x=some c:=fun x hx=>by
  obtain⟨c,h⟩:=z7d (cells:=X.env.cells) (cs:=[]) hx
  exact z1d h
 have lab:∀ x kd,scope.names.lookup x=some kd->(relabel scope X.env).names.lookup x=some (if kd=.free then .cell else kd):=fun x kd hx =>
  z1m (scope:=scope) (env:=X.env) (fun y hy e=>⟨h2,hfree y hy e⟩) hx
 refine⟨h1,h3,fun y hy e=>(h4 y hy).elim (fun z=>absurd e z) id,z4D hcl,fun x c hx=>?_,fun x hx=>?_,h6,fun t j x ht hx=>?_⟩
 ·rcases z7c (z28 hx) with h | ⟨h,e⟩
  ·exact nomatch h
  ·obtain⟨c',hc'⟩:=hcl _ h rfl
   simp only at hc'
   rw[e,hc'];rfl
 ·cases e:scope.names.lookup x with
  | none =>
   have:=z3i (env:=X.env) e
   rcases hx with hx | hx
   ·rw[show(relabel scope X.env).names.lookup x=none from this]at hx;cases hx
   ·rw[show(relabel scope X.env).names.lookup x=none from this]at hx;cases hx
  | some kd =>
   have hl:=lab x kd e
   have hm:=z28 e
   by_cases hk:kd=.free
   ·subst hk;exact hmem x hm
   ·rw[if_neg hk]at hl
    have nc:=h3 _ hm
    rcases hx with hx | hx
    ·rw[hl]at hx;cases hx;exact absurd rfl nc
    ·rw[hl]at hx;cases hx;exact absurd rfl hk
 ·have htl:t < fr.length:=(List.getElem?_eq_some_iff.mp ht).1
  have h8:=h7 t (List.mem_range.mpr htl)
  rw[ht,hx]at h8
  simp only[Bool.and_eq_true,decide_eq_true_eq]at h8
  obtain⟨h9,h10⟩:=h8
  have hm:=z28 h10
  have hcell:=hfree _ hm rfl
  simp only at hcell
  refine⟨h9,.inr (.inl hcell),hmem x hm,.inl ?_,fun z=>by rw[hcell]at z;cases z⟩
  have:=lab x _ h10
  rw[if_pos rfl]at this
  exact this
mutual
def noList:D->Bool
 | .list _=>false
 | .dict _=>false
 | .tuple ds=>noLists ds
 | _=>true
def noLists:List D->Bool
 | []=>true
 | d::ds=>noList d && noLists ds
end
theorem Reps.off{K:PySem.W.Frag}{Z:Zt}{H:Hp}{A B:List Addr}(hB:∀ q∈B,∃ vs,H q=some (.lst vs)){vs:List V}{ds:List D}(r:Reps K Z H A vs ds):noLists ds=true->Reps K Z H (A++B) vs ds :=
 Reps.rec (motive_1:=fun v d _=>noList d=true->Rep K Z H (A++B) v d) (motive_2:=fun vs ds _=>noLists ds=true->Reps K Z H (A++B) vs ds) (fun _=>.non) (fun b _=>.bl b) (fun i _=>.int i) (fun x _=>.str x)
  (fun h n z _ r e=>.tup h (fun m=>(List.mem_append.mp m).elim n fun m=>by obtain⟨vs,hv⟩:=hB _ m;rw[h]at hv;cases hv) z (r e)) (fun _ _ _ _ _ e=>absurd e Bool.false_ne_true) (fun h _ r e=>.mod h (r e)) (fun _ e=>absurd e Bool.false_ne_true)
  (fun _ _ _ _ _ _ e=>absurd e Bool.false_ne_true) (fun _=>.nil) (fun _ _ r t e=>.cons (r ((Bool.and_eq_true _ _).mp e).1) (t ((Bool.and_eq_true _ _).mp e).2)) r
theorem Rep.off{K:PySem.W.Frag}{Z:Zt}{H:Hp}{A B:List Addr}(hB:∀ q∈B,∃ vs,H q=some (.lst vs)){v:V}{d:D}(r:Rep K Z H A v d)(e:noList d=true):Rep K Z H (A++B) v d:=Reps.head (Reps.off hB (.cons r .nil) (by rw[noLists,e];rfl))
inductive tDVK(K:PySem.W.Frag)(Z:Zt)(A:List Addr)(F:FE)(σ:L2.St)(H:Hp)(Q:VK):Prop
 | mk (B:Hp) (ow:Ow) (δ:Sl) (s:Sx) (d:D) (s':Sx) (h0:RepS K B Z A ow σ δ H) (h1:StateAt Z H s) (h2:F δ s=some (d,s')) (h3:∀ v H',Ext Z H H'->StateAt Z H' s'->Rep K Z H' A v d->Q v H')
abbrev tDV(X:Cx)(Z:Zt)(A:List Addr)(F:FE):TE:=tDVK X.K Z A F
structure DV(X:Cx)(e:Expr)(F:FE):Prop where
 go:∀ Z A,PE X e (tDV X Z A F)
instance {X:Cx} {e:Expr} {F:FE}:CoeFun (DV X e F) (fun _=>∀ Z A,PE X e (tDV X Z A F)):=⟨fun h=>h.go⟩
inductive tDVAK(K:PySem.W.Frag)(Z:Zt)(A:List Addr)(F:FA)(σ:L2.St)(H:Hp)(Q:List V->Hp->Prop):Prop
 | mk (B:Hp) (ow:Ow) (δ:Sl) (s:Sx) (ds:List D) (s':Sx) (h0:RepS K B Z A ow σ δ H) (h1:StateAt Z H s) (h2:F δ s=some (ds,s')) (h3:∀ vs H',Ext Z H H'->StateAt Z H' s'->Reps K Z H' A vs ds->Q vs H')
abbrev tDVA(X:Cx)(Z:Zt)(A:List Addr)(F:FA):TA:=tDVAK X.K Z A F
structure DVA(X:Cx)(es:List Expr)(F:FA):Prop where
 go:∀ Z A,PA X es (tDVA X Z A F)
instance {X:Cx} {es:List Expr} {F:FA}:CoeFun (DVA X es F) (fun _=>∀ Z A,PA X es (tDVA X Z A F)):=⟨fun h=>h.go⟩
section
variable {X:Cx} {e e2 ie:Expr} {es:List Expr} {F Fa Fi:FE} {FL:FA} {x:Str} {i:Nat} {p pos px tpos:Pos}
theorem DE.v(h:DE X e F):DV X e F:=⟨fun Z A=>PE.imp (h Z A) fun σ H Q ze4=>(by obtain⟨B,ow,δ,s,d,s',R,S,ee,q⟩:=ze4;exact⟨B,ow,δ,s,d,s',R,S,ee,fun v H' a b c=>q v H' a b (c.sub fun q hq=>List.mem_append_left _ hq)⟩)⟩
theorem zbw:DVA X [] aNil:=⟨fun Z A=>PA.imp z0o fun σ H Q ze5=>by
 obtain⟨B,ow,δ,s,d,s',R,S,e,q⟩:=ze5
 cases e
 exact q [] H (Ext.refl H) S .nil⟩
theorem z7e(ha:DV X e Fa)(hr:DVA X es FL)(hs:starEach (e::es) X.env=(false,eval e X.env)::starEach es X.env:=by rfl):DVA X (e::es) (aCons Fa FL):=⟨fun Z A=>PA.imp (zK (ha Z A) (hr Z A) hs) fun σ H Q ze6=>by
 obtain⟨B,ow,δ,s,d,s',R,S,e,q⟩:=ze6
 unfold aCons at e
 cases e1:Fa δ s with
 | none=>rw[e1]at e;cases e
 | some p =>
  obtain⟨dx,s1⟩:=p
  rw[e1]at e
  replace e:((FL δ s1).map fun q=>(dx::q.1,q.2))=some (d,s'):=e
  cases e2:FL δ s1 with
  | none=>rw[e2]at e;cases e
  | some p2 =>
   rw[e2]at e
   cases e
   exact⟨B,ow,δ,s,dx,s1,R,S,e1,fun v H1 x1 S1 r=>⟨B,ow,δ,s1,p2.1,p2.2,R.mono x1,S1,e2,fun vs H2 x2 S2 rs=>q _ H2 (x1.trans x2) S2 (.cons (r.ext x2) rs)⟩⟩⟩
def fCallB(g:GF)(FL:FA):FE:=fun δ s=>(FL δ s).bind fun p=>(g p.1 p.2).bind fun r=>if noList r.1=true then some r else none
theorem z7T{gf:GF}{Z:Zt}{A:List Addr}{σ:L2.St}{H:Hp}{Q:VK}{E:XK}(h:tD X Z A (fCallB gf FL) σ H Q):tCall (spD X.K gf) [] E (tDVA X Z A FL) σ H Q:=by
 obtain⟨B,ow,δ,s,d,s',R,S,e,q⟩:=h
 unfold fCallB at e
 cases e1:FL δ s with
 | none=>rw[e1]at e;cases e
 | some p =>
  obtain⟨ds,s1⟩:=p
  rw[e1]at e
  replace e:((gf ds s1).bind fun r=>if noList r.1=true then some r else none)=some (d,s'):=e
  cases e2:gf ds s1 with
  | none=>rw[e2]at e;cases e
  | some r =>
   rw[e2]at e
   simp only[Option.bind_some]at e
   split at e
   ·rename_i hn
    cases e
    refine⟨B,ow,δ,s,ds,s1,R,S,e1,fun vs H1 x1 S1 rs=>?_⟩
    show spD X.K gf (vs++[]) H1 Q E
    rw[List.append_nil]
    refine⟨Z,A,ds,s1,_,_,rs,fun q hq=>?_,S1,e2,fun v H' a b c=>q v H' (x1.trans a) b (c.off (fun q hq=>?_) hn)⟩
    ·exact((R.mono x1).ok q hq)
    ·obtain⟨⟨j,q'⟩,hq',rfl⟩:=List.mem_map.mp hq
     obtain⟨_,⟨vs',h'⟩,nz,_⟩:=R.ows j q' hq'
     exact⟨vs',a _ _ (x1 _ _ h' nz) nz⟩
   ·cases e
theorem zbx{gf:GF}{k k':Nat}{ps:List Str}(C:Cal X.prog X.w X.K X.mg X.base x ps k gf)(hr:Room k' X.A)(ha:DVA X (e::es) FL)(hk:k<=k':=by decide)(hg:Gl X x:=by rfl)(hdb:(x == ("__debug__":Str))=false:=by decide)
  (he:starEach (e::es) X.env=(false,eval e X.env)::starEach es X.env:=by rfl) (hpl:(backTo pos (starEach es X.env)).any (·.1)=false:=by rfl):DE X (.Call (.Name x p) (e::es) [] pos) (fCallB gf FL):=by
 obtain⟨f,fd,G,hm,hk',hb⟩:=C
 exact⟨fun Z A=>PE.imp (z4m G (hr.mono hk) hg hm hk' hb .nil pass0 (ha Z A) hdb he hpl) fun σ H Q q=>z7T q⟩
def fVarW(i:Nat):FE:=fun δ s=>match δ[i]? with | some (.val d)=>some (d,s) | some (.own xs)=>some (.list xs,s) | _=>none
theorem zeO{e:Expr}(h:PE X e (tVar i)):DW X e (fVarW i):=⟨fun Z A=>PE.imp h fun σ H Q ze7=>by
 obtain⟨B,ow,δ,s,d,s',R,S,ee,q⟩:=ze7
 unfold fVarW at ee
 split at ee
 ·rename_i d' hd
  cases ee
  obtain⟨v,h1,h2⟩:=R.val i _ hd
  exact⟨v,h1,q v H (Ext.refl H) S h2.w⟩
 ·rename_i xs hd
  cases ee
  obtain⟨p,vs,h1,h2,h3,h4⟩:=R.own i xs hd
  exact⟨_,h2,q _ H (Ext.refl H) S (.inr ⟨p,vs,_,rfl,rfl,h3,(R.ows i p h1).2.2.1,h4⟩)⟩
 ·cases ee⟩
theorem dvw(i:Nat){x:Str}(hN:X.N[i]?=some x:=by rfl)(hv:Vis X.env.scope x:=by first | exact Or.inl rfl | exact Or.inr (Or.inl rfl) | exact Or.inr (Or.inr rfl))(hd:(x == ("__debug__":Str))=false:=by decide)
  (hcd:(x == ("__classdict__":Str))=false:=by decide):DW X (.Name x pos) (fVarW i):=zeO (pv i hN hv hd hcd)
theorem zeP{e:Expr}(h:PE X e (tVar i)):DV X e (fVarW i):=⟨fun Z A=>PE.imp h fun σ H Q ze8=>by
 obtain⟨B,ow,δ,s,d,s',R,S,ee,q⟩:=ze8
 unfold fVarW at ee
 split at ee
 ·rename_i d' hd
  cases ee
  obtain⟨v,h1,h2⟩:=R.val i _ hd
  exact⟨v,h1,q v H (Ext.refl H) S (h2.sub fun q hq=>List.mem_append_left _ hq)⟩
 ·rename_i xs hd
  cases ee
  obtain⟨p,vs,h1,h2,h3,h4⟩:=R.own i xs hd
  obtain⟨_,_,nz,na⟩:=R.ows i p h1
  exact⟨_,h2,q _ H (Ext.refl H) S (.lst h3 na nz (h4.sub fun q hq=>List.mem_append_left _ hq))⟩
 ·cases ee⟩
theorem dvv(i:Nat){x:Str}(hN:X.N[i]?=some x:=by rfl)(hv:Vis X.env.scope x:=by first | exact Or.inl rfl | exact Or.inr (Or.inl rfl) | exact Or.inr (Or.inr rfl))(hd:(x == ("__debug__":Str))=false:=by decide)
  (hcd:(x == ("__classdict__":Str))=false:=by decide):DV X (.Name x pos) (fVarW i):=zeP (pv i hN hv hd hcd)
theorem z8Q:PGet X (rIxL X.K):=by
 intro pins s σ H x y v u Q I rx ry h
 obtain⟨p,xs,i,z,rfl,rfl,hq,he,q⟩:=h
 cases rx
 obtain⟨t,rfl⟩:=ry
 obtain⟨its,r,pl,hz⟩:=I.list hq
 obtain⟨j,h1,h2,h3,h4,h5⟩:=z4n he
 obtain⟨w,ew,rw'⟩:=r.get h2
 have hl:=r.length
 have hn:=line63
 have fin:EP X pins σ Q w s:=⟨z,H,I,rw',q⟩
 by_cases h0:0<=i
 ·have hj:i.toNat=j:=by
   rw[seqIndex_of h0 h5]at h1
   exact Option.some.inj h1
  exact wpAny_getItem_list pl.isList h0 (by omega) (by rw[hj];simpa using ew) fin
 ·have hj:(i + (its.toArray.size:Int)).toNat=j:=by
   rw[seqIndex_neg (by omega) h4]at h1
   rw[List.size_toArray,<- hl]
   exact Option.some.inj h1
  exact wpAny_getItem_list_neg pl.isList (by omega) (by rw[List.size_toArray];omega) (by omega) (by rw[hj];simpa using ew) fin
def sAugI(i:Nat)(g:G2)(Fi F:FE):GS:=fun δ s=>(Fi δ s).bind fun k=>(F δ k.2).bind fun v=>match δ[i]?,k.1 with
 | some (.own xs),.int kk=>(ixN xs.length kk).bind fun j=>(xs[j]?).bind fun old=>(g old v.1).map fun new=>(.next (δ.set i (.own (xs.set j new))),v.2)
 | _,_=>none
theorem zby{op:Operator}{g:G2}(ho:DOp X (inplaceOp op) g)(hv:PE X (.Name x px) (tVar i))(hi:DW X ie Fi)(he:DE X e F)
  (ha:∀ ov iv new,augStore ie ov iv new=(do holding [new,ov,iv] (setItem ov iv new);release [new,ov,iv] [];pure .next):=by intros;rfl):DS X (.AugAssign (.Subscript (.Name x px) ie tpos) op e pos) (sAugI i g Fi F):=⟨fun Z A pins s σ H E I ze9=>by
 obtain⟨ow,δ,st,o,st',R,S,ee,q⟩:=ze9
 unfold sAugI at ee
 cases e1:Fi δ st with
 | none=>rw[e1]at ee;cases ee
 | some p1 =>
  obtain⟨k,s1⟩:=p1
  rw[e1]at ee
  simp only[Option.bind_some]at ee
  cases e2:F δ s1 with
  | none=>rw[e2]at ee;cases ee
  | some p2 =>
   obtain⟨dv,s2⟩:=p2
   rw[e2]at ee
   simp only[Option.bind_some]at ee
   split at ee
   ·rename_i xs kk ho'
    cases e3:ixN xs.length kk with
    | none=>rw[e3]at ee;cases ee
    | some j =>
     rw[e3]at ee
     simp only[Option.bind_some]at ee
     cases e4:xs[j]? with
     | none=>rw[e4]at ee;cases ee
     | some old =>
      rw[e4]at ee
      simp only[Option.bind_some]at ee
      cases e5:g old dv with
      | none=>rw[e5]at ee;cases ee
      | some new =>
       rw[e5]at ee
       cases ee
       obtain⟨a,vs,h1,h2,h3,h4⟩:=R.own i xs ho'
       have nz:=(R.ows i a h1).2.2.1
       obtain⟨vo,hvo,rvo⟩:=h4.get e4
       let T:TIp:=fun x y H1 Q=>x=vo/\Ext Z H H1/\StateAt Z H1 st'/\Rep X.K Z H1 (A++ow.map (·.2)) y dv/\∀ v' H',Ext Z H1 H'->StateAt Z H' st'->Rep X.K Z H' (A++ow.map (·.2)) v' new->Q v' H'
       have hT:PIp X op T:=fun pins s σ H1 x y u w Q I1 rx ry zea=>by
        obtain⟨ex,x1,S1,r1,q1⟩:=zea
        subst ex
        exact ho Z (A++ow.map (·.2)) pins s σ H1 st' _ y u w old dv new Q I1 S1 (R.mono x1).all (rvo.ext x1).w r1.w rx ry e5 q1
       refine zb3 (tip:=T) hv (hi Z A) z8Q (he Z A) hT z4o ha pins s σ H E I ⟨_,h2,_,ow,δ,st,_,s1,R,S,e1,fun u H1 x1 S1 r1=>?_⟩
       have eu:=r1.int
       refine⟨a,vs,kk,vo,rfl,eu,SqL.of (x1 _ _ h3 nz),?_,⟨_,ow,δ,s1,dv,_,R.mono x1,S1,e2,fun y H2 x2 S2 r2=>⟨rfl,x1.trans x2,S2,r2,fun v' H3 x3 S3 r3=>?_⟩⟩⟩
       ·unfold L2.atI;rw[h4.length,e3];exact hvo
       ·have x13:=(x1.trans x2).trans x3
        obtain⟨R',f⟩:=(R.mono x13).change ho' h1 h2 ((h4.ext x13).set r3 j)
        exact⟨a,vs,kk,j,rfl,eu,x13 _ _ h3 nz,by rw[h4.length];exact e3,q _ _ _ R' (S3.chg nz) ((Frm.ext x13).trans f)⟩
   ·cases ee⟩
end
end L3
namespace L3
open PySem L2 PySem.Spec PyProof.Rows
mutual
inductive Cn:Expr->D->Prop
 | int {i:Int} {j:Nat} {p:Pos}:Cn (.Constant (.int i) j p) (.int i)
 | bl {b:Bool} {j:Nat} {p:Pos}:Cn (.Constant (.bool b) j p) (.bool b)
 | non {j:Nat} {p:Pos}:Cn (.Constant .none j p) .none
 | str {x:Str} {j:Nat} {p:Pos}:Cn (.Constant (.str x) j p) (.str x)
 | neg {a:Expr} {i:Int} {p:Pos}:Cn a (.int i)->Cn (.UnaryOp .USub a p) (.int (-i))
 | tup {es:List Expr} {ds:List D} {c:Nat} {p:Pos}:small ds=true->Cns es ds->Cn (.Tuple es c p) (.tuple ds)
 | lst {es:List Expr} {ds:List D} {p:Pos}:small ds=true->Cns es ds->Cn (.List es p) (.list ds)
inductive Cns:List Expr->List D->Prop
 | nil:Cns [] []
 | cons {e:Expr} {d:D} {es:List Expr} {ds:List D}:Cn e d->Cns es ds->Cns (e::es) (d::ds)
end
structure Cst(K:PySem.W.Frag)(mg:Str->Option Value)(x:Str)(d:D):Prop where
 de:∀ {X:Cx} {pos:Pos},X.K=K->X.mg=mg->Gl X x->DE X (.Name x pos) (fC d)
theorem zcW{X:Cx}{x:Str}{d:D}{pos:Pos}(c:Cst X.K X.mg x d)(hg:Gl X x:=by rfl):DE X (.Name x pos) (fC d):=c.de rfl rfl hg
theorem za2{e:Expr}{d:D}{es:List Expr}{env:Env}(h:Cn e d):starEach (e::es) env=(false,eval e env)::starEach es env:=by
 cases h <;> rfl
section
variable {X:Cx}
theorem DE.as{e:Expr}{F G:FE}(h:DE X e F)(he:∀ δ s r,G δ s=some r->F δ s=some r):DE X e G:=⟨fun Z A=>PE.imp (h Z A) fun σ H Q zeb=>(by obtain⟨B,ow,δ,s,d,s',R,S,ee,q⟩:=zeb;exact⟨B,ow,δ,s,d,s',R,S,he _ _ _ ee,q⟩)⟩
theorem zcX{e:Expr}{d:D}(h:Cn e d):DE X e (fC d) :=
 Cn.rec (motive_1:=fun e d _=>DE X e (fC d)) (motive_2:=fun es ds _=>DA X es (fun _ s=>some (ds,s))) de_int z6g z8y zcM
  (fun _ h=>(z2N h.w).as fun δ s r hr=>by cases hr;rfl) (fun hs _ h=>(zR h).as fun δ s r hr=>by cases hr;unfold eTup;simp[hs]) (fun hs _ h=>(z1b h).as fun δ s r hr=>by cases hr;unfold eLst;simp[hs])
  z8 (fun h _ d t=>z3 d t (za2 h)) h
end
end L3
namespace L3
open PySem L2 PySem.Spec PyProof.Rows
theorem z0c{T:Tgt}{Ft:FT}{F:FE}{δc:Sl}{f:D->D}{s:Sx}:∀ (ds:List D),(∀ d∈ds,∃ δ1,T.run d δc=some δ1/\Ft δ1 s=some (true,s)/\F δ1 s=some (f d,s))->compD T Ft F δc ds s=some (ds.map f,s)
 | [],_=>rfl
 | d::ds,h=>by
  obtain⟨δ1,e1,e2,e3⟩:=h d List.mem_cons_self
  have ih:=z0c ds fun d hd=>h d (List.mem_cons_of_mem _ hd)
  unfold compD
  rw[e1]
  simp only[Option.bind_some,e2,if_true,e3,ih,Option.map_some,List.map_cons]
theorem z5y{T:Tgt}{Ft:FT}{F:FE}{δc:Sl}(P:D->Prop)(c:Nat)(step:∀ n s d,Good (n + c) s->∃ δ1 x s',T.run d δc=some δ1/\Ft δ1 s=some (true,s)/\F δ1 s=some (x,s')/\P x/\Good n s') :
  ∀ (ds:List D) (n:Nat) (s:Sx),Good (n + c * ds.length) s->∃ xs s',compD T Ft F δc ds s=some (xs,s')/\(∀ x∈xs,P x)/\xs.length=ds.length/\Good n s'
 | [],n,s,h=>⟨[],s,rfl,(fun _ z=>nomatch z),rfl,by simpa using h⟩
 | d::ds,n,s,h=>by
  obtain⟨δ1,x,s1,e1,e2,e3,hx,g1⟩:=step (n + c * ds.length) s d (h.mono (by rw[List.length_cons,Nat.mul_add];omega))
  obtain⟨xs,s2,e4,hxs,hl,g2⟩:=z5y P c step ds n s1 g1
  refine⟨x::xs,s2,?_,?_,by simp[hl],g2⟩
  ·unfold compD
   rw[e1]
   simp only[Option.bind_some,e2,if_true,e3,e4,Option.map_some]
  ·intro y hy
   rcases List.mem_cons.mp hy with rfl | hy
   ·exact hx
   ·exact hxs y hy
theorem z5z(l:List D)(f:D->Bool):bools (l.map fun d=>.bool (f d))=some (l.map f):=by
 induction l with
 | nil=>rfl
 | cons a r ih=>simp[bools,ih]
theorem z0r{l:List D}(h:l.length<=1000):small l=true:=decide_eq_true (Nat.le_trans h (by decide))
theorem atI_nat{l:List D}{n:Nat}{d:D}(h:l[n]?=some d):L2.atI l (n:Int)=some d:=by
 have hl:=(List.getElem?_eq_some_iff.mp h).1
 unfold L2.atI ixN
 rw[if_pos (by omega),if_pos (by omega),Int.toNat_natCast]
 exact h
theorem atI_last{l:List D}(h:l≠[]):L2.atI l (-1)=some (l.getLast h):=by
 have hl:0 < l.length:=List.length_pos_iff.mpr h
 unfold L2.atI ixN
 rw[if_neg (by decide),if_pos (by omega)]
 show l[(-1 + (l.length:Int)).toNat]?=_
 rw[show(-1 + (l.length:Int)).toNat=l.length - 1 by omega,List.getElem?_eq_getElem (by omega),List.getLast_eq_getElem]
def IsN(n:Nat)(d:D):Prop:=∃ p q,Num n d p q
def zD:D:=.tuple [.int 0,.int 1]
def isZ:D->Bool
 | .tuple [.int p,.int _]=>decide (p=0)
 | _=>false
theorem zbz{n:Nat}{d:D}{p q:Int}(h:Num n d p q):isZ d=decide (p=0):=by obtain⟨rfl,_⟩:=h;rfl
theorem zbA{n:Nat}{d:D}{p q:Int}(h:Num n d p q):gIx d (.int 0)=some (.int p):=by obtain⟨rfl,_⟩:=h;simp[gIx,atI0]
def AllN(n:Nat)(l:List D):Prop:=∀ d∈l,IsN n d
theorem z4E{n:Nat}:∀ {l:List D},AllN n l->PyData.canLayAll0 l=true/\PyData.depthAll l<=1
 | [],_=>by simp[PyData.canLayAll0,PyData.depthAll]
 | d::l,h=>by
  obtain⟨h1,h2⟩:=z4E (l:=l) fun x hx=>h x (List.mem_cons_of_mem _ hx)
  obtain⟨p,q,rfl,_⟩:=h d List.mem_cons_self
  refine⟨by simp[PyData.canLayAll0,PyData.canLay0,h1],?_⟩
  simp[PyData.depthAll,PyData.depth]
  omega
theorem z6o{n:Nat}{l:List D}(h:AllN n l):SeqAt.shaped (.list l)=true:=by
 obtain⟨h1,h2⟩:=z4E h
 simp[SeqAt.shaped,PyData.canLay0,PyData.depth,h1]
 omega
theorem z5A{n:Nat}{l:List D}(h:AllN n l):SeqAt.shaped (.tuple l)=true:=by
 obtain⟨h1,h2⟩:=z4E h
 simp[SeqAt.shaped,PyData.canLay0,PyData.depth,h1]
 omega
theorem z4f(l:List D):PyData.eqvAll l []=l.isEmpty:=by cases l <;> simp[PyData.eqvAll]
theorem z3j{n:Nat}{l:List D}(h:AllN n l):gNe (.list l) (.list [])=some (.bool (!l.isEmpty)):=by
 simp[gNe,z6o h,z4b,PyData.eqv,z4f]
theorem z6p:SeqAt.shaped (.tuple [])=true:=by simp[SeqAt.shaped,PyData.canLay0,PyData.depth,PyData.canLayAll0,PyData.depthAll]
def trimLen(l:List D):Nat->Nat
 | 0=>0
 | n + 1=>if isZ (l.getD n zD) then trimLen l n else n + 1
def trimD(l:List D):List D:=l.take (trimLen l l.length)
theorem AllN.take{n:Nat}{l:List D}(h:AllN n l)(k:Nat):AllN n (l.take k):=fun d hd=>h d (List.mem_of_mem_take hd)
end L3
namespace L3
open PySem L2 PySem.Spec PyProof.Rows
inductive CstV(K:PySem.W.Frag)(mg:Str->Option Value)(x:Str)(d:D):Prop
 | mk (v:V) (u:Value) (h0:mg x=some u) (h1:RelV v u) (h2:∀ Z H A,Rep K Z H A v d)
inductive IsM(K:PySem.W.Frag)(c m q:Str)(st:Stmt):Prop
 | mk (C:Addr) (f:Addr) (fd:FuncData) (h0:PySem.W.nsIn K mainGlobals c=some (some (.ref C))) (h1:Cls K C) (h2:Meth K C m f) (h3:Fun K m q st f fd)
inductive IsI(K:PySem.W.Frag)(mg:Str->Option Value)(c q:Str)(st:Stmt)(fs:List Str):Prop
 | mk (C:Addr) (f:Addr) (fd:FuncData) (h0:PySem.W.nsIn K mainGlobals c=some (some (.ref C))) (h1:mg c=some (.ref C)) (h2:Mk K C f) (h3:Cls K C) (h4:(∀ x∈fs,NoAttr K C x)) (h5:Fun K "__init__" q st f fd)
section
variable {X:Cx} {e o:Expr} {es:List Expr} {Fa Fo:FE} {FL:FA} {f x m:Str} {p pos apos:Pos}
inductive FCal(K:PySem.W.Frag)(c f:Str):Prop
 | mk (C:Addr) (h0:PySem.W.nsIn K mainGlobals c=some (some (.ref C))) (h1:Cls K C) (h2:NoAttr K C f)
inductive MCal(P:Program)(w:World)(K:PySem.W.Frag)(mg:Str->Option Value)(base:Heap)(c m:Str)(k:Nat)(g:GF):Prop
 | mk (C:Addr) (f:Addr) (fd:FuncData) (ps:List Str) (h0:PySem.W.nsIn K mainGlobals c=some (some (.ref C))) (h1:Cls K C) (h2:Meth K C m f) (h3:FnOk P w K mg base CX0 k f fd ps (spD K g)) (h4:Binds K fd ps [])
def spI(K:PySem.W.Frag)(C:Addr)(ns:List Str)(gI:List D->Option (List D)):Sp:=fun vs H Q _=>∃ Z A p dx ws ds fds,vs=.ref p::ws/\H p=some (.ins C dx [])/\NotZ Z p/\Reps K Z H (p::A) ws ds/\gI ds=some fds /\
 ∀ fvs H',(∀ b o,H b=some o->b≠p->H' b=some o)->H' p=some (.ins C dx (ns.zip fvs))->Reps K Z H' (p::A) fvs fds->Q .non H'
inductive KCal(P:Program)(w:World)(K:PySem.W.Frag)(mg:Str->Option Value)(base:Heap)(c:Str)(k:Nat)(ns:List Str)(gI:List D->Option (List D)):Prop
 | mk (C:Addr) (f:Addr) (fd:FuncData) (ps:List Str) (h0:PySem.W.nsIn K mainGlobals c=some (some (.ref C))) (h1:mg c=some (.ref C)) (h2:Mk K C f) (h3:FnOk P w K mg base CX0 k f fd ps (spI K C ns gI)) (h4:Binds K fd ps [])
end
end L3
namespace L3
open PySem L2 PySem.Spec PyProof.Rows
section
variable {X:Cx} {e:Expr} {F:FE} {p pos:Pos}
def enumD(xs:List D):List D:=xs.zipIdx.map fun z=>.tuple [.int (z.2:Int),z.1]
def iEnumF(F:FE):FI:=fun δ s=>(F δ s).bind fun p=>(seqOf p.1).map fun xs=>(enumD xs,p.2)
theorem z6q{elts:List Expr}{c:Nat}{tp:Pos}(hm:X.mg "enumerate"=none)(ha:DE X e F)(hg:Gl X "enumerate":=by rfl)(hs:starEach [e] X.env=[(false,eval e X.env)]:=by rfl) :
  DI X (.Tuple elts c tp) (.Call (.Name "enumerate" p) [e] [] pos) (iEnumF F) :=
 ⟨fun Z A=>PI.imp (zbe hg hm (zK (ha Z A) z0o (by rw[hs];rfl)) hs) fun σ H R zec=>by
  obtain⟨B,ow,δ,s,ds,s',RS,S,ee,q⟩:=zec
  unfold iEnumF at ee
  first | refine bnd2 ee fun d s1 e1 ee=>?_ | refine mpp2 ee fun d s1 e1 ee=>?_
  replace ee:((seqOf d).map fun xs=>(enumD xs,s1))=some (ds,s'):=ee
  first | refine bnd1 ee fun xs e3 ee=>?_ | refine mpp1 ee fun xs e3 ee=>?_
  cases ee
  refine⟨B,ow,δ,s,d,s',RS,S,e1,fun v H1 x1 S1 r=>?_⟩
  obtain⟨k1,a1,vs1,rfl,sq1,rs1,st1⟩:=z8G r e3
  refine⟨k1,a1,vs1,rfl,sq1,q _ H1 x1 S1 ?_⟩
  intro ow' H' st f S' hA i
  have g1:=st1 ow' H' f
  refine⟨fun dd hd=>?_,fun hi=>⟨vs1,g1,?_⟩⟩
  ·unfold enumD at hd
   rw[List.getElem?_map,List.getElem?_zipIdx]at hd
   cases e5:xs[i]? with
   | none=>rw[e5]at hd;cases hd
   | some z =>
    rw[e5]at hd
    cases hd
    obtain⟨u1,h1,q1⟩:=(rs1.frm f).get e5
    refine⟨⟨vs1,u1,g1,h1⟩,fun x H3 zed=>?_⟩
    obtain⟨p,y1,ex,hp,eH,f1⟩:=zed
    have z1:=f1 vs1 g1
    rw[h1]at z1
    cases z1
    subst ex eH
    refine⟨Ext.upd hp,S'.upd hp,.tup zk (zO hA hp) (S'.notZ hp) (.cons ?_ (.cons (q1.ext (Ext.upd hp)) .nil))⟩
    simp only[Nat.zero_add]
    exact .int _
  ·rw[rs1.length]
   unfold enumD at hi
   rw[List.length_map,List.length_zipIdx]at hi
   exact hi⟩
end
end L3
namespace L3
open PySem L2 PySem.Spec PyProof.Rows
section
variable {X:Cx} {tg e:Expr} {F:FE} {p pos p2 pos2:Pos}
def rngDn(n:Nat):List D:=(List.range n).map fun(k:Nat)=>.int (0 + (n:Int) - 1 - (k:Int))
def iRevRange(F:FE):FI:=fun δ s=>(F δ s).bind fun p=>match p.1 with | .int j=>if rOk j=true then some (rngDn j.toNat,p.2) else none | _=>none
theorem zcY{K:PySem.W.Frag}{Z:Zt}{A:List Addr}{ow:Ow}{H:Hp}(n:Nat):Src K Z A ow (Itd 0 n) (rngDn n) H:=fun ow' H' st f S hA i=>by
 refine⟨fun d hd=>?_,fun hi=>(show n<=i by simpa [rngDn] using hi)⟩
 unfold rngDn at hd
 rw[List.getElem?_map]at hd
 first | refine bnd1 hd fun k e hd=>?_ | refine mpp1 hd fun k e hd=>?_
 cases hd
 have h1:=(List.getElem?_eq_some_iff.mp e).1
 rw[List.length_range]at h1
 rw[List.getElem?_range h1]at e
 cases e
 exact⟨h1,fun x H3 zee=>by obtain⟨e1,e2⟩:=zee;subst e1 e2;exact⟨Ext.refl _,S,.int _⟩⟩
theorem zbB(hm:X.mg "reversed"=none)(hm2:X.mg "range"=none)(ha:DE X e F)(hg:Gl X "reversed":=by rfl)(hg2:Gl X "range":=by rfl)(hs2:starEach [e] X.env=[(false,eval e X.env)]:=by rfl)
  (hs:starEach [.Call (.Name "range" p2) [e] [] pos2] X.env=(false,eval (.Call (.Name "range" p2) [e] [] pos2) X.env)::starEach [] X.env:=by rfl):DI X tg (.Call (.Name "reversed" p) [.Call (.Name "range" p2) [e] [] pos2] [] pos) (iRevRange F) :=
 ⟨fun Z A=>PI.imp (zbf hg hm hg2 hm2 (zK (ha Z A) z0o hs2) hs2 hs) fun σ H R zef=>by
  obtain⟨B,ow,δ,s,ds,s',RS,S,ee,q⟩:=zef
  unfold iRevRange at ee
  first | refine bnd2 ee fun d s1 e1 ee=>?_ | refine mpp2 ee fun d s1 e1 ee=>?_
  refine⟨B,ow,δ,s,d,s1,RS,S,e1,fun v H1 x1 S1 r=>?_⟩
  cases r with
  | int j =>
   replace ee:(if rOk j=true then some (rngDn j.toNat,s1) else none)=some (ds,s'):=ee
   split at ee
   ·rename_i hj
    cases ee
    unfold rOk at hj
    rw[Bool.and_eq_true]at hj
    exact⟨j,rfl,of_decide_eq_true hj.1,of_decide_eq_true hj.2,q _ H1 x1 S1 (zcY j.toNat)⟩
   ·cases ee
  | _=>cases ee⟩
end
end L3
namespace L3
open PySem L2 PySem.Spec PyProof.Rows
section
variable {X:Cx} {e:Expr} {sts:List Stmt} {f x:Str} {p pos px ap:Pos}
end
section
variable {P:Program} {w:World} {K:PySem.W.Frag} {mg:Str->Option Value} {base:Heap}
end
end L3
namespace L3
end L3
namespace L3
open PySem L2 PySem.Spec PyProof.Rows
def enc(r:Rat):D:=.tuple [.int r.num,.int (r.den:Int)]
theorem zC(r:Rat):((r.den:Nat):Int)≠0:=by have:=r.den_nz;omega
theorem z2r{T B:Int}(hB:B≠0):num T B=enc (Rat.divInt T B):=by
 refine zcS hB (by have:=(Rat.divInt T B).den_nz;omega) (Rat.divInt T B).reduced ?_
 exact(Rat.divInt_eq_divInt_iff (zC _) hB).mp (Rat.num_divInt_den _)
def Sz(n:Nat)(r:Rat):Prop:=Bt n r.num/\Bt n (r.den:Int)
theorem Sz.mono{n m:Nat}{r:Rat}(h:Sz n r)(hm:n<=m):Sz m r:=⟨h.1.mono hm,h.2.mono hm⟩
theorem Sz.num{n:Nat}{r:Rat}(h:Sz n r):Num n (enc r) r.num r.den:=⟨rfl,by have:=r.den_nz;omega,r.reduced,h.1,h.2⟩
theorem Sz.isN{n:Nat}{r:Rat}(h:Sz n r):IsN n (enc r):=⟨_,_,h.num⟩
theorem z4F:enc 0=zD:=rfl
theorem zbC(r:Rat):isZ (enc r)=decide (r=0):=by
 show decide (r.num=0)=_
 exact decide_eq_decide.mpr Rat.num_eq_zero
theorem z8R(a b:Rat):num (a.num * b.den + b.num * a.den) (a.den * b.den)=enc (a + b):=by
 rw[z2r (Int.mul_ne_zero (zC a) (zC b)),<- Rat.divInt_add_divInt _ _ (zC a) (zC b),Rat.num_divInt_den,Rat.num_divInt_den]
theorem zbD(a b:Rat):num (a.num * b.den - b.num * a.den) (a.den * b.den)=enc (a - b):=by
 rw[z2r (Int.mul_ne_zero (zC a) (zC b)),<- Rat.divInt_sub_divInt _ _ (zC a) (zC b),Rat.num_divInt_den,Rat.num_divInt_den]
theorem z6r(a b:Rat):num (a.num * b.num) (a.den * b.den)=enc (a * b):=by
 rw[z2r (Int.mul_ne_zero (zC a) (zC b)),<- Rat.divInt_mul_divInt,Rat.num_divInt_den,Rat.num_divInt_den]
theorem z6s(a b:Rat)(hb:b≠0):num (a.num * b.den) (a.den * b.num)=enc (a / b):=by
 have hn:b.num≠0:=fun z=>hb (Rat.num_eq_zero.mp z)
 rw[z2r (Int.mul_ne_zero (zC a) hn),<- Rat.divInt_mul_divInt,Rat.num_divInt_den,<- Rat.inv_def,Rat.div_def]
def Fit(M B:Nat)(r:Rat):Prop:=∃ z:Int,r * (M:Rat)=(z:Rat)/\z.natAbs<=B
theorem Fit.mono{M B B':Nat}{r:Rat}(h:Fit M B r)(hb:B<=B'):Fit M B' r:=by obtain⟨z,e,l⟩:=h;exact⟨z,e,Nat.le_trans l hb⟩
theorem Fit.zero(M B:Nat):Fit M B 0:=⟨0,by grind,Nat.zero_le _⟩
theorem Fit.add{M B B':Nat}{a b:Rat}(h:Fit M B a)(h':Fit M B' b):Fit M (B + B') (a + b):=by
 obtain⟨z,e,l⟩:=h
 obtain⟨y,e',l'⟩:=h'
 refine⟨z + y,by rw[Rat.intCast_add];grind,?_⟩
 have:=Int.natAbs_add_le z y
 omega
theorem Fit.mul{M B M' B':Nat}{a b:Rat}(h:Fit M B a)(h':Fit M' B' b):Fit (M * M') (B * B') (a * b):=by
 obtain⟨z,e,l⟩:=h
 obtain⟨y,e',l'⟩:=h'
 refine⟨z * y,by rw[Rat.intCast_mul,Rat.natCast_mul];grind,?_⟩
 rw[Int.natAbs_mul]
 exact Nat.mul_le_mul l l'
theorem z4G(r:Rat):r * (r.den:Rat)=(r.num:Rat):=by
 have h:(r.den:Rat)≠0:=fun z=>r.den_nz (Rat.natCast_eq_zero_iff.mp z)
 have e:r=(r.num:Rat) / (r.den:Rat):=by
  conv=>lhs;rw[<- Rat.num_divInt_den r,Rat.divInt_eq_div]
  rfl
 generalize (r.den:Rat)=d at *
 generalize (r.num:Rat)=n at *
 grind
theorem Fit.size{M B:Nat}{r:Rat}(h:Fit M B r)(hM:0 < M):r.den<=M/\r.num.natAbs<=B:=by
 obtain⟨z,e,l⟩:=h
 have h1:r.num * (M:Int)=z * (r.den:Int):=by
  apply Rat.intCast_inj.mp
  rw[Rat.intCast_mul,Rat.intCast_mul,Rat.intCast_natCast,Rat.intCast_natCast,<- z4G r,<- e]
  grind
 have hd:(r.den:Int)∣(M:Int):=z1t (b:=r.num) ⟨z,by rw[h1,Int.mul_comm]⟩ (by rw[Int.gcd_comm];exact r.reduced)
 have hdn:r.den∣M:=Int.ofNat_dvd.mp hd
 refine⟨Nat.le_of_dvd hM hdn,Nat.le_trans ?_ l⟩
 obtain⟨m,hm⟩:=hdn
 have hm0:0 < m:=by
  rcases Nat.eq_zero_or_pos m with z0 | z0
  ·rw[z0,Nat.mul_zero]at hm;omega
  ·exact z0
 have h2:r.num * (m:Int)=z:=by
  rw[hm,Int.natCast_mul]at h1
  have:(r.den:Int) * (r.num * (m:Int))=(r.den:Int) * z:=by rw[Int.mul_left_comm,h1,Int.mul_comm]
  exact Int.eq_of_mul_eq_mul_left (zC r) this
 rw[<- h2,Int.natAbs_mul]
 exact Nat.le_mul_of_pos_right _ (by omega)
theorem Fit.sz{M B n:Nat}{r:Rat}(h:Fit M B r)(hM:0 < M)(h1:M < 2 ^ n)(h2:B < 2 ^ n):Sz n r:=by
 obtain⟨a,b⟩:=h.size hM
 exact⟨Nat.lt_of_le_of_lt b h2,Nat.lt_of_le_of_lt (by show(r.den:Int).natAbs<=M;omega) h1⟩
end L3
namespace L3
open PySem L2 PySem.Spec PyProof.Rows
def co(l:List Rat)(i:Nat):Rat:=l.getD i 0
def sh(i:Nat)(g:Nat->Rat)(k:Nat):Rat:=if i<=k then g (k - i) else 0
def cv:Nat->(Nat->Rat)->(Nat->Rat)->Nat->Rat
 | 0,_,_,_=>0
 | N + 1,q,g,k=>cv N q g k + q N * sh N g k
theorem z02{l:List Rat}{i:Nat}(h:l.length<=i):co l i=0:=by
 unfold co;rw[List.getD_eq_getElem?_getD,List.getElem?_eq_none h];rfl
theorem z5B{l:List Rat}{i:Nat}{v:Rat}(h:i < l.length)(k:Nat):co (l.set i v) k=if k=i then v else co l k:=by
 unfold co
 rw[List.getD_eq_getElem?_getD,List.getD_eq_getElem?_getD,List.getElem?_set]
 by_cases e:k=i
 ·subst e;simp[h]
 ·rw[if_neg (fun z=>e z.symm),if_neg e]
theorem z8S{l m:List Rat}(hl:l.length=m.length)(h:∀ i,co l i=co m i):l=m:=by
 refine List.ext_getElem hl fun i h1 h2=>?_
 have:=h i
 unfold co at this
 rw[List.getD_eq_getElem?_getD,List.getD_eq_getElem?_getD,List.getElem?_eq_getElem h1,List.getElem?_eq_getElem h2]at this
 exact this
theorem z3v{N:Nat}{q q' g:Nat->Rat}{k:Nat}(h:∀ i,i < N->q i=q' i):cv N q g k=cv N q' g k:=by
 induction N with
 | zero=>rfl
 | succ N ih=>rw[cv,cv,ih fun i hi=>h i (by omega),h N (by omega)]
theorem z5C{N M:Nat}{q g:Nat->Rat}{k:Nat}(h:∀ i,N<=i->q i=0)(hm:N<=M):cv M q g k=cv N q g k:=by
 induction M with
 | zero=>rw[show N=0 by omega]
 | succ M ih =>
  by_cases e:N=M + 1
  ·rw[e]
  ·rw[cv,ih (by omega),h M (by omega)];grind
theorem zcZ{N:Nat}{q q' g:Nat->Rat}{i k:Nat}{w:Rat}(hi:i < N)(h:∀ j,q' j=if j=i then w else q j):cv N q' g k=cv N q g k + (w - q i) * sh i g k:=by
 induction N with
 | zero=>omega
 | succ N ih =>
  by_cases e:i=N
  ·subst e
   rw[cv,cv,h i,if_pos rfl,z3v (q:=q') (q':=q) fun j hj=>by rw[h j,if_neg (by omega)]]
   grind
  ·rw[cv,cv,ih (by omega),h N,if_neg (fun z=>e z.symm)]
   grind
theorem zd0{N:Nat}{q q' g:Nat->Rat}{k:Nat}:cv N (fun i=>q i - q' i) g k=cv N q g k - cv N q' g k:=by
 induction N with
 | zero=>simp only[cv];grind
 | succ N ih=>simp only[cv,ih];grind
theorem zd1{N:Nat}{q g:Nat->Rat}{t k:Nat}(ht:t < N)(h:∀ i,i < N->i≠t->q i * sh i g k=0):cv N q g k=q t * sh t g k:=by
 have z:∀ M,M<=t->cv M q g k=0:=fun M=>by
  induction M with
  | zero=>intro _;rfl
  | succ M ih=>intro hm;rw[cv,ih (by omega),h M (by omega) (by omega)];grind
 have all:∀ M,t < M->M<=N->cv M q g k=q t * sh t g k:=fun M=>by
  induction M with
  | zero=>intro hm;omega
  | succ M ih =>
   intro h1 h2
   by_cases e:t=M
   ·subst e;rw[cv,z t (Nat.le_refl _)];grind
   ·rw[cv,ih (by omega) (by omega),h M (by omega) (fun z=>e z.symm)];grind
 exact all N ht (Nat.le_refl _)
theorem z8T{N n:Nat}{d g:Nat->Rat}(hn:0 < n)(hg:∀ i,n<=i->g i=0)(hl:g (n - 1)≠0)(h:∀ k,n - 1<=k->cv N d g k=0):∀ i,i < N->d i=0:=by
 have go:∀ m,m<=N->∀ i,N - m<=i->i < N->d i=0:=fun m=>by
  induction m with
  | zero=>intro _ i h1 h2;omega
  | succ m ih =>
   intro hm i h1 h2
   by_cases e:i=N - (m + 1)
   ·have hk:=h (i + (n - 1)) (by omega)
    rw[zd1 (t:=i) h2]at hk
    ·unfold sh at hk
     rw[if_pos (by omega),show i + (n - 1) - i=n - 1 by omega]at hk
     rcases Rat.mul_eq_zero.mp hk with z | z
     ·exact z
     ·exact absurd z hl
    ·intro j hj hji
     by_cases hlt:j < i
     ·unfold sh
      rw[if_pos (by omega),hg _ (by omega)];grind
     ·rw[ih (by omega) j (by omega) hj];grind
   ·exact ih (by omega) i (by omega) h2
 exact fun i hi=>go N (Nat.le_refl _) i (by omega) hi
theorem za3{N n:Nat}{q q' r r' g:Nat->Rat}(hn:0 < n)(hg:∀ i,n<=i->g i=0)(hl:g (n - 1)≠0)(hr:∀ k,n - 1<=k->r k=0)(hr':∀ k,n - 1<=k->r' k=0)
  (h:∀ k,cv N q g k + r k=cv N q' g k + r' k):(∀ i,i < N->q i=q' i)/\∀ k,r k=r' k:=by
 have z:∀ i,i < N->q i - q' i=0:=z8T (d:=fun i=>q i - q' i) hn hg hl fun k hk=>by
  have:=h k
  rw[hr k hk,hr' k hk]at this
  rw[zd0];grind
 have e:∀ i,i < N->q i=q' i:=fun i hi=>by have:=z i hi;grind
 refine⟨e,fun k=>?_⟩
 have:=h k
 rw[z3v e]at this
 grind
def trL(l:List Rat):Nat->Nat
 | 0=>0
 | k + 1=>if co l k=0 then trL l k else k + 1
def trR(l:List Rat):List Rat:=l.take (trL l l.length)
theorem z5D(l:List Rat):∀ k,trL l k<=k
 | 0=>Nat.le_refl _
 | k + 1=>by unfold trL;split;exact Nat.le_succ_of_le (z5D l k);exact Nat.le_refl _
theorem z7f(l:List Rat):∀ k i,trL l k<=i->i < k->co l i=0
 | 0,i,_,h=>by omega
 | k + 1,i,h1,h2=>by
  unfold trL at h1
  split at h1
  ·rename_i hz
   by_cases e:i=k
   ·rw[e];exact hz
   ·exact z7f l k i h1 (by omega)
  ·omega
theorem z7g(l:List Rat):∀ k,0 < trL l k->co l (trL l k - 1)≠0
 | 0,h=>by simp[trL]at h
 | k + 1,h=>by
  by_cases hz:co l k=0
  ·have e:trL l (k + 1)=trL l k:=by rw[trL,if_pos hz]
   rw[e]at h ⊢
   exact z7g l k h
  ·have e:trL l (k + 1)=k + 1:=by rw[trL,if_neg hz]
   rw[e];exact hz
theorem z6t{l:List Rat}{n:Nat}(k:Nat):co (l.take n) k=if k < n then co l k else 0:=by
 unfold co
 rw[List.getD_eq_getElem?_getD,List.getD_eq_getElem?_getD,List.getElem?_take]
 split <;> rfl
theorem z4H(l:List Rat):(trR l).length=trL l l.length:=by unfold trR;rw[List.length_take,Nat.min_eq_left (z5D _ _)]
theorem z4g(l:List Rat)(k:Nat):co (trR l) k=co l k:=by
 unfold trR
 rw[z6t]
 split
 ·rfl
 ·by_cases h:k < l.length
  ·rw[z7f l l.length k (by omega) h]
  ·rw[z02 (by omega)]
def Trim(l:List Rat):Prop:=0 < l.length->co l (l.length - 1)≠0
theorem z3w(l:List Rat):Trim (trR l):=fun h=>by
 rw[z4g]
 rw[z4H]at h ⊢
 exact z7g l _ h
theorem Trim.ext{l m:List Rat}(hl:Trim l)(hm:Trim m)(h:∀ i,co l i=co m i):l=m:=by
 refine z8S ?_ h
 rcases Nat.lt_trichotomy l.length m.length with z | z | z
 ·exact absurd (by rw[<- h];exact z02 (by omega)) (hm (by omega))
 ·exact z
 ·exact absurd (by rw[h];exact z02 (by omega)) (hl (by omega))
theorem z3G(l:List Rat):∀ k,k<=l.length->trimLen (l.map enc) k=trL l k
 | 0,_=>rfl
 | k + 1,h=>by
  have e:(l.map enc).getD k zD=enc (co l k):=by
   unfold co
   rw[List.getD_eq_getElem?_getD,List.getD_eq_getElem?_getD,List.getElem?_map,List.getElem?_eq_getElem (by omega)];rfl
  unfold trimLen trL
  rw[e,zbC,z3G l k (by omega)]
  by_cases hz:co l k=0 <;> simp[hz]
theorem z3H(l:List Rat):trimD (l.map enc)=(trR l).map enc:=by
 unfold trimD trR
 rw[List.length_map,z3G l _ (Nat.le_refl _),List.map_take]
end L3
namespace L3
open PySem L2 PySem.Spec PyProof.Rows
theorem z7h{T:Tgt}{G:GS}(I:Nat->Sl->Sx->Prop):∀ (ds:List D) (o:Nat) (δ:Sl) (s:Sx),I o δ s ->
  (∀ j d δ s,ds[j]?=some d->I (o + j) δ s->∃ δ1 δ' s',T.run d δ=some δ1/\G δ1 s=some (.next δ',s')/\I (o + j + 1) δ' s')->∃ δ' s',forD T G ds δ s=some (.next δ',s')/\I (o + ds.length) δ' s'
 | [],o,δ,s,h,_=>⟨δ,s,rfl,h⟩
 | d::ds,o,δ,s,h,step=>by
  obtain⟨δ1,δ2,s2,e1,e2,h2⟩:=step 0 d δ s rfl h
  obtain⟨δ3,s3,e3,h3⟩:=z7h I ds (o + 1) δ2 s2 h2 fun j d' δ s hd hi=>by
   obtain⟨a,b,c,x,y,z⟩:=step (j + 1) d' δ s (by simpa using hd) (by rw[show o + (j + 1)=o + 1 + j by omega];exact hi)
   exact⟨a,b,c,x,y,by rw[show o + 1 + j + 1=o + (j + 1) + 1 by omega];exact z⟩
  refine⟨δ3,s3,?_,by rw[List.length_cons,show o + (ds.length + 1)=o + 1 + ds.length by omega];exact h3⟩
  show((T.run d δ).bind fun δ1=>_)=_
  rw[e1]
  show(match G δ1 s with | some (.next δ',s')=>forD T G ds δ' s' | some (.cnt δ',s')=>forD T G ds δ' s' | some (.brk δ',s')=>some (.next δ',s') | some (.ret r,s')=>some (.ret r,s') | some (.own r,s')=>some (.own r,s') | none=>none)=_
  rw[e2]
  exact e3
theorem z2s{T:Tgt}{G:GS}(I:Nat->Sl->Sx->Prop)(ds:List D)(δ:Sl)(s:Sx)(h:I 0 δ s)
  (step:∀ j d δ s,ds[j]?=some d->I j δ s->∃ δ1 δ' s',T.run d δ=some δ1/\G δ1 s=some (.next δ',s')/\I (j + 1) δ' s'):∃ δ' s',forD T G ds δ s=some (.next δ',s')/\I ds.length δ' s':=by
 obtain⟨a,b,e,i⟩:=z7h I ds 0 δ s h fun j d δ s hd hi=>by
  rw[Nat.zero_add]at hi ⊢
  exact step j d δ s hd hi
 rw[Nat.zero_add]at i
 exact⟨a,b,e,i⟩
theorem z3I{xs:List D}{j:Nat}{d:D}(h:(enumD xs)[j]?=some d):∃ x,xs[j]?=some x/\d=.tuple [.int (j:Int),x]:=by
 unfold enumD at h
 rw[List.getElem?_map,List.getElem?_zipIdx]at h
 cases e:xs[j]? with
 | none=>rw[e]at h;simp at h
 | some x=>rw[e]at h;simp at h;exact⟨x,rfl,h.symm⟩
theorem z3J(xs:List D):(enumD xs).length=xs.length:=by simp[enumD]
theorem z8U{n j:Nat}{d:D}(h:(rngDn n)[j]?=some d):j < n/\d=.int ((n - 1 - j:Nat):Int):=by
 unfold rngDn at h
 rw[List.getElem?_map]at h
 by_cases hj:j < n
 ·rw[List.getElem?_range hj]at h
  simp only[Option.map_some,Option.some.injEq]at h
  refine⟨hj,?_⟩
  rw[<- h]
  congr 1
  omega
 ·rw[List.getElem?_eq_none (by simpa using hj)]at h;simp at h
theorem z8V(n:Nat):(rngDn n).length=n:=by simp[rngDn]
theorem z8W{n j:Nat}{d:D}(h:(rng 0 n)[j]?=some d):j < n/\d=.int (j:Int):=by
 unfold rng at h
 rw[List.getElem?_map]at h
 by_cases hj:j < n
 ·rw[List.getElem?_range hj]at h
  simp only[Option.map_some,Option.some.injEq]at h
  refine⟨hj,?_⟩
  rw[<- h]
  congr 1
  omega
 ·rw[List.getElem?_eq_none (by simpa using hj)]at h;simp at h
theorem zaO{l:List Rat}{j:Nat}(h:j < l.length):(l.map enc)[j]?=some (enc (co l j)):=by
 unfold co
 rw[List.getElem?_map,List.getD_eq_getElem?_getD,List.getElem?_eq_getElem h];rfl
theorem z2Q{l:List Rat}{j:Nat}{d:D}(h:(l.map enc)[j]?=some d):j < l.length/\d=enc (co l j):=by
 by_cases hj:j < l.length
 ·rw[zaO hj]at h;cases h;exact⟨hj,rfl⟩
 ·rw[List.getElem?_eq_none (by simpa using hj)]at h;cases h
theorem za4{l:List Rat}{j:Nat}(h:j < l.length):L2.atI (l.map enc) (j:Int)=some (enc (co l j)):=atI_nat (zaO h)
theorem ix_seq{d:D}{xs:List D}(h:seqOf d=some xs)(i:Int):gIx d (.int i)=L2.atI xs i:=by
 cases d with
 | list ys=>cases h;rfl
 | tuple ys=>cases h;rfl
 | _=>cases h
theorem z0O{d:D}{xs:List D}(h:seqOf d=some xs):gLen d=some (.int xs.length):=by
 cases d with
 | list ys=>cases h;rfl
 | tuple ys=>cases h;rfl
 | _=>cases h
theorem zbE{l:List Rat}(h:0 < l.length):L2.atI (l.map enc) (-1)=some (enc (co l (l.length - 1))):=by
 have e:=za4 (l:=l) (j:=l.length - 1) (by omega)
 unfold L2.atI ixN at e ⊢
 rw[List.length_map]at e ⊢
 rw[if_pos (by omega),if_pos (by omega)]at e
 rw[if_neg (by decide),if_pos (by omega)]
 simp only[Option.bind_some]at e ⊢
 rw[show(-1 + (l.length:Int)).toNat=(((l.length - 1:Nat):Int)).toNat by omega]
 exact e
theorem z6u{l:List Rat}{j:Nat}{v:Rat}(h:j < l.length):putAt (l.map enc) (.int (j:Int)) (enc v)=some ((l.set j v).map enc):=by
 unfold putAt ixN
 simp only[List.length_map]
 rw[if_pos (by omega),if_pos (by omega)]
 simp[List.map_set]
theorem z7{F:FE}{FL:FA}{δ:Sl}{s s1 s2:Sx}{d:D}{ds:List D}(h:F δ s=some (d,s1))(h':FL δ s1=some (ds,s2)):aCons F FL δ s=some (d::ds,s2):=by
 unfold aCons;rw[h];simp only[Option.bind_some,h',Option.map_some]
theorem zd{g:G2}{Fa Fb:FE}{δ:Sl}{s s1 s2:Sx}{a b d:D}(h:Fa δ s=some (a,s1))(h':Fb δ s1=some (b,s2))(e:g a b=some d):f2 g Fa Fb δ s=some (d,s2):=by
 unfold f2;rw[h];simp only[Option.bind_some,h',Option.map_some,e]
theorem z0e{g:G1}{Fa:FE}{δ:Sl}{s s1:Sx}{a d:D}(h:Fa δ s=some (a,s1))(e:g a=some d):f1 g Fa δ s=some (d,s1):=by
 unfold f1;rw[h];simp only[Option.bind_some,Option.map_some,e]
theorem z4I{i:Nat}{Fi F:FE}{δ:Sl}{s s1 s2:Sx}{v k:D}{xs ys:List D}(h:F δ s=some (v,s1))(h':Fi δ s1=some (k,s2))(hi:δ[i]?=some (.own xs))(e:putAt xs k v=some ys):sPut i Fi F δ s=some (.next (δ.set i (.own ys)),s2):=by
 unfold sPut;rw[h];simp only[Option.bind_some,h',hi,e,Option.map_some]
theorem z00{i:Nat}{F:FE}{δ:Sl}{s s1:Sx}{v:D}(h:F δ s=some (v,s1)):sSet i F δ s=some (.next (δ.set i (.val v)),s1):=by
 unfold sSet;rw[h];rfl
theorem add_int(a b:Nat):gAdd (.int (a:Int)) (.int (b:Int))=some (.int ((a + b:Nat):Int)):=by
 simp[gAdd,gAddI,gI]
theorem z4J{n:Nat}{l:List Rat}(h:∀ k,Sz n (co l k)):AllN n (l.map enc):=fun d hd=>by
 obtain⟨i,hi⟩:=List.getElem?_of_mem hd
 obtain⟨_,rfl⟩:=z2Q hi
 exact(h i).isN
end L3
namespace L3
open PySem L2 PySem.Spec PyProof.Rows
section
variable {X:Cx}
end
end L3
namespace L3
open PySem L2 PySem.Spec PyProof.Rows
abbrev GC:=List D->Sx->Option (Ce × Sx)
abbrev FC:=Sl->Sx->Option (Ce × Sx)
def mkFnC(n m:Nat)(G:GS):GC:=fun ds s=>if ds.length=n then (match G (ds.map .val++List.replicate m .non) s with
 | some (.ret d,s')=>some (.val d,s')
 | some (.own xs,s')=>some (.own xs,s')
 | some (.next _,s')=>some (.val .none,s')
 | _=>none) else none
def AftC(K:PySem.W.Frag)(Z:Zt)(A:List Addr)(H:Hp)(s':Sx)(Q:VK):Ce->Prop
 | .val d=>∀ v H',Ext Z H H'->StateAt Z H' s'->Rep K Z H' A v d->Q v H'
 | .own xs=>∀ p vs H',Ext Z H H'->StateAt Z H' s'->H p=none->H' p=some (.lst vs)->Reps K Z H' (p::A) vs xs->Q (.ref p) H'
 | .non=>False
inductive spC(K:PySem.W.Frag)(g:GC)(vs:List V)(H:Hp)(Q:VK)(_E:XK):Prop
 | mk (Z:Zt) (A:List Addr) (ds:List D) (s:Sx) (c:Ce) (s':Sx) (h0:Reps K Z H A vs ds) (h1:(∀ q∈A,(∃ o,H q=some o)/\NotZ Z q)) (h2:StateAt Z H s) (h3:g ds s=some (c,s')) (h4:AftC K Z A H s' Q c)
theorem z5E{n m:Nat}{G:GS}{ds:List D}{s:Sx}{r:Ce × Sx}(h:mkFnC n m G ds s=some r):ds.length=n:=by
 unfold mkFnC at h
 split at h
 ·assumption
 ·cases h
theorem fnC{P:Program}{w:World}{K:PySem.W.Frag}{mg:Str->Option Value}{base:Heap}{x qual:Str}{st:Stmt}{f:Addr}{fd:FuncData}{N ps:List Str}{k m:Nat}{G:GS}(Fn:Fun K x qual st f fd)(S:FnScope N ps (defScope st))(hN:N.length=ps.length + m)
  (hbody:∀ (cdv:Value) (A:Around) (outer:List Env) (s:Shared) (H:Hp) (E:XK),Room k (A.deeper (envOfC qual (defScope st) s.heap.objs.size f cdv))->DSs (cxOf CX0 P w K mg base N qual (defScope st) f cdv A outer s H E).nox (defBody st) G) :
  FnOk P w K mg base CX0 (k + 1) f fd ps (spC K (mkFnC ps.length m G)):=by
 refine Fn.ok S (fun vs H Q E h=>?_) (fun cdv A outer s H vs Q E hr h=>?_)
 ·obtain⟨Z,A,ds,s,c,s',r,_,_,e,_⟩:=h
  rw[r.length];exact z5E e
 ·obtain⟨Z,A0,ds,st0,c,st1,r,hA,hS,e,q⟩:=h
  have hl:=z5E e
  refine⟨_,hbody cdv A outer s H E hr Z A0,?_⟩
  unfold mkFnC at e
  rw[if_pos hl]at e
  have hst:L2.start N vs=vs.map some++List.replicate m none:=by
   unfold L2.start
   rw[hN,r.length,hl,Nat.add_sub_cancel_left]
  rw[hst]
  have R:RepS K H Z A0 [] (vs.map some++List.replicate m none) (ds.map .val++List.replicate m .non) H:={
   ok:=hA
   ext:=Ext.refl H
   len:=by simp[r.length]
   val:=fun i d h=>by
    obtain⟨v,h1,h2⟩:=z73 r h
    exact⟨v,h1,by rw[List.map_nil,List.append_nil];exact h2⟩
   own:=fun i xs h=>(z74 h).elim
   ows:=fun i p h=>nomatch h
   inj:=fun i j p h=>nomatch h}
  cases e1:G (ds.map .val++List.replicate m .non) st0 with
  | none=>rw[e1]at e;cases e
  | some r1 =>
   obtain⟨o,s1⟩:=r1
   rw[e1]at e
   refine⟨[],_,st0,o,s1,R,hS,e1,?_⟩
   cases o with
   | ret d'=>cases e;exact fun v H' a b c=>q v H' a b c
   | own xs=>cases e;exact fun p vs H' a b c d e=>q p vs H' a b c d e
   | next δ'=>cases e;exact fun ow' σ' H' R' S' f=>q .non H' R'.ext S' .non
   | brk δ'=>cases e
   | cnt δ'=>cases e
inductive CalC(P:Program)(w:World)(K:PySem.W.Frag)(mg:Str->Option Value)(base:Heap)(x:Str)(ps:List Str)(k:Nat)(g:GC):Prop
 | mk (f:Addr) (fd:FuncData) (h0:FnOk P w K mg base CX0 k f fd ps (spC K g)) (h1:mg x=some (.ref f)) (h2:PySem.W.keepIn K (.ref f)=true) (h3:Binds K fd ps [])
def ceD:Ce->Option D
 | .val d=>some d | .own xs=>some (.list xs) | .non=>none
def gOf(g:GC):GF:=fun ds s=>(g ds s).bind fun p=>(ceD p.1).map fun d=>(d,p.2)
theorem CalC.cal{P:Program}{w:World}{K:PySem.W.Frag}{mg:Str->Option Value}{base:Heap}{x:Str}{ps:List Str}{k:Nat}{g:GC}(h:CalC P w K mg base x ps k g):Cal P w K mg base x ps k (gOf g):=by
 obtain⟨f,fd,F,h1,h2,h3⟩:=h
 refine⟨f,fd,F.imp fun vs H Q E h=>?_,h1,h2,h3⟩
 obtain⟨Z,A,ds,s,d,s',r,hA,hS,e,q⟩:=h
 unfold gOf at e
 first | refine bnd2 e fun c s1 e1 e=>?_ | refine mpp2 e fun c s1 e1 e=>?_
 refine⟨Z,A,ds,s,c,s1,r,hA,hS,e1,?_⟩
 cases c with
 | non=>cases e
 | val d'=>cases e;exact q
 | own xs =>
  cases e
  exact fun p ws H' x1 S1 n h rs=>q _ H' x1 S1 (.lst h (zO (fun q hq=>(hA q hq).1) n) (hS.notZ n) (rs.sub fun q hq=>List.mem_cons_of_mem _ hq))
section
variable {X:Cx} {st:Stmt} {e:Expr} {es:List Expr} {F:FE} {Fo:FO} {Fc:FC} {FL:FA} {x y:Str} {i:Nat} {p pos pos':Pos}
inductive tDCK(K:PySem.W.Frag)(Z:Zt)(A:List Addr)(F:FC)(σ:L2.St)(H:Hp)(Q:VK):Prop
 | mk (B:Hp) (ow:Ow) (δ:Sl) (s:Sx) (c:Ce) (s':Sx) (h0:RepS K B Z A ow σ δ H) (h1:StateAt Z H s) (h2:F δ s=some (c,s')) (h3:AftC K Z (A++ow.map (·.2)) H s' Q c)
abbrev tDC(X:Cx)(Z:Zt)(A:List Addr)(F:FC):TE:=tDCK X.K Z A F
structure DC(X:Cx)(e:Expr)(F:FC):Prop where
 go:∀ Z A,PE X e (tDC X Z A F)
def fCallC(g:GC)(FL:FA):FC:=fun δ s=>(FL δ s).bind fun p=>g p.1 p.2
theorem z7U{gf:GC}{Z:Zt}{A:List Addr}{σ:L2.St}{H:Hp}{Q:VK}{E:XK}(h:tDC X Z A (fCallC gf FL) σ H Q):tCall (spC X.K gf) [] E (tDA X Z A FL) σ H Q:=by
 obtain⟨B,ow,δ,s,c,s',R,S,e,q⟩:=h
 unfold fCallC at e
 first | refine bnd2 e fun ds s1 e1 e=>?_ | refine mpp2 e fun ds s1 e1 e=>?_
 refine⟨B,ow,δ,s,ds,s1,R,S,e1,fun vs H1 x1 S1 rs=>?_⟩
 refine⟨Z,A++ow.map (·.2),ds,s1,c,s',by simpa using rs,fun q hq=>?_,S1,e,?_⟩
 ·refine⟨(R.mono x1).all q hq,?_⟩
  rcases List.mem_append.mp hq with h | h
  ·exact(R.ok q h).2
  ·obtain⟨⟨i,p⟩,hp,rfl⟩:=List.mem_map.mp h
   exact(R.ows i p hp).2.2.1
 ·cases c with
  | non=>exact q
  | val d=>exact fun v H' a b r=>q v H' (x1.trans a) b r
  | own xs=>exact fun p ws H' a b n h r=>q p ws H' (x1.trans a) b (z12 x1 S1 n) h r
theorem zd2{gf:GC}{k k':Nat}{ps:List Str}(C:CalC X.prog X.w X.K X.mg X.base x ps k gf)(hr:Room k' X.A)(ha:DA X (e::es) FL)(hk:k<=k':=by decide)(hg:Gl X x:=by rfl)(hdb:(x == ("__debug__":Str))=false:=by decide)
  (he:starEach (e::es) X.env=(false,eval e X.env)::starEach es X.env:=by rfl) (hpl:(backTo pos (starEach es X.env)).any (·.1)=false:=by rfl):DC X (.Call (.Name x p) (e::es) [] pos) (fCallC gf FL):=by
 obtain⟨f,fd,G,hm,hk',hb⟩:=C
 exact⟨fun Z A=>PE.imp (z4m G (hr.mono hk) hg hm hk' hb .nil pass0 (ha Z A) hdb he hpl) fun σ H Q q=>z7U q⟩
def sSetC(i:Nat)(F:FC):GS:=fun δ s=>(F δ s).bind fun p=>match p.1 with | .non=>none | c=>some (.next (δ.set i c),p.2)
theorem zbF(hN:X.N.Nodup)(h:DC X e Fc)(hi:X.N[i]?=some y:=by rfl)(hx:Loc X.env.scope y:=by first | exact Or.inl rfl | exact Or.inr rfl)
  (hs:swapsWith e (some (.Name y pos')) pos.line X.env=pure false:=by rfl)
  (hf:X.fn y=true\/X.env.scope.names.lookup y=some .local:=by first | exact .inl rfl | exact .inr rfl | assumption):DS X (.Assign [.Name y pos'] e pos) (sSetC i Fc):=⟨fun Z A=>PS.imp (z2F hN hi hx (h.go Z A) hs hf) fun E σ H h=>by
 obtain⟨ow,δ,s,o,s',R,S,e,q⟩:=h
 unfold sSetC at e
 first | refine bnd2 e fun c s1 e1 e=>?_ | refine mpp2 e fun c s1 e1 e=>?_
 refine⟨_,ow,δ,s,c,s1,R,S,e1,?_⟩
 cases c with
 | non=>cases e
 | val d =>
  cases e
  intro v H' x1 S1 r
  obtain⟨R2,f2⟩:=(R.mono x1).set (i:=i) r
  exact q _ _ _ R2 S1 ((Frm.ext x1).trans f2)
 | own xs =>
  cases e
  intro p ws H' x1 S1 n h r
  obtain⟨R3,f3⟩:=R.setOwn (i:=i) S x1 n h r
  exact q _ _ _ R3 S1 f3⟩
def sRetO(i:Nat):GS:=fun δ s=>match δ[i]? with | some (.own xs)=>some (.own xs,s) | some (.val d)=>some (.ret d,s) | _=>none
theorem zbG(hv:PE X (.Name x p) (tVar i)):DS X (.Return (some (.Name x p)) pos) (sRetO i):=⟨fun Z A=>PS.imp (z6W hv) fun E σ H h=>by
 obtain⟨ow,δ,s,o,s',R,S,e,q⟩:=h
 unfold sRetO at e
 split at e
 ·rename_i xs ho
  cases e
  obtain⟨p,vs,h1,h2,h3,h4⟩:=R.own i xs ho
  exact⟨_,h2,q p vs H R.ext S (R.ows i p h1).1 h3 (h4.sub fun q hq=>by
   rcases List.mem_cons.mp hq with rfl | hq
   ·exact List.mem_append_right _ (List.mem_map.mpr ⟨(i,q),h1,rfl⟩)
   ·exact List.mem_append_left _ hq)⟩
 ·rename_i d ho
  cases e
  obtain⟨v,h1,r⟩:=R.val i d ho
  exact⟨_,h1,q v H R.ext S (r.sub fun q hq=>List.mem_append_left _ hq)⟩
 ·cases e⟩
def sClr(i:Nat):GS:=fun δ s=>match δ[i]? with | some (.own _)=>some (.next (δ.set i (.own [])),s) | _=>none
theorem zd3{px apos cpos:Pos}(hv:PE X (.Name x px) (tVar i))(hbase:attributeBase (.Name x px) "clear" X.env (eval (.Name x px) X.env)=eval (.Name x px) X.env:=by rfl)(hline:(apos.endLine == cpos.line)=true:=by rfl)
  (hsw:swapsWith (.Call (.Attribute (.Name x px) "clear" apos) [] [] cpos) none pos.line X.env=pure false:=by rfl):DS X (.Expr (.Call (.Attribute (.Name x px) "clear" apos) [] [] cpos) pos) (sClr i):=⟨fun Z A=>PS.imp (z69 (z6Y PySem.F.plainAttrs_list PySem.F.slot_list_clear PySem.F.type_list_clear z9P hv hbase hline) hsw) fun E σ H h=>by
  obtain⟨ow,δ,s,o,s',R,S,e,q⟩:=h
  unfold sClr at e
  split at e
  ·rename_i xs ho
   cases e
   obtain⟨a,vs,h1,h2,h3,h4⟩:=R.own i xs ho
   obtain⟨R',f⟩:=R.change ho h1 h2 .nil
   exact⟨_,h2,.inl ⟨rfl,_,SqL.of h3⟩,a,vs,rfl,rfl,h3,q _ _ _ R' (S.chg (R.ows i a h1).2.2.1) f⟩
  ·cases e⟩
end
end L3
namespace L3
open PySem L2 PySem.Spec PyProof.Rows
section
variable {X:Cx} {e e2:Expr} {Fa Fb:FE} {st:Stmt} {p p2 pos pos2:Pos}
end
end L3
namespace L3
open PySem L2 PySem.Spec PyProof.Rows
section
variable {X:Cx} {e e2 r t:Expr} {Fa Fb F Fr:FE} {Ft:FT} {T:Tgt} {x:Str} {px apos cpos pos pos2 pos3:Pos} {i:Nat}
theorem Tgt.keeps{T:Tgt}{d:D}{δ δ':Sl}(h:T.run d δ=some δ'){j:Nat}(hj:¬ j∈T.slots):δ'[j]?=δ[j]?:=by
 have all:∀ (is:List Nat) (ds:List D) (δ:Sl),¬ j∈is->(setD is ds δ)[j]?=δ[j]?:=fun is=>by
  induction is with
  | nil=>intro ds δ _;rfl
  | cons i is ih =>
   intro ds δ hn
   cases ds with
   | nil=>rfl
   | cons d ds =>
    have hn':¬ j=i/\¬ j∈is:=by simpa using hn
    show(setD is ds (δ.set i (.val d)))[j]?=_
    rw[ih ds _ hn'.2,List.getElem?_set_ne (Ne.symm hn'.1)]
 unfold Tgt.run at h
 split at h
 ·cases h
  exact List.getElem?_set_ne (Ne.symm (by simpa [Tgt.slots] using hj))
 ·split at h
  ·cases h;exact all _ _ _ hj
  ·cases h
 ·split at h
  ·cases h;exact all _ _ _ hj
  ·cases h
 ·cases h
 ·rename_i i js a b
  cases eb:seqOf b with
  | none=>rw[eb]at h;cases h
  | some ys =>
   rw[eb]at h
   simp only[Option.bind_some]at h
   have hn':¬ j=i/\¬ j∈js:=by simpa [Tgt.slots] using hj
   split at h
   ·cases h
    rw[all _ _ _ hn'.2,List.getElem?_set_ne (Ne.symm hn'.1)]
   ·cases h
 ·cases h
end
end L3
namespace L3
open PySem L2 PySem.Spec PyProof.Rows
section
variable {X:Cx}
end
end L3
namespace L3
open PySem L2 PySem.Spec PyProof.Rows
section
variable {X:Cx} {tg e:Expr} {F:FE} {p pos:Pos}
end
end L3
namespace L3
open PySem L2 PySem.Spec PyProof.Rows
section
variable {X:Cx} {e e2:Expr} {Fa Fb:FE} {p pos p2 pos2:Pos}
end
inductive Al(K:PySem.W.Frag)(Z:Zt)(H:Hp)(A:List Addr):L2.St->Sl->Prop
 | nil:Al K Z H A [] []
 | non {o:Option V} {σ:L2.St} {δ:Sl}:Al K Z H A σ δ->Al K Z H A (o::σ) (.non::δ)
 | val {v:V} {d:D} {σ:L2.St} {δ:Sl}:Rep K Z H A v d->Al K Z H A σ δ->Al K Z H A (some v::σ) (.val d::δ)
theorem Al.len{K:PySem.W.Frag}{Z:Zt}{H:Hp}{A:List Addr}{σ:L2.St}{δ:Sl}(h:Al K Z H A σ δ):δ.length=σ.length:=by
 induction h with
 | nil=>rfl
 | non _ ih=>exact congrArg (· + 1) ih
 | val _ _ ih=>exact congrArg (· + 1) ih
theorem Al.get{K:PySem.W.Frag}{Z:Zt}{H:Hp}{A:List Addr}{σ:L2.St}{δ:Sl}(h:Al K Z H A σ δ):∀ (i:Nat) (d:D),δ[i]?=some (.val d)->∃ v,σ[i]?=some (some v)/\Rep K Z H A v d:=by
 induction h with
 | nil=>intro i d e;cases e
 | non _ ih =>
  intro i d e
  cases i with
  | zero=>cases e
  | succ i=>exact ih i d e
 | val r _ ih =>
  intro i d e
  cases i with
  | zero=>cases e;exact⟨_,rfl,r⟩
  | succ i=>exact ih i d e
theorem Al.own{K:PySem.W.Frag}{Z:Zt}{H:Hp}{A:List Addr}{σ:L2.St}{δ:Sl}(h:Al K Z H A σ δ):∀ (i:Nat) (xs:List D),δ[i]?=some (.own xs)->False:=by
 induction h with
 | nil=>intro i d e;cases e
 | non _ ih =>
  intro i d e
  cases i with
  | zero=>cases e
  | succ i=>exact ih i d e
 | val r _ ih =>
  intro i d e
  cases i with
  | zero=>cases e
  | succ i=>exact ih i d e
theorem Al.repS{K:PySem.W.Frag}{B:Hp}{Z:Zt}{H:Hp}{A:List Addr}{σ:L2.St}{δ:Sl}(h:Al K Z H A σ δ)(ok:∀ q∈A,(∃ o,H q=some o)/\NotZ Z q)(ext:Ext Z B H):RepS K B Z A [] σ δ H where
 ok:=ok
 ext:=ext
 len:=Al.len h
 val:=fun i d e=>let ⟨v,a,b⟩:=Al.get h i d e;⟨v,a,by show Rep K Z H (A++[]) v d;rw[List.append_nil];exact b⟩
 own:=fun i xs e=>(Al.own h i xs e).elim
 ows:=fun _ _ e=>nomatch e
 inj:=fun _ _ _ e=>nomatch e
end L3
namespace L3
open PySem L2 PyProof.Rows
section
variable {X:Cx}
end
end L3
namespace L3
open PySem L2 PySem.Spec PyProof.Rows
section
variable {X:Cx}
end
end L3
namespace L3
open PySem L2 PyProof.Rows
abbrev RS:=Sl->Sx->Option Sx
inductive tRX(X:Cx)(Z:Zt)(A:List Addr)(C:Addr)(R:RS)(E:Ends)(σ:L2.St)(H:Hp):Prop
 | mk (ow:Ow) (δ:Sl) (s:Sx) (s':Sx) (h0:RepS X.K X.H₀ Z A ow σ δ H) (h1:StateAt Z H s) (h2:R δ s=some s') (h3:∀ E' σ' H',Ext Z X.H₀ H'->StateAt Z H' s'->tRaise X C E' σ' H')
structure RX(X:Cx)(sts:List Stmt)(C:Addr)(R:RS):Prop where
 go:∀ Z A,PSs X sts (tRX X Z A C R)
section
variable {X:Cx} {st r:Stmt} {rest:List Stmt} {c:Expr} {C:Addr} {G:GS} {R:RS} {Ft:FT} {pos:Pos}
end
inductive spX(K:PySem.W.Frag)(C:Addr)(h:List D->Sx->Option Sx)(vs:List V)(H:Hp)(_Q:VK)(E:XK):Prop
 | mk (Z:Zt) (A:List Addr) (ds:List D) (s:Sx) (s':Sx) (h0:Reps K Z H A vs ds) (h1:(∀ q∈A,(∃ o,H q=some o)/\NotZ Z q)) (h2:StateAt Z H s) (h3:h ds s=some s') (h4:∀ H',Ext Z H H'->StateAt Z H' s'->E (.ref C) none H')
end L3
namespace L2
open PySem PySem.Spec PyProof.Rows
section
variable {X:Cx} {pins:List (Addr × Obj)} {σ:St} {H:Hp} {s:Shared} {E:XK} {E':Value->Shared->Prop}
end
abbrev TJ:=St->Hp->(Hp->Prop)->Prop
def PJ(X:Cx)(n:Nat)(es:List Expr)(t:TJ):Prop:=∀ (out:Str) (pins:List (Addr × Obj)) (s:Shared) (σ:St) (H:Hp) (Q:Hp->Prop),out.length<=n->Inv X pins σ H s->t σ H Q ->
 wpAny (model X.prog X.w) X.A (joinParts out (evalEach es X.env)) (fun u s'=>∃ z tk H',u=.str z tk/\Inv X pins σ H' s'/\Q H') X.xe s
section
variable {X:Cx} {n m:Nat} {e:Expr} {es:List Expr} {te:TE} {t:TJ} {p p2:Pos} {x:Str} {j:Nat}
end
end L2
namespace L2
open PySem PySem.Spec PyProof.Rows
section
variable {X:Cx} {x:Str} {C:Addr} {B newId initId:String} {bmB:List Value} {np cpos pos p2:Pos} {v1 v2:Expr} {es:List Expr} {t:TJ}
end
end L2
namespace L3
open PySem L2 PyProof.Rows
def rFmt:List FE->RS
 | []=>fun _ s=>some s
 | F::Fs=>fun δ s=>match F δ s with
  | some (.int i,s1)=>if 0<=i/\i < 200 then rFmt Fs δ s1 else none
  | _=>none
inductive tJ(X:Cx)(Z:Zt)(A:List Addr)(Fs:List FE)(σ:L2.St)(H:Hp)(Q:Hp->Prop):Prop
 | mk (ow:Ow) (δ:Sl) (s s':Sx) (h0:RepS X.K X.H₀ Z A ow σ δ H) (h1:StateAt Z H s) (h2:rFmt Fs δ s=some s') (h3:∀ H',Ext Z H H'->StateAt Z H' s'->Q H')
structure DJ(X:Cx)(n:Nat)(es:List Expr)(Fs:List FE):Prop where
 go:∀ Z A,PJ X n es (tJ X Z A Fs)
section
variable {X:Cx} {n:Nat} {e:Expr} {es:List Expr} {F:FE} {Fs:List FE} {p:Pos} {x:Str} {j:Nat}
end
section
variable {X:Cx} {st r:Stmt} {rest:List Stmt} {c:Expr} {C:Addr} {G:GS} {R R1:RS} {Ft:FT} {pos:Pos}
end
end L3
namespace L3
open PySem L2 PySem.Spec PyProof.Rows
theorem len_rep{α:Type}(xs:List α)(k:Nat):(List.replicate k xs).flatten.length=xs.length * k:=by
 induction k with
 | zero=>simp
 | succ k ih=>rw[List.replicate_succ,List.flatten_cons,List.length_append,ih,Nat.mul_succ,Nat.add_comm]
section
variable {X:Cx}
section
variable {o:Expr} {Fo:FE} {m:Str} {pos apos:Pos}
end
end
end L3
namespace L3
open PySem L2 PySem.Spec PyProof.Rows
section
variable {X:Cx} {tg iter elt e:Expr} {es:List Expr} {T:Tgt} {F:FE} {Fi:FI} {Ft:FT} {G:GS} {body:List Stmt} {pos:Pos}
end
end L3
namespace L3
open PySem L2 PySem.Spec PyProof.Rows
section
variable {X:Cx} {o:Expr} {f:Str} {pos:Pos} {ta:TE}
end
structure Men where
 f:D
 o:D
 rs:List D
 b:D
 l:D
 u:D
 n:D
def nsM:List Str:=["field","off","rises","below","failed","fault","since"]
inductive MAt(K:PySem.W.Frag)(Z:Zt)(H:Hp)(A:List Addr)(C p q dx:Addr)(m:Men):Prop
 | mk (vf vo vb vl vu vn:V) (rv:List V) (hp:H p=some (.ins C dx (nsM.zip [vf,vo,.ref q,vb,vl,vu,vn]))) (hq:H q=some (.lst rv))
  (rf:Rep K Z H (p::q::A) vf m.f) (ro:Rep K Z H (p::q::A) vo m.o) (rb:Rep K Z H (p::q::A) vb m.b) (rl:Rep K Z H (p::q::A) vl m.l) (ru:Rep K Z H (p::q::A) vu m.u) (rn:Rep K Z H (p::q::A) vn m.n) (rr:Reps K Z H (p::q::A) rv m.rs)
section
variable {K:PySem.W.Frag} {Z:Zt} {H H':Hp} {A:List Addr} {C p q dx:Addr} {m:Men}
end
end L3
namespace L3
open PySem L2 PySem.Spec PyProof.Rows
section
variable {K:PySem.W.Frag} {Z:Zt} {A:List Addr} {C p q dx:Addr} {m m':Men}
end
end L3
namespace L3
open PySem L2 PySem.Spec PyProof.Rows
section
variable {K:PySem.W.Frag} {Z:Zt} {A:List Addr} {C p q dx:Addr} {m m':Men}
end
end L3
namespace L3
open PySem L2 PySem.Spec PyProof.Rows
section
variable {K:PySem.W.Frag} {B:Hp} {Z:Zt} {A:List Addr} {ow:Ow} {C p q dx:Addr} {m m':Men} {σ:L2.St} {δ:Sl} {H H':Hp} {i:Nat}
end
section
variable {X:Cx} {s1 s2:Stmt} {rest:List Stmt} {FLm FLr FLs:FA} {g:Men->D->Sx->Option (Men × Sx)} {G:GS} {C:Addr} {i j:Nat}
end
end L3
namespace L3
open PySem L2 PySem.Spec PyProof.Rows
end L3
namespace L3
open PySem L2 PySem.Spec PyProof.Rows
section
variable {X:Cx} {tg e e2 e3:Expr} {Fa Fb Fc:FE} {p pos:Pos}
def iRngD(ta:TA):TI:=fun σ H R=>ta σ H fun vs H1=>∃ i j:Int,vs=[.int i,.int j,.int (-1)]/\(-(2 ^ 62)<=i/\i < 2 ^ 62/\-(2 ^ 62)<=j/\j < 2 ^ 62)/\R (Itd (i - ((i - j).toNat:Int) + 1) (i - j).toNat) H1
theorem z8X{a b c:Expr}{ta:TA}(hg:Gl X "range")(hm:X.mg "range"=none)(ha:PA X [a,b,c] ta)(hs:starEach [a,b,c] X.env=[(false,eval a X.env),(false,eval b X.env),(false,eval c X.env)])(hs2:starEach [b,c] X.env=[(false,eval b X.env),(false,eval c X.env)]) :
  PI X tg (.Call (.Name "range" p) [a,b,c] [] pos) (iRngD ta):=by
 intro pins s σ H R I h
 refine Call_ (z2e I hg hm boot_range (PyProof.Rows.callWith_type1 (thn (ha pos pins s σ H _ I h) fun us s1 zeg=>?_) (by rw[hs,hs2]) (by rw[hs2];rfl)))
 obtain⟨vs,H1,I1,r1,q1⟩:=zeg
 obtain⟨i,j,e,⟨q1,q2,q3,q4⟩,q⟩:=q1
 subst e
 cases r1 with
 | cons r rr =>
  cases rr with
  | cons r' rr =>
   cases rr with
   | cons r'' rr =>
    cases rr
    obtain⟨t,rfl⟩:=r
    obtain⟨t',rfl⟩:=r'
    obtain⟨t'',rfl⟩:=r''
    refine call_range_3 (by decide) ?_ (Or.inl (PyProof.noPylong_small (by decide)))
    generalize hR:({cls:=.type "range",data:=.fields #[.int i t,.int j t',.int (-1) t'']}:Obj)=ro
    have I2:Inv X pins σ H1 {s1 with heap:=s1.heap.push ro}:=I1.kept (t':=s1.toks) fun b o e=>Heap.get?_push_of_some _ e
    have hr:IsRange (s1.heap.push ro) s1.heap.objs.size i j (-1) t t' t'':=by rw[<- hR];exact Heap.get?_push_size _ rfl
    refine wpAny_pyIter_range (s:={s1 with heap:=s1.heap.push ro}) hr (PySem.W.small_down q1 q2 q3 q4) ?_
    have hst:IsRangeIter ((s1.heap.push ro).push {cls:=.type "range_iterator",data:=.fields #[rawInt i,rawInt (Builtin.Range.rangeSize i j (-1)),rawInt (-1)]}) (s1.heap.push ro).objs.size (i - ((i - j).toNat:Int) + 1 + ((i - j).toNat:Int) - 1 + ((0:Nat):Int) * (-1)) (((i - j).toNat:Int) - ((0:Nat):Int)) (-1):=by
     have e1:i - ((i - j).toNat:Int) + 1 + ((i - j).toNat:Int) - 1 + ((0:Nat):Int) * (-1)=i:=by omega
     have e2:((i - j).toNat:Int) - ((0:Nat):Int)=Builtin.Range.rangeSize i j (-1):=by rw[PySem.W.rangeSize_downNat];omega
     rw[e1,e2]
     exact Heap.get?_push_size _ rfl
    exact⟨(s1.heap.push ro).objs.size,[(s1.heap.push ro).objs.size],_,Itd (i - ((i - j).toNat:Int) + 1) (i - j).toNat,H1,rfl,I2.kept (t':=s1.toks) fun b o e=>Heap.get?_push_of_some _ e,z5j _ _ _,hst,fun b hb=>by
     have e:b=(s1.heap.push ro).objs.size:=by simpa using hb
     rw[e]
     exact I2.fpOk (Nat.le_refl _) (I2.hok.fresh (Nat.le_refl _)),q⟩
def rngD(i:Int)(n:Nat):List D:=(List.range n).map fun(k:Nat)=>.int (i - (k:Int))
def iRangeD(Fa Fb Fc:FE):FI:=fun δ s=>(Fa δ s).bind fun p=>(Fb δ p.2).bind fun q=>(Fc δ q.2).bind fun r=>match p.1,q.1,r.1 with | .int i,.int j,.int (-1)=>if (rOk i && rOk j)=true then some (rngD i (i - j).toNat,r.2) else none | _,_,_=>none
theorem zbH{K:PySem.W.Frag}{Z:Zt}{A:List Addr}{ow:Ow}{H:Hp}(i:Int)(n:Nat):Src K Z A ow (Itd (i - (n:Int) + 1) n) (rngD i n) H:=fun ow' H' st f S hA k=>by
 refine⟨fun d hd=>?_,fun hi=>(show n<=k by simpa [rngD] using hi)⟩
 unfold rngD at hd
 rw[List.getElem?_map]at hd
 refine mpp1 hd fun k' e hd=>?_
 cases hd
 have h1:=(List.getElem?_eq_some_iff.mp e).1
 rw[List.length_range]at h1
 rw[List.getElem?_range h1]at e
 cases e
 exact⟨h1,fun x H3 zeh=>by
  obtain⟨e1,e2⟩:=zeh
  rw[show i - (n:Int) + 1 + (n:Int) - 1 - (k:Int)=i - (k:Int) by omega]at e2
  subst e1 e2;exact⟨Ext.refl _,S,.int _⟩⟩
theorem z6v{d1 d2 d3:D}{s:Sx}{r:List D × Sx}(h:(match d1,d2,d3 with | .int i,.int j,.int (-1)=>if (rOk i && rOk j)=true then some (rngD i (i - j).toNat,s) else none | _,_,_=>none)=some r):∃ i j:Int,d1=.int i/\d2=.int j/\d3=.int (-1)/\(rOk i && rOk j)=true/\r=(rngD i (i - j).toNat,s):=by
 split at h
 ·split at h
  ·cases h;exact⟨_,_,rfl,rfl,rfl,by assumption,rfl⟩
  ·cases h
 ·cases h
theorem zbI{K:PySem.W.Frag}{Z:Zt}{H:Hp}{A:List Addr}{v:V}{n:Int}(r:Rep K Z H A v (.int n)):v=.int n:=by cases r;rfl
theorem z8Y(hm:X.mg "range"=none)(ha:DE X e Fa)(hb:DE X e2 Fb)(hc:DE X e3 Fc)(hg:Gl X "range":=by rfl)(hs:starEach [e,e2,e3] X.env=[(false,eval e X.env),(false,eval e2 X.env),(false,eval e3 X.env)]:=by rfl)(hs2:starEach [e2,e3] X.env=[(false,eval e2 X.env),(false,eval e3 X.env)]:=by rfl)
  (hs3:starEach [e3] X.env=[(false,eval e3 X.env)]:=by rfl) :
  DI X tg (.Call (.Name "range" p) [e,e2,e3] [] pos) (iRangeD Fa Fb Fc):=⟨fun Z A=>PI.imp (z8X hg hm (zK (ha Z A) (zK (hb Z A) (zK (hc Z A) z0o hs3) (by rw[hs2,hs3])) (by rw[hs,hs2])) hs hs2) fun σ H R zei=>by
  obtain⟨B,ow,δ,s,ds,s',RS,S,ee,q⟩:=zei
  unfold iRangeD at ee
  refine bnd2 ee fun d s1 e1 ee=>bnd2 ee fun d2 s2 e2 ee=>bnd2 ee fun d3 s3 e3 ee=>?_
  obtain⟨i,j,rfl,rfl,rfl,hj,er⟩:=z6v ee
  cases er
  refine⟨B,ow,δ,s,_,s1,RS,S,e1,fun v H1 x1 S1 r=>⟨B,ow,δ,s1,_,s2,RS.mono x1,S1,e2,fun v2 H2 x2 S2 r2=>⟨B,ow,δ,s2,_,s3,(RS.mono x1).mono x2,S2,e3,fun v3 H3 x3 S3 r3=>?_⟩⟩⟩
  cases zbI r
  cases zbI r2
  cases zbI r3
  simp only[rOk,Bool.and_eq_true]at hj
  exact⟨i,j,rfl,⟨of_decide_eq_true hj.1.1,of_decide_eq_true hj.1.2,of_decide_eq_true hj.2.1,of_decide_eq_true hj.2.2⟩,q _ H3 ((x1.trans x2).trans x3) S3 (zbH i (i - j).toNat)⟩⟩
def sParO(i j:Nat)(F:FE)(Fo:FO):GS:=fun δ s=>(F δ s).bind fun p=>(Fo δ p.2).map fun q=>(.next ((δ.set i (.val p.1)).set j (.own q.1)),q.2)
theorem zbJ{i j:Nat}{x y:Str}{a b:Expr}{px py pt:Pos}{kt k2 pt2}{F:FE}{Fo:FO}(hN:X.N.Nodup)(hij:i≠j)(ha:DE X a F)(hb:DF X b Fo)(hw:swappedStores [.Tuple [.Name x px,.Name y py] kt pt] (.Tuple [a,b] k2 pt2) X.env=pure (some [x,y]))
  (hi:X.N[i]?=some x:=by rfl) (hj:X.N[j]?=some y:=by rfl) (hx:X.env.scope.names.lookup x=some .local:=by rfl) (hy:X.env.scope.names.lookup y=some .local:=by rfl) (hc:X.calm=true:=by rfl)
  (hs:swapsWithSole [.Tuple [.Name x px,.Name y py] kt pt] (.Tuple [a,b] k2 pt2) pos.line X.env=pure false:=by rfl) (hs1:starEach [a,b] X.env=(false,eval a X.env)::starEach [b] X.env:=by rfl) (hs2:starEach [b] X.env=(false,eval b X.env)::starEach [] X.env:=by rfl):DS X (.Assign [.Tuple [.Name x px,.Name y py] kt pt] (.Tuple [a,b] k2 pt2) pos) (sParO i j F Fo) :=
 ⟨fun Z A=>PS.imp (z89 hc hN hi hj hij hx hy (zK (ha Z A) (zK (hb Z A) z0o hs2) hs1) hw hs) fun E σ H zej=>by
  obtain⟨ow,δ,s,o,s',R,S,e,q⟩:=zej
  unfold sParO at e
  refine bnd2 e fun d s1 e1 e=>?_
  refine mpp1 e fun r e2 e=>?_
  cases e
  refine⟨_,ow,δ,s,_,_,R,S,e1,fun v1 H1 x1 S1 r1=>⟨_,ow,δ,s1,_,_,R.mono x1,S1,e2,fun p vs H2 x2 S2 n h r=>?_⟩⟩
  obtain⟨R1,f1⟩:=(R.mono x1).set (i:=i) r1
  obtain⟨R2,f2⟩:=R1.setOwn (i:=j) S1 x2 n h (r.sub fun z hz=>by
   rcases List.mem_cons.mp hz with hz | hz
   ·exact hz ▸ List.mem_cons_self
   ·rcases List.mem_append.mp hz with hz | hz
    ·exact List.mem_cons_of_mem _ (List.mem_append_left _ hz)
    ·obtain⟨w,hw,rfl⟩:=List.mem_map.mp hz
     exact List.mem_cons_of_mem _ (List.mem_append_right _ (List.mem_map_of_mem (List.mem_filter.mp hw).1)))
  exact⟨_,_,rfl,q _ _ H2 R2 S2 (((Frm.ext x1).trans f1).trans f2)⟩⟩
def sForR(i u v:Nat)(T:Tgt)(FL:FA):GS:=fun δ s=>match δ[i]? with
 | some (.own xs)=>if decide (i∈T.slots\/i=u\/i=v)=true then none else forD T (sPar u v FL) xs.reverse δ s
 | _=>none
theorem zbK{i u v:Nat}{x y z:Str}{a b:Expr}{px py pz pt cpos pos2:Pos}{kt k2 pt2}{T:Tgt}{FL:FA}(hv:PE X (.Name x px) (tVar i))(hm:X.mg "reversed"=none)(hgt:DG X tg T)(hN:X.N.Nodup)(huv:u≠v)(ha:DA X [a,b] FL)
  (hw:swappedStores [.Tuple [.Name y py,.Name z pz] kt pt] (.Tuple [a,b] k2 pt2) X.env=pure (some [y,z])) (hi:X.N[u]?=some y:=by rfl) (hj:X.N[v]?=some z:=by rfl) (hx:X.env.scope.names.lookup y=some .local:=by rfl) (hy:X.env.scope.names.lookup z=some .local:=by rfl)
  (hsw:swapsWithSole [.Tuple [.Name y py,.Name z pz] kt pt] (.Tuple [a,b] k2 pt2) pos2.line X.env=pure false:=by rfl) (hg:Gl X "reversed":=by rfl) (hs:starEach [.Name x px] X.env=[(false,eval (.Name x px) X.env)]:=by rfl)
  (hp:PassesOwn (model X.prog X.w) X.A X.env X.xe:=by exact PassesOwn.never) (hc:X.calm=true:=by rfl) (hfs:∀ y,foldedSetIterable (.Call (.Name "reversed" p) [.Name x px] [] cpos) X.env y=pure y:=by intro _;rfl) :
  DS X (.For tg (.Call (.Name "reversed" p) [.Name x px] [] cpos) [.Assign [.Tuple [.Name y py,.Name z pz] kt pt] (.Tuple [a,b] k2 pt2) pos2] [] pos) (sForR i u v T FL) :=
 ⟨fun Z A=>PS.imp (zax hp hc (zbh hg hm (zK hv z0o hs) hs) (hgt Z A) (z4k (z89 hc hN hi hj huv hx hy (ha Z A) hw hsw)) hfs) fun E σ H zek=>by
  obtain⟨ow,δ,s,o,s',R,S,e,q⟩:=zek
  unfold sForR at e
  split at e
  ·rename_i xs ho
   split at e
   ·cases e
   ·rename_i hns
    have hns':¬ (i∈T.slots\/i=u\/i=v):=fun z=>hns (decide_eq_true z)
    obtain⟨a0,vs,h1,h2,h3,h4⟩:=R.own i xs ho
    have nz:=(R.ows i a0 h1).2.2.1
    have ln:=h4.length
    refine⟨_,h2,true,a0,vs,rfl,SqL.of h3,?_⟩
    refine⟨fun j m σ H'=>∃ ow' δ s,m=xs.reverse.length - j/\j<=xs.reverse.length/\RepS X.K X.H₀ Z A ow' σ δ H'/\StateAt Z H' s/\δ[i]?=some (.own xs)/\σ[i]?=some (some (.ref a0))/\H' a0=some (.lst vs)/\forD T (sPar u v FL) (xs.reverse.drop j) δ s=some (o,s')/\postS X Z A ow' H' s' E o,
     ⟨xs.reverse.length,ow,δ,s,by simp,Nat.zero_le _,R,S,ho,h2,h3,by simpa using e,q⟩,?_⟩
    rintro j m σ2 H3 ⟨ow2,δ2,s2,rfl,hj,R2,S3,ho2,ha2,hH2,e2,q2⟩
    obtain⟨a',vs',m1,m2,m3,m4⟩:=R2.own i xs ho2
    rw[ha2]at m2
    cases m2
    rw[hH2]at m3
    cases m3
    by_cases hlt:j < xs.reverse.length
    ·have hl:j < xs.length:=by rw[List.length_reverse]at hlt;exact hlt
     have hd:xs.reverse[j]?=some xs.reverse[j]:=List.getElem?_eq_getElem hlt
     have hd2:=hd
     rw[List.getElem?_reverse hl]at hd2
     obtain⟨u1,w1,q1⟩:=m4.get hd2
     rw[List.drop_eq_getElem_cons hlt]at e2
     generalize xs.reverse[j]=dd at *
     replace e2:((T.run dd δ2).bind fun δ1=>match sPar u v FL δ1 s2 with
      | some (.next δ',s')=>forD T (sPar u v FL) (xs.reverse.drop (j + 1)) δ' s'
      | some (.cnt δ',s')=>forD T (sPar u v FL) (xs.reverse.drop (j + 1)) δ' s'
      | some (.brk δ',s')=>some (.next δ',s')
      | some (.ret r,s')=>some (.ret r,s')
      | some (.own r,s')=>some (.own r,s')
      | none=>none)=some (o,s'):=e2
     refine .inr ⟨⟨SqL.of hH2,by omega⟩,fun σ' H'=>∃ ow' δ s,RepS X.K X.H₀ Z A ow' σ' δ H'/\StateAt Z H' s/\δ[i]?=some (.own xs)/\σ'[i]?=some (some (.ref a0))/\H' a0=some (.lst vs)/\forD T (sPar u v FL) (xs.reverse.drop (j + 1)) δ s=some (o,s')/\postS X Z A ow' H' s' E o,
      fun σ' H' zel=>(by obtain⟨ow',δ',s3,b1,b2,b4,b5,b6,b7,b8⟩:=zel;exact⟨xs.reverse.length - (j + 1),by omega,ow',δ',s3,rfl,hlt,b1,b2,b4,b5,b6,b7,b8⟩),fun x' H4 ⟨eH,ex⟩=>?_⟩
     subst eH
     rw[ln,w1]at ex
     cases ex
     cases e3:T.run dd δ2 with
     | none=>rw[e3]at e2;cases e2
     | some δ3 =>
      rw[e3]at e2
      simp only[Option.bind_some]at e2
      refine⟨X.H₀,ow2,δ2,_,δ3,R2,q1,e3,fun ow4 σ4 R4 f4 c4=>?_⟩
      have q4:=q2.frm f4
      have ho4:δ3[i]?=some (.own xs):=by rw[Tgt.keeps e3 (fun z=>hns' (.inl z)),ho2]
      have ha4:σ4[i]?=some (some (.ref a0)):=by rw[c4.2 i (fun z=>hns' (.inl z)),ha2]
      cases e6:FL δ3 s2 with
      | none =>
       have:sPar u v FL δ3 s2=none:=by unfold sPar;rw[e6];rfl
       rw[this]at e2;cases e2
      | some p6 =>
       obtain⟨ds,s6⟩:=p6
       refine⟨X.H₀,ow4,δ3,s2,ds,s6,R4,S3,e6,fun vs1 H5 x5 S5 rs=>?_⟩
       rcases ds with _ | ⟨dx,_ | ⟨dy,_ | ⟨dz,l⟩⟩⟩
       ·have:sPar u v FL δ3 s2=none:=by unfold sPar;rw[e6];rfl
        rw[this]at e2;cases e2
       ·have:sPar u v FL δ3 s2=none:=by unfold sPar;rw[e6];rfl
        rw[this]at e2;cases e2
       ·have ep:sPar u v FL δ3 s2=some (.next ((δ3.set u (.val dx)).set v (.val dy)),s6):=by unfold sPar;rw[e6];rfl
        rw[ep]at e2
        cases rs with
        | cons r1 rs =>
         cases rs with
         | cons r2 rs =>
          cases rs
          obtain⟨R1,f1⟩:=(R4.mono x5).set (i:=u) r1
          obtain⟨R6,f6⟩:=R1.set (i:=v) (r2.frm f1)
          exact⟨_,_,rfl,_,_,s6,R6,S5,by rw[List.getElem?_set_ne (fun z=>hns' (.inr (.inr z.symm))),List.getElem?_set_ne (fun z=>hns' (.inr (.inl z.symm)))];exact ho4,by rw[List.getElem?_set_ne (fun z=>hns' (.inr (.inr z.symm))),List.getElem?_set_ne (fun z=>hns' (.inr (.inl z.symm)))];exact ha4,x5 _ _ hH2 nz,e2,((q4.frm (Frm.ext x5)).frm f1).frm f6⟩
       ·have:sPar u v FL δ3 s2=none:=by unfold sPar;rw[e6];rfl
        rw[this]at e2;cases e2
    ·have hi':j=xs.reverse.length:=by omega
     subst hi'
     rw[List.drop_length]at e2
     cases e2
     exact .inl ⟨by show vs.length<=_;rw[List.length_reverse];omega,q2 ow2 σ2 H3 R2 S3 .refl⟩
  ·cases e⟩
end
end L3
set_option maxHeartbeats 4000000
namespace Law
open PySem L2 L3 PyProof.Rows
def top(i:Nat):Stmt:=PySem.Challenge.pw_farquotient_k21_partings.main.body.getD i (.Pass ⟨0,0,0,0⟩)
abbrev z0s:Stmt:=top 3
abbrev z8Z:Stmt:=top 4
abbrev z4K:Stmt:=top 5
abbrev z6w:Stmt:=top 6
abbrev z90:Stmt:=top 7
abbrev z1A:Stmt:=top 8
abbrev z1B:Stmt:=top 9
abbrev z1Q:Stmt:=top 10
abbrev z31:Stmt:=top 11
abbrev z3K:Stmt:=top 13
abbrev z0g:Stmt:=top 15
abbrev z29:Stmt:=top 17
abbrev z1e:Stmt:=top 18
abbrev z4L:Stmt:=top 19
abbrev z1R:Stmt:=top 21
abbrev z2t:Stmt:=top 22
abbrev z2u:Stmt:=top 23
abbrev z2v:Stmt:=top 24
abbrev z2w:Stmt:=top 25
abbrev z1S:Stmt:=top 26
abbrev z1T:Stmt:=top 27
abbrev z2x:Stmt:=top 28
abbrev z1U:Stmt:=top 29
abbrev z1n:Stmt:=top 30
abbrev z1o:Stmt:=top 31
abbrev z1C:Stmt:=top 32
abbrev z1f:Stmt:=top 33
abbrev z1g:Stmt:=top 34
abbrev z32:Stmt:=top 35
abbrev z33:Stmt:=top 36
abbrev z6x:Stmt:=top 37
section
variable {P:Program} {w:World} {K:PySem.W.Frag} {mg:Str->Option Value} {base:Heap}
inductive Is(K:PySem.W.Frag)(mg:Str->Option Value)(x:Str)(st:Stmt):Prop
 | mk (f:Addr) (fd:FuncData) (h0:Fun K x x st f fd) (h1:mg x=some (.ref f))
inductive FD(K:PySem.W.Frag)(x:Str)(st:Stmt):Prop
 | mk {f:Addr} {od an:Option Addr} {sl:Array (Option Value)} {oc kV dc pm cd ct:Value} (a:PySem.W.nsIn K mainGlobals x=some (some (.ref f))) (l:K.lookup f=some ⟨oc,od,.func (PySem.W.fnOf x x (defArgs st) (defBody st) (defScope st) .none kV dc pm an cd ct),sl⟩) (c:PySem.W.codeIn K cd x=true) (k:PySem.W.keepIn K (.ref f)=true):FD K x st
theorem FD.is{h:Heap}{x:Str}{st:Stmt}(X:K.In h)(G:h.Ns mainGlobals mg)(d:FD K x st):Is K mg x st:=by
 cases d with
 | mk a l c k=>exact⟨_,_,zaE (st:=st) l c k,PySem.W.mg_of X G a⟩
def z4M:GF:=fun _ _=>none
theorem za5(hf:Is K mg "leapt" z8Z):Cal P w K mg base "leapt" ["one","other"] 1 z4M:=by
  obtain⟨f,fd,F,hm⟩:=hf
  exact⟨f,fd,⟨fun _ _ _ _ h=>(z3s h).elim,fun _ _ _ _ _ _ _ _ _ _ _ _ _ h=>(z3s h).elim⟩,hm,F.kp,F.binds fun _ _ _ _ _ _ us hl=>by obtain⟨a0,a1,rfl⟩:=len2 hl;rfl⟩
theorem sc_greatest_divisor:FnScope ["one","other"] ["one","other"] (defScope z0s):=⟨rfl,rfl,rfl,by decide +kernel,rfl,by decide +kernel,by decide +kernel⟩
def z0U:GS:=sWhile (asB (f2 gGt (f1 gBits (fVar 1)) (fC (.int 2000)))) (sUnp (.tup [0,1]) (fCall z4M (aCons (fVar 0) (aCons (fVar 1) aNil))))
def z0V:GS:=sWhile (asT (fVar 1)) (sPar 0 1 (aCons (fVar 1) (aCons (f2 gModI (fVar 0) (fVar 1)) aNil)))
def z0t:GS:=(sSeq (sPar 0 1 (aCons (f1 gAbs (fVar 0)) (aCons (f1 gAbs (fVar 1)) aNil)))
 (sSeq (sIf (asB (f2 gLt (fVar 0) (fVar 1))) (sPar 0 1 (aCons (fVar 1) (aCons (fVar 0) aNil))) sNext)
 (sSeq z0U
 (sSeq z0V
 (sRet (fVar 0))))))
def zn:GF:=mkFn 2 0 z0t
theorem z2y(hf:Is K mg "greatest_divisor" z0s)(z6L:Cal P w K mg base "leapt" ["one","other"] 1 z4M)(z66:mg "abs"=none)(c_GREAT_BITS:Cst K mg "GREAT_BITS" (.int 2000)):Cal P w K mg base "greatest_divisor" ["one","other"] 2 zn:=by
 obtain⟨f,fd,F,hm⟩:=hf
 have nd:=sc_greatest_divisor.nd
 exact⟨f,fd,fnD F sc_greatest_divisor rfl (fun _ _ _ _ _ _ hr=>(dss_cons (z1I (i:=0) (j:=1) nd (by decide) (z3 (z11 z72 rfl z66 (dv 0).w) (z3 (z11 z72 rfl z66 (dv 1).w) z8)) (by rfl))
   (dss_cons (z2Y (z10 dlt (dv 0).w (dv 1).w (nomark _)) (ze (z1I (i:=0) (j:=1) nd (by decide) (z3 (dv 1) (z3 (dv 0) z8)) (by rfl))) z0y)
   (dss_cons (z1z (z10 dgt (zbr (dv 1).w).w (zcW c_GREAT_BITS).w (nomark _)) (ze (z3C (zh z6L hr (z3 (dv 0) (z3 (dv 1) z8))) (z1c (zu (i:=0) nd (zu (i:=1) nd z0q))))))
   (dss_cons (z1z (z2h (dv 1).w (fun _=>rfl)) (ze (z1I (i:=0) (j:=1) nd (by decide) (z3 (dv 1) (z3 (de_op dmod_int (dv 0).w (dv 1).w) z8)) (by rfl))))
   (ze (zJ (dv 0)))))))),hm,F.kp,F.binds fun _ _ _ _ _ _ us hl=>by obtain⟨a0,a1,rfl⟩:=len2 hl;rfl⟩
theorem sc_number:FnScope ["top","below","divisor"] ["top","below"] (defScope z4K):=⟨rfl,rfl,rfl,by decide +kernel,rfl,by decide +kernel,by decide +kernel⟩
def z4N:GS:=(sSeq (sSet 2 (fCall zn (aCons (fVar 0) (aCons (fVar 1) aNil))))
 (sSeq (sIf (asB (f2 gLt (fVar 1) (fC (.int 0)))) (sSet 2 (f1 gNeg (fVar 2))) sNext)
 (sRet (eTup (aCons (f2 gDivI (fVar 0) (fVar 2)) (aCons (f2 gDivI (fVar 1) (fVar 2)) aNil))))))
def zS:GF:=mkFn 2 1 z4N
theorem z91(hf:Is K mg "number" z4K)(zq:Cal P w K mg base "greatest_divisor" ["one","other"] 2 zn):Cal P w K mg base "number" ["top","below"] 3 zS:=by
 obtain⟨f,fd,F,hm⟩:=hf
 have nd:=sc_number.nd
 exact⟨f,fd,fnD F sc_number rfl (fun _ _ _ _ _ _ hr=>(dss_cons (ds_set (i:=2) nd (zh zq hr (z3 (dv 0) (z3 (dv 1) z8))))
   (dss_cons (z2Y (z10 dlt (dv 1).w (de_int).w (nomark _)) (ze (ds_set (i:=2) nd (z2N (dv 2).w))) z0y)
   (ze (zJ (zR (z3 (de_op z0G (dv 0).w (dv 2).w) (z3 (de_op z0G (dv 1).w (dv 2).w) z8)))))))),hm,F.kp,F.binds fun _ _ _ _ _ _ us hl=>by obtain⟨a0,a1,rfl⟩:=len2 hl;rfl⟩
theorem sc_times:FnScope ["one","other","left","right"] ["one","other"] (defScope z6w):=⟨rfl,rfl,rfl,by decide +kernel,rfl,by decide +kernel,by decide +kernel⟩
def z92:GS:=(sSeq (sPar 2 3 (aCons (fCall zS (aCons (f2 gIx (fVar 0) (fC (.int 0))) (aCons (f2 gIx (fVar 1) (fC (.int 1))) aNil))) (aCons (fCall zS (aCons (f2 gIx (fVar 1) (fC (.int 0))) (aCons (f2 gIx (fVar 0) (fC (.int 1))) aNil))) aNil)))
 (sRet (eTup (aCons (f2 gMulI (f2 gIx (fVar 2) (fC (.int 0))) (f2 gIx (fVar 3) (fC (.int 0)))) (aCons (f2 gMulI (f2 gIx (fVar 2) (fC (.int 1))) (f2 gIx (fVar 3) (fC (.int 1)))) aNil)))))
def z2z:GF:=mkFn 2 2 z92
theorem za6(hf:Is K mg "times" z6w)(z0w:Cal P w K mg base "number" ["top","below"] 3 zS):Cal P w K mg base "times" ["one","other"] 4 z2z:=by
 obtain⟨f,fd,F,hm⟩:=hf
 have nd:=sc_times.nd
 exact⟨f,fd,fnD F sc_times rfl (fun _ _ _ _ _ _ hr=>(dss_cons (z1I (i:=2) (j:=3) nd (by decide) (z3 (zh z0w hr (z3 (zM (dv 0).w (de_int).w (fun _ _=>rfl)) (z3 (zM (dv 1).w (de_int).w (fun _ _=>rfl)) z8))) (z3 (zh z0w hr (z3 (zM (dv 1).w (de_int).w (fun _ _=>rfl)) (z3 (zM (dv 0).w (de_int).w (fun _ _=>rfl)) z8))) z8)) (by rfl))
   (ze (zJ (zR (z3 (de_op dmul_int (zM (dv 2).w (de_int).w (fun _ _=>rfl)).w (zM (dv 3).w (de_int).w (fun _ _=>rfl)).w) (z3 (de_op dmul_int (zM (dv 2).w (de_int).w (fun _ _=>rfl)).w (zM (dv 3).w (de_int).w (fun _ _=>rfl)).w) z8))))))),hm,F.kp,F.binds fun _ _ _ _ _ _ us hl=>by obtain⟨a0,a1,rfl⟩:=len2 hl;rfl⟩
theorem sc_over:FnScope ["one","other","left","right"] ["one","other"] (defScope z90):=⟨rfl,rfl,rfl,by decide +kernel,rfl,by decide +kernel,by decide +kernel⟩
def zaP:GS:=(sSeq (sPar 2 3 (aCons (fCall zS (aCons (f2 gIx (fVar 0) (fC (.int 0))) (aCons (f2 gIx (fVar 1) (fC (.int 0))) aNil))) (aCons (fCall zS (aCons (f2 gIx (fVar 1) (fC (.int 1))) (aCons (f2 gIx (fVar 0) (fC (.int 1))) aNil))) aNil)))
 (sRet (eTup (aCons (f2 gMulI (f2 gIx (fVar 2) (fC (.int 0))) (f2 gIx (fVar 3) (fC (.int 0)))) (aCons (f2 gMulI (f2 gIx (fVar 2) (fC (.int 1))) (f2 gIx (fVar 3) (fC (.int 1)))) aNil)))))
def z1u:GF:=mkFn 2 2 zaP
theorem zbL(hf:Is K mg "over" z90)(z0w:Cal P w K mg base "number" ["top","below"] 3 zS):Cal P w K mg base "over" ["one","other"] 4 z1u:=by
 obtain⟨f,fd,F,hm⟩:=hf
 have nd:=sc_over.nd
 exact⟨f,fd,fnD F sc_over rfl (fun _ _ _ _ _ _ hr=>(dss_cons (z1I (i:=2) (j:=3) nd (by decide) (z3 (zh z0w hr (z3 (zM (dv 0).w (de_int).w (fun _ _=>rfl)) (z3 (zM (dv 1).w (de_int).w (fun _ _=>rfl)) z8))) (z3 (zh z0w hr (z3 (zM (dv 1).w (de_int).w (fun _ _=>rfl)) (z3 (zM (dv 0).w (de_int).w (fun _ _=>rfl)) z8))) z8)) (by rfl))
   (ze (zJ (zR (z3 (de_op dmul_int (zM (dv 2).w (de_int).w (fun _ _=>rfl)).w (zM (dv 3).w (de_int).w (fun _ _=>rfl)).w) (z3 (de_op dmul_int (zM (dv 2).w (de_int).w (fun _ _=>rfl)).w (zM (dv 3).w (de_int).w (fun _ _=>rfl)).w) z8))))))),hm,F.kp,F.binds fun _ _ _ _ _ _ us hl=>by obtain⟨a0,a1,rfl⟩:=len2 hl;rfl⟩
theorem sc_least_below:FnScope ["numbers","share","top","below"] ["numbers"] (defScope z1A):=⟨rfl,rfl,rfl,by decide +kernel,rfl,by decide +kernel,by decide +kernel⟩
def z1V:GS:=(sSet 1 (f2 gMulI (f2 gDivI (fVar 1) (fCall zn (aCons (fVar 1) (aCons (fVar 3) aNil)))) (fVar 3)))
def z13:GS:=sFor (iSeq (fVar 0)) (.tup [2,3]) z1V
def z0W:GS:=(sSeq (sSet 1 (fC (.int 1)))
 (sSeq z13
 (sRet (fVar 1))))
def z0d:GF:=mkFn 1 3 z0W
theorem z3X(hf:Is K mg "least_below" z1A)(zq:Cal P w K mg base "greatest_divisor" ["one","other"] 2 zn):Cal P w K mg base "least_below" ["numbers"] 3 z0d:=by
 obtain⟨f,fd,F,hm⟩:=hf
 have nd:=sc_least_below.nd
 exact⟨f,fd,fnD F sc_least_below rfl (fun _ _ _ _ _ _ hr=>(dss_cons (ds_set (i:=1) nd de_int)
   (dss_cons (z2g (z2O (dv 0)) (z1c (zu (i:=2) nd (zu (i:=3) nd z0q))) (ze (ds_set (i:=1) nd (de_op dmul_int (de_op z0G (dv 1).w (zh zq hr (z3 (dv 1) (z3 (dv 3) z8))).w).w (dv 3).w))))
   (ze (zJ (dv 1)))))),hm,F.kp,F.binds fun _ _ _ _ _ _ us hl=>by obtain⟨a0,rfl⟩:=len1 hl;rfl⟩
theorem sc_tops_over:FnScope ["share","numbers"] ["share","numbers"] (defScope z1B):=⟨rfl,rfl,rfl,by decide +kernel,rfl,by decide +kernel,by decide +kernel⟩
def z2R:FO:=fComp 2 [0] (iSeq (fVar 1)) (.tup [0,1]) fTrue (f2 gMulI (fVar 0) (f2 gDivI (fVar 2) (fVar 1)))
def z1D:GS:=(sRet (asL z2R))
def z14:GF:=mkFn 2 0 z1D
theorem z5F(hf:Is K mg "tops_over" z1B):Cal P w K mg base "tops_over" ["share","numbers"] 1 z14:=by
 obtain⟨f,fd,F,hm⟩:=hf
 have nd:=sc_tops_over.nd
 exact⟨f,fd,fnD F sc_tops_over rfl (fun _ _ _ _ _ _ hr=>(ze (zJ (DF.de (z1P (N:=["top","below","share"]) (k:=2) (fr:=[0]) (compOkC (sc:=defScope z1B) (N0:=["share","numbers"]) (by rfl) (by rfl) (by decide +kernel) (fun _ h=>z0F h)) (by decide) (z2O (dv 1)) (fun _ _ _ _=>by exact(z1c (zu (i:=0) (show List.Nodup (α:=Str) ["top","below","share"] by decide +kernel) (zu (i:=1) (show List.Nodup (α:=Str) ["top","below","share"] by decide +kernel) z0q)))) (fun _ _ _ _=>z0H) (fun _ _ _ _=>by exact(de_op dmul_int (dv 0).w (de_op z0G (dv 2).w (dv 1).w).w))))))),hm,F.kp,F.binds fun _ _ _ _ _ _ us hl=>by obtain⟨a0,a1,rfl⟩:=len2 hl;rfl⟩
theorem sc_divisor_of:FnScope ["wholes","divisor","each"] ["wholes"] (defScope z1Q):=⟨rfl,rfl,rfl,by decide +kernel,rfl,by decide +kernel,by decide +kernel⟩
def z2i:GS:=(sSet 1 (fCall zn (aCons (fVar 1) (aCons (fVar 2) aNil))))
def z2j:GS:=sFor (iSeq (fVar 0)) (.one 2) z2i
def z1W:GS:=(sSeq (sSet 1 (fC (.int 0)))
 (sSeq z2j
 (sRet (fVar 1))))
def zT:GF:=mkFn 1 2 z1W
theorem z4O(hf:Is K mg "divisor_of" z1Q)(zq:Cal P w K mg base "greatest_divisor" ["one","other"] 2 zn):Cal P w K mg base "divisor_of" ["wholes"] 3 zT:=by
 obtain⟨f,fd,F,hm⟩:=hf
 have nd:=sc_divisor_of.nd
 exact⟨f,fd,fnD F sc_divisor_of rfl (fun _ _ _ _ _ _ hr=>(dss_cons (ds_set (i:=1) nd de_int)
   (dss_cons (z2g (z2O (dv 0)) (z0p (i:=2) nd) (ze (ds_set (i:=1) nd (zh zq hr (z3 (dv 1) (z3 (dv 2) z8))))))
   (ze (zJ (dv 1)))))),hm,F.kp,F.binds fun _ _ _ _ _ _ us hl=>by obtain⟨a0,rfl⟩:=len1 hl;rfl⟩
theorem sc_to_power:FnScope ["base","exponent","power","step"] ["base","exponent"] (defScope z31):=⟨rfl,rfl,rfl,by decide +kernel,rfl,by decide +kernel,by decide +kernel⟩
def z1X:GS:=(sAug 2 gMulI (fVar 0))
def z3k:GS:=sFor (iRange1 (fVar 1)) (.one 3) z1X
def z34:GS:=(sSeq (sSet 2 (fC (.int 1)))
 (sSeq z3k
 (sRet (fVar 2))))
def z0z:GF:=mkFn 2 2 z34
theorem z6y(hf:Is K mg "to_power" z31)(z0f:mg "range"=none):Cal P w K mg base "to_power" ["base","exponent"] 1 z0z:=by
 obtain⟨f,fd,F,hm⟩:=hf
 have nd:=sc_to_power.nd
 exact⟨f,fd,fnD F sc_to_power rfl (fun _ _ _ _ _ _ hr=>(dss_cons (ds_set (i:=2) nd de_int)
   (dss_cons (z2g (z2P z0f (dv 1)) (z0p (i:=3) nd) (ze (zaN (i:=2) nd zcV (dv 0))))
   (ze (zJ (dv 2)))))),hm,F.kp,F.binds fun _ _ _ _ _ _ us hl=>by obtain⟨a0,a1,rfl⟩:=len2 hl;rfl⟩
theorem sc_trimmed:FnScope ["nought","row","many"] ["nought","row"] (defScope z3K):=⟨rfl,rfl,rfl,by decide +kernel,rfl,by decide +kernel,by decide +kernel⟩
def z3L:GS:=sWhile (tAndF (asB (f2 gGt (fVar 2) (fC (.int 0)))) (asB (f2 gEq (f2 gIx (fVar 1) (f2 gSubI (fVar 2) (fC (.int 1)))) (fVar 0)))) (sAug 2 gSubI (fC (.int 1)))
def z2S:GS:=(sSeq (sSet 2 (f1 gLen (fVar 1)))
 (sSeq z3L
 (sRet (f1 gTuple (fSl (fVar 1) pNo (pInt (fVar 2)))))))
def z1Y:GF:=mkFn 2 1 z2S
theorem z7V(hf:Is K mg "trimmed" z3K)(z05:mg "len"=none)(zI:mg "tuple"=none):Cal P w K mg base "trimmed" ["nought","row"] 1 z1Y:=by
 obtain⟨f,fd,F,hm⟩:=hf
 have nd:=sc_trimmed.nd
 exact⟨f,fd,fnD F sc_trimmed rfl (fun _ _ _ _ _ _ hr=>(dss_cons (ds_set (i:=2) nd (z11 z0x rfl z05 (dv 1).w))
   (dss_cons (z1z (zaF (z10 dgt (dv 2).w (de_int).w (nomark _)) (z8z (z10 (deq hr.units) (zM (dv 1).w (de_op z0h (dv 2).w (de_int).w).w (fun _ _=>rfl)).w (dv 0).w (nomark _)))).t (ze (zaN (i:=2) nd zaM de_int)))
   (ze (zJ (z3q z1y rfl zI (z3u (dv 1) z9Y (z7a (dv 2).w)).w)))))),hm,F.kp,F.binds fun _ _ _ _ _ _ us hl=>by obtain⟨a0,a1,rfl⟩:=len2 hl;rfl⟩
theorem sc_whole_parted:FnScope ["high","low","often","rest","shift","weight","place"] ["high","low"] (defScope z0g):=⟨rfl,rfl,rfl,by decide +kernel,rfl,by decide +kernel,by decide +kernel⟩
def z1J:FO:=fComp 1 [1] (iSeq (fVar 2)) (.one 0) fTrue (f2 gMulI (fVar 0) (f2 gIx (fVar 1) (f1 gNeg (fC (.int 1)))))
def z0P:FO:=fComp 1 [1] (iSeq (fVar 3)) (.one 0) fTrue (f2 gMulI (fVar 0) (f2 gIx (fVar 1) (f1 gNeg (fC (.int 1)))))
def z1K:GS:=(sAugI 3 gSubI (f2 gAdd (fVar 4) (fVar 6)) (f2 gMulI (fVar 5) (f2 gIx (fVar 1) (fVar 6))))
def z0Q:GS:=sFor (iRange1 (f2 gSubI (f1 gLen (fVar 1)) (fC (.int 1)))) (.one 6) z1K
def z0i:GS:=(sSeq (sSetPop 5 3)
 (sSeq (sSet 2 (f2 gAdd (eLst (aCons (fVar 5) aNil)) (asL z1J)))
 (sSeq (sSeq (sFrz 3) (sSetO 3 z0P))
 z0Q)))
def z0R:GS:=sFor (iRevRange (f2 gAdd (f2 gSubI (f1 gLen (fVar 0)) (f1 gLen (fVar 1))) (fC (.int 1)))) (.one 4) z0i
def z0I:GS:=(sSeq (sParO 2 3 (eLst aNil) (oList (fVar 0)))
 (sSeq z0R
 (sSeq (sFrz 3) (sRet (eTup (aCons (f1 gTuple (fVar 2)) (aCons (fCall z1Y (aCons (fC (.int 0)) (aCons (fVar 3) aNil))) aNil)))))))
def zx:GF:=mkFn 2 5 z0I
theorem z3M(hf:Is K mg "whole_parted" z0g)(z3U:Cal P w K mg base "trimmed" ["nought","row"] 1 z1Y)(z05:mg "len"=none)(z03:mg "list"=none)(z0f:mg "range"=none)(z0Z:mg "reversed"=none)(zI:mg "tuple"=none):Cal P w K mg base "whole_parted" ["high","low"] 2 zx:=by
 obtain⟨f,fd,F,hm⟩:=hf
 have nd:=sc_whole_parted.nd
 exact⟨f,fd,fnD F sc_whole_parted rfl (fun _ _ _ _ _ _ hr=>(dss_cons (zbJ (i:=2) (j:=3) nd (by decide) (z1b z8) (z6n rfl z03 (dv 0).w) (by rfl))
   (dss_cons (z2g (zbB z0Z z0f (de_op dadd (de_op z0h (z11 z0x rfl z05 (dv 0).w).w (z11 z0x rfl z05 (dv 1).w).w).w (de_int).w)) (z0p (i:=4) nd) (dss_cons (z8O (i:=3) (j:=5) nd (pv 3))
   (dss_cons (ds_set (i:=2) nd (de_op dadd (z1b (z3 (dv 5) z8)).w (DF.de (z1P (N:=["each","low"]) (k:=1) (fr:=[1]) (compOkC (sc:=defScope z0g) (N0:=["high","low","often","rest","shift","weight","place"]) (by rfl) (by rfl) (by decide +kernel) (fun _ h=>z0F h)) (by decide) (z2O (dv 2)) (fun _ _ _ _=>by exact(z0p (i:=0) (show List.Nodup (α:=Str) ["each","low"] by decide +kernel))) (fun _ _ _ _=>z0H) (fun _ _ _ _=>by exact(de_op dmul_int (dv 0).w (zM (dv 1).w (z2N (de_int).w).w (fun _ _=>rfl)).w)))).w))
   (dss_cons (z4d 3 (z9Z (i:=3) nd (N:=["each","low"]) (k:=1) (fr:=[1]) (compOkC (sc:=defScope z0g) (N0:=["high","low","often","rest","shift","weight","place"]) (by rfl) (by rfl) (by decide +kernel) (fun _ h=>z0F h)) (by decide) (z2O (dv 3)) (fun _ _ _ _=>by exact(z0p (i:=0) (show List.Nodup (α:=Str) ["each","low"] by decide +kernel))) (fun _ _ _ _=>z0H) (fun _ _ _ _=>by exact(de_op dmul_int (dv 0).w (zM (dv 1).w (z2N (de_int).w).w (fun _ _=>rfl)).w)) (by rfl)))
   (ze (z2g (z2P z0f (de_op z0h (z11 z0x rfl z05 (dv 1).w).w (de_int).w)) (z0p (i:=6) nd) (ze (zby (i:=3) zaM (pv 3) (de_op dadd (dv 4).w (dv 6).w).w (de_op dmul_int (dv 5).w (zM (dv 1).w (dv 6).w (fun _ _=>rfl)).w)))))))))
   (ze (z4d 3 (zJ (zR (z3 (z3q z1y rfl zI (dv 2).w) (z3 (zh z3U hr (z3 de_int (z3 (dv 3) z8))) z8))))))))),hm,F.kp,F.binds fun _ _ _ _ _ _ us hl=>by obtain⟨a0,a1,rfl⟩:=len2 hl;rfl⟩
theorem sc_with_share:FnScope ["one","below","wholes","divisor"] ["one"] (defScope z1e):=⟨rfl,rfl,rfl,by decide +kernel,rfl,by decide +kernel,by decide +kernel⟩
def z2k:FO:=fComp 1 [3] (iSeq (fVar 2)) (.one 0) fTrue (f2 gDivI (fVar 0) (fVar 1))
def z1Z:GS:=(sSeq (sSet 1 (fCall z0d (aCons (fVar 0) aNil)))
 (sSeq (sSet 2 (fCall z14 (aCons (fVar 1) (aCons (fVar 0) aNil))))
 (sSeq (sSet 3 (fCall zT (aCons (fVar 2) aNil)))
 (sRet (eTup (aCons (fCall zS (aCons (fVar 3) (aCons (fVar 1) aNil))) (aCons (f1 gTuple (asL z2k)) aNil)))))))
def z08:GF:=mkFn 1 3 z1Z
theorem z4P(hf:Is K mg "with_share" z1e)(z0w:Cal P w K mg base "number" ["top","below"] 3 zS)(z1G:Cal P w K mg base "least_below" ["numbers"] 3 z0d)(z2D:Cal P w K mg base "tops_over" ["share","numbers"] 1 z14)(z0n:Cal P w K mg base "divisor_of" ["wholes"] 3 zT)(zI:mg "tuple"=none):Cal P w K mg base "with_share" ["one"] 4 z08:=by
 obtain⟨f,fd,F,hm⟩:=hf
 have nd:=sc_with_share.nd
 exact⟨f,fd,fnD F sc_with_share rfl (fun _ _ _ _ _ _ hr=>(dss_cons (ds_set (i:=1) nd (zh z1G hr (z3 (dv 0) z8)))
   (dss_cons (ds_set (i:=2) nd (zh z2D hr (z3 (dv 1) (z3 (dv 0) z8))))
   (dss_cons (ds_set (i:=3) nd (zh z0n hr (z3 (dv 2) z8)))
   (ze (zJ (zR (z3 (zh z0w hr (z3 (dv 3) (z3 (dv 1) z8))) (z3 (z3q z1y rfl zI (DF.de (z1P (N:=["each","divisor"]) (k:=1) (fr:=[3]) (compOkC (sc:=defScope z1e) (N0:=["one","below","wholes","divisor"]) (by rfl) (by rfl) (by decide +kernel) (fun _ h=>z0F h)) (by decide) (z2O (dv 2)) (fun _ _ _ _=>by exact(z0p (i:=0) (show List.Nodup (α:=Str) ["each","divisor"] by decide +kernel))) (fun _ _ _ _=>z0H) (fun _ _ _ _=>by exact(de_op z0G (dv 0).w (dv 1).w)))).w) z8))))))))),hm,F.kp,F.binds fun _ _ _ _ _ _ us hl=>by obtain⟨a0,rfl⟩:=len1 hl;rfl⟩
theorem sc_taken:FnScope ["wholes","share"] ["wholes","share"] (defScope z4L):=⟨rfl,rfl,rfl,by decide +kernel,rfl,by decide +kernel,by decide +kernel⟩
def z93:FO:=fComp 1 [1] (iSeq (fVar 0)) (.one 0) fTrue (fCall z2z (aCons (eTup (aCons (fVar 0) (aCons (fC (.int 1)) aNil))) (aCons (fVar 1) aNil)))
def z94:GS:=(sRet (f1 gTuple (asL z93)))
def z2A:GF:=mkFn 2 0 z94
theorem za7(hf:Is K mg "taken" z4L)(z6N:Cal P w K mg base "times" ["one","other"] 4 z2z)(zI:mg "tuple"=none):Cal P w K mg base "taken" ["wholes","share"] 5 z2A:=by
 obtain⟨f,fd,F,hm⟩:=hf
 have nd:=sc_taken.nd
 exact⟨f,fd,fnD F sc_taken rfl (fun _ _ _ _ _ _ hr=>(ze (zJ (z3q z1y rfl zI (DF.de (z1P (N:=["each","share"]) (k:=1) (fr:=[1]) (compOkC (sc:=defScope z4L) (N0:=["wholes","share"]) (by rfl) (by rfl) (by decide +kernel) (fun _ h=>z0F h)) (by decide) (z2O (dv 0)) (fun _ _ _ _=>by exact(z0p (i:=0) (show List.Nodup (α:=Str) ["each","share"] by decide +kernel))) (fun _ _ _ _=>z0H) (fun _ _ _ _=>by exact(zh z6N hr (z3 (zR (z3 (dv 0) (z3 de_int z8))) (z3 (dv 1) z8)))))).w)))),hm,F.kp,F.binds fun _ _ _ _ _ _ us hl=>by obtain⟨a0,a1,rfl⟩:=len2 hl;rfl⟩
theorem sc_partings:FnScope ["one","other","told","share","high","part","low","ratio","often","rest","grown","divisor"] ["one","other"] (defScope z29):=⟨rfl,rfl,rfl,by decide +kernel,rfl,by decide +kernel,by decide +kernel⟩
def z1h:FO:=fComp 1 [11] (iSeq (fVar 9)) (.one 0) fTrue (f2 gDivI (fVar 0) (fVar 1))
def z5G:GS:=sWhile (asT (fVar 6)) (sSeq (sUnp (.tup [8,9]) (fCall zx (aCons (fVar 4) (aCons (fVar 6) aNil))))
 (sSeq (sSet 10 (eTup (aCons (fCall z0z (aCons (f2 gIx (fVar 6) (f1 gNeg (fC (.int 1)))) (aCons (f1 gLen (fVar 8)) aNil))) (aCons (fC (.int 1)) aNil))))
 (sSeq (sApp 2 (fCall z2A (aCons (fVar 8) (aCons (fCall z1u (aCons (fVar 7) (aCons (fVar 10) aNil))) aNil))))
 (sSeq (sSet 11 (fCall zT (aCons (fVar 9) aNil)))
 (sSeq (sIf (asT (fVar 9)) (sSet 7 (fCall z1u (aCons (fCall z1u (aCons (fVar 10) (aCons (eTup (aCons (fVar 11) (aCons (fC (.int 1)) aNil))) aNil))) (aCons (fVar 7) aNil)))) sNext)
 (sPar 4 6 (aCons (fVar 6) (aCons (f1 gTuple (asL z1h)) aNil))))))))
def z35:GS:=(sSeq (sSetO 2 (oLst aNil))
 (sSeq (sUnp (.tup [3,4]) (fCall z08 (aCons (fVar 0) aNil)))
 (sSeq (sUnp (.tup [5,6]) (fCall z08 (aCons (fVar 1) aNil)))
 (sSeq (sSet 7 (fCall z1u (aCons (fVar 3) (aCons (fVar 5) aNil))))
 (sSeq z5G
 (sRetO 2))))))
def z0A:GC:=mkFnC 2 10 z35
def z2a:GF:=gOf z0A
theorem z6z(hf:Is K mg "partings" z29)(z4j:Cal P w K mg base "over" ["one","other"] 4 z1u)(z0n:Cal P w K mg base "divisor_of" ["wholes"] 3 zT)(z3d:Cal P w K mg base "to_power" ["base","exponent"] 1 z0z)(z1q:Cal P w K mg base "whole_parted" ["high","low"] 2 zx)(z1k:Cal P w K mg base "with_share" ["one"] 4 z08)(z6M:Cal P w K mg base "taken" ["wholes","share"] 5 z2A)(z05:mg "len"=none)(zI:mg "tuple"=none):CalC P w K mg base "partings" ["one","other"] 6 z0A:=by
 obtain⟨f,fd,F,hm⟩:=hf
 have nd:=sc_partings.nd
 exact⟨f,fd,fnC F sc_partings rfl (fun _ _ _ _ _ _ hr=>(dss_cons (z30 (i:=2) nd (z8N z8))
   (dss_cons (z3C (zh z1k hr (z3 (dv 0) z8)) (z1c (zu (i:=3) nd (zu (i:=4) nd z0q))))
   (dss_cons (z3C (zh z1k hr (z3 (dv 1) z8)) (z1c (zu (i:=5) nd (zu (i:=6) nd z0q))))
   (dss_cons (ds_set (i:=7) nd (zh z4j hr (z3 (dv 3) (z3 (dv 5) z8))))
   (dss_cons (z1z (z2h (dv 6).w (fun _=>rfl)) (dss_cons (z3C (zh z1q hr (z3 (dv 4) (z3 (dv 6) z8))) (z1c (zu (i:=8) nd (zu (i:=9) nd z0q))))
   (dss_cons (ds_set (i:=10) nd (zR (z3 (zh z3d hr (z3 (zM (dv 6).w (z2N (de_int).w).w (fun _ _=>rfl)) (z3 (z11 z0x rfl z05 (dv 8).w) z8))) (z3 de_int z8))))
   (dss_cons (zaL (i:=2) (pv 2) (zh z6M hr (z3 (dv 8) (z3 (zh z4j hr (z3 (dv 7) (z3 (dv 10) z8))) z8))))
   (dss_cons (ds_set (i:=11) nd (zh z0n hr (z3 (dv 9) z8)))
   (dss_cons (z2Y (z2h (dv 9).w (fun _=>rfl)) (ze (ds_set (i:=7) nd (zh z4j hr (z3 (zh z4j hr (z3 (dv 10) (z3 (zR (z3 (dv 11) (z3 de_int z8))) z8))) (z3 (dv 7) z8))))) z0y)
   (ze (z1I (i:=4) (j:=6) nd (by decide) (z3 (dv 6) (z3 (z3q z1y rfl zI (DF.de (z1P (N:=["each","divisor"]) (k:=1) (fr:=[11]) (compOkC (sc:=defScope z29) (N0:=["one","other","told","share","high","part","low","ratio","often","rest","grown","divisor"]) (by rfl) (by rfl) (by decide +kernel) (fun _ h=>z0F h)) (by decide) (z2O (dv 9)) (fun _ _ _ _=>by exact(z0p (i:=0) (show List.Nodup (α:=Str) ["each","divisor"] by decide +kernel))) (fun _ _ _ _=>z0H) (fun _ _ _ _=>by exact(de_op z0G (dv 0).w (dv 1).w)))).w) z8)) (by rfl)))))))))
   (ze (zbG (i:=2) (pv 2))))))))),hm,F.kp,F.binds fun _ _ _ _ _ _ us hl=>by obtain⟨a0,a1,rfl⟩:=len2 hl;rfl⟩
theorem sc__law_begin:FnScope ["_law_script","_law_cells"] ["_law_script"] (defScope z1R):=⟨rfl,rfl,rfl,by decide +kernel,rfl,by decide +kernel,by decide +kernel⟩
theorem z4Q(hf:Is K mg "_law_begin" z1R)(z03:mg "list"=none):∃ f fd,FnOk P w K mg base CX0 1 f fd ["_law_script"] (spBegin K)/\mg "_law_begin"=some (.ref f)/\PySem.W.keepIn K (.ref f)=true/\Binds K fd ["_law_script"] []:=by
 obtain⟨f,fd,F,hm⟩:=hf
 refine⟨f,fd,?_,hm,F.kp,F.binds fun _ _ _ _ _ _ us hl=>by obtain⟨a0,rfl⟩:=len1 hl;rfl⟩
 have nd:=sc__law_begin.nd
 refine F.ok sc__law_begin (fun vs H Q E zem=>by obtain⟨a,ns,e,_⟩:=zem;subst e;rfl) (fun cdv A outer s H vs Q E hr zen=>?_)
 obtain⟨a,ns,e,sq,hl,q⟩:=zen
 subst e
 refine⟨_,z0E (z2F (i:=1) nd rfl (Or.inl rfl) (z3x z1O rfl z03 rfl (zK (z6X sl_list (pv 0) z8j (z8k z43)) z0o)))
  (z0E (DS.at0 (z2Y (z10 (deq hr.units) (dv 1).w (z1b z8).w (nomark _)) (ze (ds_set (i:=1) nd (z1b (z3 de_int z8)))) z0y:DS _ _ z6k))
  (z4k (z6W (zbb (z6Z z3e (pv 1) (z6Z z3e z43 zba)) rfl rfl (by simp) (by decide))))),?_⟩
 refine⟨_,rfl,63,rfl,a,_,rfl,sq,fun p hp=>⟨p,_,rfl,.inl (SqL.of zk),fun l hl2=>?_⟩⟩
 have ecut:cutV (ns.map V.int) none (some 63)=ns.map V.int:=by
  have e63:HT.sIx (ns.map V.int).length (ns.map V.int).length (some ((63:Nat):Int))=min 63 (ns.map V.int).length:=HT.sIx_nat _ _ _
  unfold cutV
  rw[show(some (63:Int))=some ((63:Nat):Int) from rfl,e63,HT.sIx_none,List.drop_zero]
  exact List.take_of_length_le (by rw[List.length_map];omega)
 rw[ecut]at hl2 ⊢
 have hpl:p≠l:=fun z=>by rw[<- z,zk]at hl2;cases hl2
 have hHl:H l=none:=by rw[zg (Ne.symm hpl)]at hl2;exact hl2
 generalize hH1:upd (upd H p (.lst (ns.map V.int))) l (.lst (ns.map V.int))=H1
 have X1:Ext none H H1:=fun b o eb nb=>by rw[<- hH1,zg (zj eb hHl),zg (zj eb hp)];exact eb
 have L1:H1 l=some (.lst (ns.map V.int)):=by rw[<- hH1];exact zk
 refine⟨[],[.non,.val (.list (ns.map PyData.int))],([],0),_,_,Al.repS (.non (.val (.lst L1 (fun z=>nomatch z) (fun a c z=>nomatch z) (z5t _ _ _ _ ns)) .nil)) (fun q hq=>nomatch hq) X1,(fun a c h=>nomatch h),z8K ns _ _,fun ow' σ' H2 R' S' fr=>?_⟩
 ·obtain⟨v,hv,rv⟩:=R'.val 1 _ rfl
  cases rv with
  | @lst c vs _ hc n1 n2 rs =>
   have evs:=z3h rs
   subst evs
   intro d hd
   refine⟨_,hv,(show(upd H2 d (.dK [])) d=some (.dK []) from zk),[(Sum.inr ("cells":Str),V.ref c),(Sum.inr ("turn":Str),V.int 0)],rfl,(by show 2<=15;decide),?_⟩
   have X2:∀ b o,H b=some o->H2 b=some o:=fun b o eb=>R'.ext b o eb (fun a c z=>nomatch z)
   have hHd:H d=none:=by
    cases e9:H d with
    | none=>rfl
    | some o=>rw[X2 d o e9]at hd;cases hd
   refine q d c _ (fun b o eb=>?_) ?_ ?_
   ·rw[zg (zj eb hHd),zg (zj eb hHd)];exact X2 b o eb
   ·rw[zk];rfl
   ·rw[zg (zj hc hd),zg (zj hc hd)];exact hc
theorem z7i{ds:List D}{st:Sx}{r:D × Sx}(e:zf ds st=some r):∃ many,ds=[.dict [],.int many]/\takeOk st many=true/\takeF st many=r:=by
 unfold zf at e
 split at e
 ·split at e
  ·next h=>exact⟨_,rfl,h,Option.some.inj e⟩
  ·cases e
 ·cases e
theorem zbM{Z:Zt}{H:Hp}{A:List Addr}{v:V}{d:D}(r:Rep K Z H A v d):∀ {n:Int},d=.int n->v=.int n:=by
 cases r <;> intro n e <;> cases e
 rfl
theorem zd4{Z:Zt}{H:Hp}{A:List Addr}{v:V}{d:D}(r:Rep K Z H A v d):d=.dict []->∃ a c,v=.ref a/\Z=some (a,c):=by
 cases r <;> intro e <;> cases e
 exact⟨_,_,rfl,by assumption⟩
theorem zbN{Z:Zt}{H:Hp}{A:List Addr}{vs:List V}{many:Int}(r:Reps K Z H A vs [.dict [],.int many]):∃ a c,vs=[.ref a,.int many]/\Z=some (a,c):=by
 obtain⟨v0,v1,rfl⟩:=len2 (show vs.length=2 from r.length)
 obtain⟨a,c,rfl,hZ⟩:=zd4 r.head rfl
 cases r with
 | cons _ r=>cases zbM r.head rfl;exact⟨a,c,rfl,hZ⟩
section
variable {u A:TS} {E:Ends} {σ:L2.St} {H:Hp} {a c:Addr} {t:Int}
theorem zbO(h0:σ[0]?=some (some (.ref a)))(hA:H a=some (.dK (stDict c t)))(q:u E (σ.set 2 (some (.int (t + 1)))) H) :
  tSeq (tAsg (tOp (rI0 fun i j=>.int (i + j)) (tDGet (tVar 0) (tC (.str "turn"))) (tC (.int 1))) (gName 2)) u E σ H :=
 ⟨_,h0,a,_,rfl,(z8H c t ▸ DGet.k (k:=Sum.inr "turn") hA),_,_,rfl,rfl,q⟩
theorem zd5{v:Int}(h0:σ[0]?=some (some (.ref a)))(h2:σ[2]?=some (some (.int v)))(hA:H a=some (.dK (stDict c t)))(q:u E σ (upd H a (.dK (stDict c v)))) :
  tSeq (sDPut (tVar 0) (tC (.str "turn")) (tVar 2)) u E σ H :=
 ⟨_,h2,_,h0,a,_,rfl,zcR c t v ▸ DPut.k (k:=Sum.inr "turn") hA (small1000 (by show 2<=1000;decide)),q⟩
theorem za8{v:Int}{xs:List V}(h0:σ[0]?=some (some (.ref a)))(h2:σ[2]?=some (some (.int v)))(hA:H a=some (.dK (stDict c t)))(hc:H c=some (.lst xs))(hn:(xs.length:Int)≠0)(q:u E (σ.set 3 (some (.int (v.fmod xs.length)))) H) :
  tSeq (tAsg (tOp (rI (fun _ j=>j≠0) fun i j=>.int (i.fmod j)) (tVar 2) (tCB (fun xs H Q=>∃ p ys,xs=[.ref p]/\(SqL K H p ys\/SqT K H p ys)/\Q (.int ys.length) H) (tCons (tDGet (tVar 0) (tC (.str "cells"))) tNil))) (gName 3)) u E σ H :=
 ⟨_,h2,_,h0,a,_,rfl,(z4w c t ▸ DGet.k (k:=Sum.inr "cells") hA),c,_,rfl,.inl (SqL.of hc),_,_,rfl,rfl,hn,q⟩
theorem zbP{v:Int}{xs:List V}{x:V}(h0:σ[0]?=some (some (.ref a)))(h3:σ[3]?=some (some (.int v)))(hA:H a=some (.dK (stDict c t)))(hc:H c=some (.lst xs))(hx:atI xs v=some x)(q:u E (σ.set 4 (some x)) H) :
  tSeq (tAsg (tOp (rIxL K) (tDGet (tVar 0) (tC (.str "cells"))) (tVar 3)) (gName 4)) u E σ H :=
 ⟨_,h0,a,_,rfl,(z4w c t ▸ DGet.k (k:=Sum.inr "cells") hA),_,h3,c,_,_,x,rfl,rfl,SqL.of hc,hx,q⟩
theorem ten18:((10:Int) ^ (18:Int).toNat)=1000000000000000000:=by decide
theorem zeQ{x:Int}(h4:σ[4]?=some (some (.int x)))(q1:1000000000000000000<=x->A {E with nx:=u E} σ H)(q2:¬ 1000000000000000000<=x->u E σ H) :
  tSeq (tIfS (tTest (tOp (rI0 fun i j=>.bl (decide (j<=i))) (tVar 4) (tOp (rI CPow fun i j=>.int (i ^ j.toNat)) (tC (.int 10)) (tC (.int 18))))) A tNext) u E σ H :=
 ⟨_,h4,_,_,rfl,rfl,⟨by decide,by decide,by decide⟩,_,_,rfl,rfl,_,rfl,ite2 (fun h=>q1 (ten18 ▸ of_decide_eq_true h)) (fun h=>q2 fun z=>h (decide_eq_true (ten18.symm ▸ z)))⟩
theorem za9{x m v:Int}{xs:List V}{j:Nat}(h0:σ[0]?=some (some (.ref a)))(h1:σ[1]?=some (some (.int m)))(h3:σ[3]?=some (some (.int v)))(h4:σ[4]?=some (some (.int x)))(h5:5 < σ.length)(hA:H a=some (.dK (stDict c t)))(hc:H c=some (.lst xs))(hd:divOk x m=true)(hj:ixN xs.length v=some j)
  (q:∀ p,H p=none->E.rt (.int (x.fmod m)) (upd (upd H p (.tup [.int (x.fdiv m),.int (x.fmod m)])) c (.lst (xs.set j (.int (x.fdiv m)))))) :
  tSeq (tAsg (tCB (fun xs H Q=>∃ i j,xs=[.int i,.int j]/\divOk i j=true/\∀ p,H p=none->Q (.ref p) (upd H p (.tup [.int (i.fdiv j),.int (i.fmod j)]))) (tCons (tVar 4) (tCons (tVar 1) tNil))) (gTup K 2 (gCons (gSub (tDGet (tVar 0) (tC (.str "cells"))) (tVar 3) rSetL) (gCons (gName 5) gNil)))) (tRet (tVar 5)) E σ H :=
 ⟨_,h4,_,h1,_,_,rfl,hd,fun p hp=>⟨p,_,rfl,SqT.of zk,rfl,_,_,rfl,_,h0,a,_,rfl,(z4w c t ▸ DGet.k (k:=Sum.inr "cells") (by rw[zg (zj hA hp)];exact hA)),_,h3,c,_,_,j,rfl,rfl,(by rw[zg (zj hc hp)];exact hc),hj,_,_,rfl,rfl,_,List.getElem?_set_self h5,q p hp⟩⟩
end
theorem sc__law_take:FnScope ["_law_state","_law_many","_law_turn","_law_place","_law_cell","_law_digit","_law_mixed"] ["_law_state","_law_many"] (defScope z2t):=⟨rfl,rfl,rfl,by decide +kernel,rfl,by decide +kernel,by decide +kernel⟩
theorem z5H(hf:Is K mg "_law_take" z2t)(z05:mg "len"=none)(z57:mg "divmod"=none):Cal P w K mg base "_law_take" ["_law_state","_law_many"] 1 zf:=by
  obtain⟨f,fd,F,hm⟩:=hf
  refine⟨f,fd,?_,hm,F.kp,F.binds fun _ _ _ _ _ _ us hl=>by obtain⟨a0,a1,rfl⟩:=len2 hl;rfl⟩
  have nd:=sc__law_take.nd
  refine F.ok sc__law_take (fun vs H Q E zeo=>?_) (fun cdv A outer s H vs Q E hr zep=>?_)
  · obtain⟨Z,A0,ds,st,d,st',r,_,_,e,_⟩:=zeo
    obtain⟨m,rfl,_⟩:=z7i e
    exact r.length
  · obtain⟨Z,A0,ds,st,d,st',r,hA,S,e,q⟩:=zep
    obtain⟨many,rfl,hok,e⟩:=z7i e
    obtain⟨a,c,rfl,hZ⟩:=zbN r
    obtain⟨cells,turn⟩:=st
    obtain⟨S1,S2⟩:=S a c hZ
    have ac:a≠c:=zcl S1 S2 (by intro z;cases z)
    simp only[takeOk,Bool.and_eq_true,decide_eq_true_eq]at hok
    obtain⟨⟨⟨⟨⟨k1,k2⟩,k3⟩,k4⟩,k5⟩,k6⟩:=hok
    have hu:=zeK hr
    have pl0:0<=(turn + 1).fmod (cells.length:Int):=by rw[Int.fmod_eq_emod_of_nonneg _ (by omega)];exact Int.emod_nonneg _ (by omega)
    have pl1:(turn + 1).fmod (cells.length:Int) < (cells.length:Int):=by rw[Int.fmod_eq_emod_of_nonneg _ (by omega)];exact Int.emod_lt_of_pos _ (by omega)
    have plc:plcOf (cells,turn) < cells.length:=by unfold plcOf;dsimp only;omega
    have ecell:cells[plcOf (cells,turn)]?=some (celOf (cells,turn)):=by
      unfold celOf
      rw[List.getD_eq_getElem?_getD,List.getElem?_eq_getElem plc];rfl
    refine⟨_,z0E (z2F (i:=2) nd rfl (Or.inl rfl) (z9L zay (z4s hu (pv 0) z3e (fun _ _=>rfl)) z43))
      (z0E (zb9 hu (pv 0) z3e (pv 2) rfl)
      (z0E (z2F (i:=3) nd rfl (Or.inl rfl) (z9L z8e (pv 2) (z2G z3f rfl z05 PySem.boot_len (zK (z4s hu (pv 0) z3e (fun _ _=>rfl)) z0o))))
      (z0E (z2F (i:=4) nd rfl (Or.inl rfl) (zcG ix_list (z4s hu (pv 0) z3e (fun _ _=>rfl)) (pv 3) (fun _ _=>rfl)))
      (z0E (zcu (zb5 zeG (pv 4) (z9L zcx z43 z43) (nomark _))
        (z0E (z88 (z2G z5s rfl z57 rfl (zK (pv 4) (zK (pv 1) z0o))) (zav rfl (z4l (zaw (z4s hu (pv 0) z3e (fun _ _=>rfl)) (pv 3) z4o) (z4l (z6a (i:=5) nd rfl (Or.inl rfl)) z87))))
        (z4k (z6W (pv 5)))) z86)
      ((dss_cons (ds_set (i := 6) nd (de_op dmod_int (de_op dmul_int (de_op dadd_int (de_op dadd_int (de_op dmod_int (dv 4).w de_int.w).w (de_op dmul_int (de_op dmul_int (dv 2).w (dv 2).w).w de_int.w).w).w de_int.w).w de_int.w).w de_int.w))
        (dss_cons (ds_set (i:=6) nd (de_op dmod_int (de_op dmul_int (dv 6).w (dv 6).w).w de_int.w))
        (ze (zJ (de_op dmod_int (de_op z0G (de_op dmod_int (de_op dmul_int (de_op dadd_int (dv 6).w (de_op dmul_int (dv 2).w de_int.w).w).w de_int.w).w de_int.w).w de_int.w).w (dv 1).w)))):DSs _ _ z6i) Z A0))))),?_⟩
    refine zbO rfl S1 ?_
    refine zd5 rfl rfl S1 ?_
    have A1:(upd H a (.dK (stDict c (turn + 1)))) a=some (.dK (stDict c (turn + 1))):=zk
    have A2:(upd H a (.dK (stDict c (turn + 1)))) c=some (.lst (cells.map V.int)):=by rw[zg (Ne.symm ac)];exact S2
    have X1:Ext Z H (upd H a (.dK (stDict c (turn + 1)))):=fun b o eb nb=>by rw[zg (nb a c hZ).1];exact eb
    generalize upd H a (.dK (stDict c (turn + 1)))=H1 at *
    have el:((cells.map V.int).length:Int)=cells.length:=by rw[List.length_map]
    refine za8 (xs:=cells.map V.int) rfl rfl A1 A2 (by omega) ?_
    refine zbP (x:=.int (celOf (cells,turn))) rfl rfl A1 A2 ?_ ?_
    rotate_left
    refine zeQ rfl (fun hc=>?_) (fun hc=>?_)
    rotate_left 2
    · rw[el,show(turn + 1).fmod (cells.length:Int)=((plcOf (cells,turn):Nat):Int) from by unfold plcOf;dsimp only;omega]
      exact atI_nat (by rw[List.getElem?_map,ecell];rfl)
    · have et:takeF (cells,turn) many=(.int ((celOf (cells,turn)).fmod many),(cells.set (plcOf (cells,turn)) ((celOf (cells,turn)).fdiv many),turn + 1)):=by unfold takeF;rw[if_pos hc]
      rw[et]at e
      cases e
      refine za9 (j:=plcOf (cells,turn)) rfl rfl rfl rfl (Nat.le_of_ble_eq_true rfl) A1 A2 (by unfold divOk;simp only[Bool.and_eq_true,decide_eq_true_eq];exact⟨by omega,k2⟩) ?_ fun p hp=>q _ _ (fun b o eb nb=>?_) (fun a' c' h'=>?_) (.int _)
      · rw[List.length_map]
        unfold ixN plcOf
        rw[if_pos pl0,if_pos pl1]
      · have eb1:=X1 b o eb nb
        rw[zg (nb a c hZ).2,zg (zj eb1 hp)];exact eb1
      · rw[hZ]at h'
        cases h'
        refine⟨?_,?_⟩
        · rw[zg ac,zg (zj A1 hp)];exact A1
        · rw[zk,List.map_set]
    · have et:takeF (cells,turn) many=(.int (mix (celOf (cells,turn)) (turn + 1) many),(cells,turn + 1)):=by unfold takeF;rw[if_neg hc]
      rw[et]at e
      cases e
      refine⟨[],[.non,.val (.int many),.val (.int (turn + 1)),.non,.val (.int (celOf (cells,turn))),.non,.non],(cells,turn + 1),.ret (.int (mix (celOf (cells,turn)) (turn + 1) many)),(cells,turn + 1),?_,fun a' c' h'=>by rw[hZ]at h';cases h';exact⟨A1,A2⟩,z8J (by omega) (by omega) k1,fun v H' x1 S1 r=>q v H' x1 S1 r⟩
      exact Al.repS (.non (.val (.int _) (.val (.int _) (.non (.val (.int _) (.non (.non .nil))))))) (fun q hq=>⟨let ⟨o,ho⟩:=(hA q hq).1;⟨o,X1 q o ho (hA q hq).2⟩,(hA q hq).2⟩) X1
theorem sc__law_same:FnScope ["_law_found","_law_due_here"] ["_law_found","_law_due_here"] (defScope z2u):=⟨rfl,rfl,rfl,by decide +kernel,rfl,by decide +kernel,by decide +kernel⟩
def z15(g__law_same:GF):GS:=(sSeq (sIf (asB (f2 gIs (fVar 1) (fC .none))) (sRet (f2 gIs (fVar 0) (fC .none))) sNext)
 (sSeq (sIf (tOrF (asT (f1 (gInst "list") (fVar 1))) (asT (f1 (gInst "tuple") (fVar 1)))) (sSeq (sIf (asB (f2 gNe (f1 (gInst "list") (fVar 0)) (f1 (gInst "list") (fVar 1)))) (sRet (fC (.bool false))) sNext)
 (sSeq (sIf (tOrF (asB (f2 gNe (f1 (gInst "tuple") (fVar 0)) (f1 (gInst "tuple") (fVar 1)))) (asB (f2 gNe (f1 gLen (fVar 0)) (f1 gLen (fVar 1))))) (sRet (fC (.bool false))) sNext)
 (sRet (f1 gAll (asL (fComp 2 [] (iZipF (fVar 0) (fVar 1)) (.tup [0,1]) fTrue (fCall g__law_same (aCons (fVar 0) (aCons (fVar 1) aNil))))))))) sNext)
 (sSeq (sIf (asT (f1 (gInst "str") (fVar 1))) (sRet (eAnd (f1 (gInst "str") (fVar 0)) (f2 gEq (fVar 0) (fVar 1)))) sNext)
 (sRet (eAnd (f1 (gInst "int") (fVar 0)) (eAnd (f1 gNot (f1 (gInst "bool") (fVar 0))) (f2 gEq (fVar 0) (fVar 1))))))))
def zw:Nat->GF
 | 0=>fun _ _=>none
 | n + 1=>mkFn 2 0 (z15 (zw n))
theorem z2T(hf:Is K mg "_law_same" z2u)(zau:mg "all"=none)(z7C:mg "bool"=none)(z42:mg "int"=none)(zA:mg "isinstance"=none)(z05:mg "len"=none)(z03:mg "list"=none)(z9H:mg "str"=none)(zI:mg "tuple"=none)(z6U:mg "zip"=none):∀ n,Cal P w K mg base "_law_same" ["_law_found","_law_due_here"] (1 + n) (zw n)
 | 0=>by
  obtain⟨f,fd,F,hm⟩:=hf
  exact⟨f,fd,⟨fun _ _ _ _ h=>(z3s h).elim,fun _ _ _ _ _ _ _ _ _ _ _ _ _ h=>(z3s h).elim⟩,hm,F.kp,F.binds fun _ _ _ _ _ _ us hl=>by obtain⟨a0,a1,rfl⟩:=len2 hl;rfl⟩
 | n + 1=>by
  have ih:=z2T hf zau z7C z42 zA z05 z03 z9H zI z6U n
  obtain⟨f,fd,F,hm⟩:=hf
  have nd:=sc__law_same.nd
  exact⟨f,fd,fnD (k:=1 + n) F sc__law_same rfl (fun _ _ _ _ _ _ hr=>(dss_cons (z2Y (z10 dis (dv 1).w (z8y).w (nomark _)) (ze (zJ (z5p dis (dv 0).w (z8y).w (nomark _)))) z0y)
   (dss_cons (z2Y (zbj (z2h (z1l (T:="list") (by decide) rfl zA z03 (dv 1).w).w (fun _=>rfl)) (z8A (z2h (z1l (T:="tuple") (by decide) rfl zA zI (dv 1).w).w (fun _=>rfl)))).t (dss_cons (z2Y (z10 (dne hr.units) (z1l (T:="list") (by decide) rfl zA z03 (dv 0).w).w (z1l (T:="list") (by decide) rfl zA z03 (dv 1).w).w (nomark _)) (ze (zJ z6g)) z0y)
   (dss_cons (z2Y (zbj (z10 (dne hr.units) (z1l (T:="tuple") (by decide) rfl zA zI (dv 0).w).w (z1l (T:="tuple") (by decide) rfl zA zI (dv 1).w).w (nomark _)) (z8A (z10 (dne hr.units) (z11 z0x rfl z05 (dv 0).w).w (z11 z0x rfl z05 (dv 1).w).w (nomark _)))).t (ze (zJ z6g)) z0y)
   (ze (zJ (z11 (zcP rfl) rfl zau (DF.de (z1P (N:=["_law_one","_law_other"]) (k:=2) (fr:=[]) (compOk0 rfl (by decide +kernel) (by decide +kernel) (by decide +kernel) rfl) (by decide) (zaI z6U (dv 0) (dv 1)) (fun _ _ _ _=>by exact(z1c (zu (i:=0) (show List.Nodup (α:=Str) ["_law_one","_law_other"] by decide +kernel) (zu (i:=1) (show List.Nodup (α:=Str) ["_law_one","_law_other"] by decide +kernel) z0q)))) (fun _ _ _ _=>z0H) (fun _ _ _ _=>by exact(zh ih hr (z3 (dv 0) (z3 (dv 1) z8)) (Nat.le_refl _))))).w))))) z0y)
   (dss_cons (z2Y (z2h (z1l (T:="str") (by decide) rfl zA z9H (dv 1).w).w (fun _=>rfl)) (ze (zJ (z8B (z1l (T:="str") (by decide) rfl zA z9H (dv 0).w) (zaG (z5p (deq hr.units) (dv 0).w (dv 1).w (nomark _)))))) z0y)
   (ze (zJ (z8B (z1l (T:="int") (by decide) rfl zA z42 (dv 0).w) (z8B (zcO (z1l (T:="bool") (by decide) rfl zA z7C (dv 0).w)) (zaG (z5p (deq hr.units) (dv 0).w (dv 1).w (nomark _))))))))))),hm,F.kp,F.binds fun _ _ _ _ _ _ us hl=>by obtain⟨a0,a1,rfl⟩:=len2 hl;rfl⟩
def g__law_same:GF:=zw 6
theorem sc__law_part:FnScope ["_law_top","_law_below","_law_one","_law_other","_law_sign"] ["_law_top","_law_below"] (defScope z2v):=⟨rfl,rfl,rfl,by decide +kernel,rfl,by decide +kernel,by decide +kernel⟩
def z0X:GS:=sWhile (asB (f2 gGt (fVar 3) (fC (.int 0)))) (sPar 2 3 (aCons (fVar 3) (aCons (f2 gModI (fVar 2) (fVar 3)) aNil)))
def z0B:GS:=(sSeq (sPar 2 3 (aCons (f1 gAbs (fVar 0)) (aCons (f1 gAbs (fVar 1)) aNil)))
 (sSeq z0X
 (sSeq (sSet 4 (f2 gSubI (fC (.int 1)) (f2 gMulI (fC (.int 2)) (f1 gInt (f2 gLt (fVar 1) (fC (.int 0)))))))
 (sRet (eTup (aCons (f2 gDivI (f2 gMulI (fVar 4) (fVar 0)) (fVar 2)) (aCons (f2 gDivI (f2 gMulI (fVar 4) (fVar 1)) (fVar 2)) aNil)))))))
def zG:GF:=mkFn 2 3 z0B
theorem z5I(hf:Is K mg "_law_part" z2v)(z66:mg "abs"=none)(z42:mg "int"=none):Cal P w K mg base "_law_part" ["_law_top","_law_below"] 1 zG:=by
 obtain⟨f,fd,F,hm⟩:=hf
 have nd:=sc__law_part.nd
 exact⟨f,fd,fnD F sc__law_part rfl (fun _ _ _ _ _ _ hr=>(dss_cons (z1I (i:=2) (j:=3) nd (by decide) (z3 (z11 z72 rfl z66 (dv 0).w) (z3 (z11 z72 rfl z66 (dv 1).w) z8)) (by rfl))
   (dss_cons (z1z (z10 dgt (dv 3).w (de_int).w (nomark _)) (ze (z1I (i:=2) (j:=3) nd (by decide) (z3 (dv 3) (z3 (de_op dmod_int (dv 2).w (dv 3).w) z8)) (by rfl))))
   (dss_cons (ds_set (i:=4) nd (de_op z0h (de_int).w (de_op dmul_int (de_int).w (z3q zaH rfl z42 (z5p dlt (dv 1).w (de_int).w (nomark _)).w).w).w))
   (ze (zJ (zR (z3 (de_op z0G (de_op dmul_int (dv 4).w (dv 0).w).w (dv 2).w) (z3 (de_op z0G (de_op dmul_int (dv 4).w (dv 1).w).w (dv 2).w) z8))))))))),hm,F.kp,F.binds fun _ _ _ _ _ _ us hl=>by obtain⟨a0,a1,rfl⟩:=len2 hl;rfl⟩
theorem sc__law_plus:FnScope ["_law_one","_law_other"] ["_law_one","_law_other"] (defScope z2w):=⟨rfl,rfl,rfl,by decide +kernel,rfl,by decide +kernel,by decide +kernel⟩
def z3N:GS:=(sRet (fCall zG (aCons (f2 gAdd (f2 gMulI (f2 gIx (fVar 0) (fC (.int 0))) (f2 gIx (fVar 1) (fC (.int 1)))) (f2 gMulI (f2 gIx (fVar 1) (fC (.int 0))) (f2 gIx (fVar 0) (fC (.int 1))))) (aCons (f2 gMulI (f2 gIx (fVar 0) (fC (.int 1))) (f2 gIx (fVar 1) (fC (.int 1)))) aNil))))
def z09:GF:=mkFn 2 0 z3N
theorem z5J(hf:Is K mg "_law_plus" z2w)(zy:Cal P w K mg base "_law_part" ["_law_top","_law_below"] 1 zG):Cal P w K mg base "_law_plus" ["_law_one","_law_other"] 2 z09:=by
 obtain⟨f,fd,F,hm⟩:=hf
 have nd:=sc__law_plus.nd
 exact⟨f,fd,fnD F sc__law_plus rfl (fun _ _ _ _ _ _ hr=>(ze (zJ (zh zy hr (z3 (de_op dadd (de_op dmul_int (zM (dv 0).w (de_int).w (fun _ _=>rfl)).w (zM (dv 1).w (de_int).w (fun _ _=>rfl)).w).w (de_op dmul_int (zM (dv 1).w (de_int).w (fun _ _=>rfl)).w (zM (dv 0).w (de_int).w (fun _ _=>rfl)).w).w) (z3 (de_op dmul_int (zM (dv 0).w (de_int).w (fun _ _=>rfl)).w (zM (dv 1).w (de_int).w (fun _ _=>rfl)).w) z8)))))),hm,F.kp,F.binds fun _ _ _ _ _ _ us hl=>by obtain⟨a0,a1,rfl⟩:=len2 hl;rfl⟩
theorem sc__law_minus:FnScope ["_law_one","_law_other"] ["_law_one","_law_other"] (defScope z1S):=⟨rfl,rfl,rfl,by decide +kernel,rfl,by decide +kernel,by decide +kernel⟩
def z3l:GS:=(sRet (fCall zG (aCons (f2 gSubI (f2 gMulI (f2 gIx (fVar 0) (fC (.int 0))) (f2 gIx (fVar 1) (fC (.int 1)))) (f2 gMulI (f2 gIx (fVar 1) (fC (.int 0))) (f2 gIx (fVar 0) (fC (.int 1))))) (aCons (f2 gMulI (f2 gIx (fVar 0) (fC (.int 1))) (f2 gIx (fVar 1) (fC (.int 1)))) aNil))))
def z0M:GF:=mkFn 2 0 z3l
theorem z4R(hf:Is K mg "_law_minus" z1S)(zy:Cal P w K mg base "_law_part" ["_law_top","_law_below"] 1 zG):Cal P w K mg base "_law_minus" ["_law_one","_law_other"] 2 z0M:=by
 obtain⟨f,fd,F,hm⟩:=hf
 have nd:=sc__law_minus.nd
 exact⟨f,fd,fnD F sc__law_minus rfl (fun _ _ _ _ _ _ hr=>(ze (zJ (zh zy hr (z3 (de_op z0h (de_op dmul_int (zM (dv 0).w (de_int).w (fun _ _=>rfl)).w (zM (dv 1).w (de_int).w (fun _ _=>rfl)).w).w (de_op dmul_int (zM (dv 1).w (de_int).w (fun _ _=>rfl)).w (zM (dv 0).w (de_int).w (fun _ _=>rfl)).w).w) (z3 (de_op dmul_int (zM (dv 0).w (de_int).w (fun _ _=>rfl)).w (zM (dv 1).w (de_int).w (fun _ _=>rfl)).w) z8)))))),hm,F.kp,F.binds fun _ _ _ _ _ _ us hl=>by obtain⟨a0,a1,rfl⟩:=len2 hl;rfl⟩
theorem sc__law_times:FnScope ["_law_one","_law_other"] ["_law_one","_law_other"] (defScope z1T):=⟨rfl,rfl,rfl,by decide +kernel,rfl,by decide +kernel,by decide +kernel⟩
def z3m:GS:=(sRet (fCall zG (aCons (f2 gMulI (f2 gIx (fVar 0) (fC (.int 0))) (f2 gIx (fVar 1) (fC (.int 0)))) (aCons (f2 gMulI (f2 gIx (fVar 0) (fC (.int 1))) (f2 gIx (fVar 1) (fC (.int 1)))) aNil))))
def z0a:GF:=mkFn 2 0 z3m
theorem z4S(hf:Is K mg "_law_times" z1T)(zy:Cal P w K mg base "_law_part" ["_law_top","_law_below"] 1 zG):Cal P w K mg base "_law_times" ["_law_one","_law_other"] 2 z0a:=by
 obtain⟨f,fd,F,hm⟩:=hf
 have nd:=sc__law_times.nd
 exact⟨f,fd,fnD F sc__law_times rfl (fun _ _ _ _ _ _ hr=>(ze (zJ (zh zy hr (z3 (de_op dmul_int (zM (dv 0).w (de_int).w (fun _ _=>rfl)).w (zM (dv 1).w (de_int).w (fun _ _=>rfl)).w) (z3 (de_op dmul_int (zM (dv 0).w (de_int).w (fun _ _=>rfl)).w (zM (dv 1).w (de_int).w (fun _ _=>rfl)).w) z8)))))),hm,F.kp,F.binds fun _ _ _ _ _ _ us hl=>by obtain⟨a0,a1,rfl⟩:=len2 hl;rfl⟩
theorem sc__law_over:FnScope ["_law_one","_law_other"] ["_law_one","_law_other"] (defScope z2x):=⟨rfl,rfl,rfl,by decide +kernel,rfl,by decide +kernel,by decide +kernel⟩
def z3O:GS:=(sRet (fCall zG (aCons (f2 gMulI (f2 gIx (fVar 0) (fC (.int 0))) (f2 gIx (fVar 1) (fC (.int 1)))) (aCons (f2 gMulI (f2 gIx (fVar 0) (fC (.int 1))) (f2 gIx (fVar 1) (fC (.int 0)))) aNil))))
def z16:GF:=mkFn 2 0 z3O
theorem z5K(hf:Is K mg "_law_over" z2x)(zy:Cal P w K mg base "_law_part" ["_law_top","_law_below"] 1 zG):Cal P w K mg base "_law_over" ["_law_one","_law_other"] 2 z16:=by
 obtain⟨f,fd,F,hm⟩:=hf
 have nd:=sc__law_over.nd
 exact⟨f,fd,fnD F sc__law_over rfl (fun _ _ _ _ _ _ hr=>(ze (zJ (zh zy hr (z3 (de_op dmul_int (zM (dv 0).w (de_int).w (fun _ _=>rfl)).w (zM (dv 1).w (de_int).w (fun _ _=>rfl)).w) (z3 (de_op dmul_int (zM (dv 0).w (de_int).w (fun _ _=>rfl)).w (zM (dv 1).w (de_int).w (fun _ _=>rfl)).w) z8)))))),hm,F.kp,F.binds fun _ _ _ _ _ _ us hl=>by obtain⟨a0,a1,rfl⟩:=len2 hl;rfl⟩
theorem sc__law_small:FnScope ["_law_state"] ["_law_state"] (defScope z1U):=⟨rfl,rfl,rfl,by decide +kernel,rfl,by decide +kernel,by decide +kernel⟩
def z3n:GS:=(sRet (fCall zG (aCons (f2 gIx (fC (.list [(.int 1),(.int (-1)),(.int 2),(.int (-2)),(.int 3),(.int (-3)),(.int 1),(.int (-1))])) (fCall zf (aCons (fVar 0) (aCons (fC (.int 8)) aNil)))) (aCons (f2 gAdd (fC (.int 1)) (f2 gDivI (fCall zf (aCons (fVar 0) (aCons (fC (.int 8)) aNil))) (fC (.int 6)))) aNil))))
def z0k:GF:=mkFn 1 0 z3n
theorem z4T(hf:Is K mg "_law_small" z1U)(zH:Cal P w K mg base "_law_take" ["_law_state","_law_many"] 1 zf)(zy:Cal P w K mg base "_law_part" ["_law_top","_law_below"] 1 zG):Cal P w K mg base "_law_small" ["_law_state"] 2 z0k:=by
 obtain⟨f,fd,F,hm⟩:=hf
 have nd:=sc__law_small.nd
 exact⟨f,fd,fnD F sc__law_small rfl (fun _ _ _ _ _ _ hr=>(ze (zJ (zh zy hr (z3 (zM (zcX (.lst (by decide) (.cons .int (.cons (.neg .int) (.cons .int (.cons (.neg .int) (.cons .int (.cons (.neg .int) (.cons .int (.cons (.neg .int) .nil)))))))))).w (zh zH hr (z3 (dv 0) (z3 de_int z8))).w (fun _ _=>rfl)) (z3 (de_op dadd (de_int).w (de_op z0G (zh zH hr (z3 (dv 0) (z3 de_int z8))).w (de_int).w).w) z8)))))),hm,F.kp,F.binds fun _ _ _ _ _ _ us hl=>by obtain⟨a0,rfl⟩:=len1 hl;rfl⟩
theorem sc__law_trimmed:FnScope ["_law_numbers","_law_found"] ["_law_numbers"] (defScope z1n):=⟨rfl,rfl,rfl,by decide +kernel,rfl,by decide +kernel,by decide +kernel⟩
def z1L:GS:=sWhile (tAndF (asB (f2 gNe (fVarW 1) (eLst aNil))) (asB (f2 gEq (f2 gIx (f2 gIx (fVarW 1) (f1 gNeg (fC (.int 1)))) (fC (.int 0))) (fC (.int 0))))) (sPop 1)
def z1p:GS:=(sSeq (sSetO 1 (oList (fVar 0)))
 (sSeq z1L
 (sRet (f1 gTuple (fVarW 1)))))
def zE:GF:=mkFn 1 1 z1p
theorem z3P(hf:Is K mg "_law_trimmed" z1n)(z03:mg "list"=none)(zI:mg "tuple"=none):Cal P w K mg base "_law_trimmed" ["_law_numbers"] 1 zE:=by
 obtain⟨f,fd,F,hm⟩:=hf
 have nd:=sc__law_trimmed.nd
 exact⟨f,fd,fnD F sc__law_trimmed rfl (fun _ _ _ _ _ _ hr=>(dss_cons (z30 (i:=1) nd (z6n rfl z03 (dv 0).w))
   (dss_cons (z1z (zaF (z10 (dne hr.units) (dvw 1) (z1b z8).w (nomark _)) (z8z (z10 (deq hr.units) (zM (zM (dvw 1) (z2N (de_int).w).w (fun _ _=>rfl)).w (de_int).w (fun _ _=>rfl)).w (de_int).w (nomark _)))).t (ze (zcU (i:=1) (pv 1))))
   (ze (zJ (z3q z1y rfl zI (dvw 1))))))),hm,F.kp,F.binds fun _ _ _ _ _ _ us hl=>by obtain⟨a0,rfl⟩:=len1 hl;rfl⟩
theorem sc__law_product:FnScope ["_law_one","_law_other","_law_found","_law_i","_law_left","_law_j","_law_right"] ["_law_one","_law_other"] (defScope z1o):=⟨rfl,rfl,rfl,by decide +kernel,rfl,by decide +kernel,by decide +kernel⟩
def z1M:GS:=(sPut 2 (f2 gAdd (fVar 3) (fVar 5)) (fCall z09 (aCons (f2 gIx (fVarW 2) (f2 gAdd (fVar 3) (fVar 5))) (aCons (fCall z0a (aCons (fVar 4) (aCons (fVar 6) aNil))) aNil))))
def z0S:GS:=sFor (iEnumF (fVar 1)) (.tup [5,6]) z1M
def z1N:GS:=z0S
def z0T:GS:=sFor (iEnumF (fVar 0)) (.tup [3,4]) z1N
def z0J:GS:=(sSeq (sSetO 2 (o2 lRep (eLst (aCons (eTup (aCons (fC (.int 0)) (aCons (fC (.int 1)) aNil))) aNil)) (f2 gMax (fC (.int 0)) (f2 gSubI (f2 gAdd (f1 gLen (fVar 0)) (f1 gLen (fVar 1))) (fC (.int 1))))))
 (sSeq z0T
 (sSeq (sFrz 2) (sRet (fCall zE (aCons (fVar 2) aNil))))))
def zp:GF:=mkFn 2 5 z0J
theorem z3Q(hf:Is K mg "_law_product" z1o)(z0C:Cal P w K mg base "_law_plus" ["_law_one","_law_other"] 2 z09)(z0m:Cal P w K mg base "_law_times" ["_law_one","_law_other"] 2 z0a)(zF:Cal P w K mg base "_law_trimmed" ["_law_numbers"] 1 zE)(z0j:mg "enumerate"=none)(z05:mg "len"=none)(z58:mg "max"=none):Cal P w K mg base "_law_product" ["_law_one","_law_other"] 3 zp:=by
 obtain⟨f,fd,F,hm⟩:=hf
 have nd:=sc__law_product.nd
 exact⟨f,fd,fnD F sc__law_product rfl (fun _ _ _ _ _ _ hr=>(dss_cons (z30 (i:=2) nd (zaK (z1b (z3 (zR (z3 de_int (z3 de_int z8))) z8)).w (zbk (z8C rfl) rfl z58 (de_int).w (de_op z0h (de_op dadd (z11 z0x rfl z05 (dv 0).w).w (z11 z0x rfl z05 (dv 1).w).w).w (de_int).w).w).w))
   (dss_cons (z2g (z6q z0j (dv 0)) (z1c (zu (i:=3) nd (zu (i:=4) nd z0q))) (ze (z2g (z6q z0j (dv 1)) (z1c (zu (i:=5) nd (zu (i:=6) nd z0q))) (ze (z8P (i:=2) (pv 2) (de_op dadd (dv 3).w (dv 5).w).w (zh z0C hr (z3 (zM (dvw 2) (de_op dadd (dv 3).w (dv 5).w).w (fun _ _=>rfl)) (z3 (zh z0m hr (z3 (dv 4) (z3 (dv 6) z8))) z8))))))))
   (ze (z4d 2 (zJ (zh zF hr (z3 (dv 2) z8)))))))),hm,F.kp,F.binds fun _ _ _ _ _ _ us hl=>by obtain⟨a0,a1,rfl⟩:=len2 hl;rfl⟩
theorem sc__law_parted:FnScope ["_law_one","_law_other","_law_rest","_law_often","_law_place","_law_share","_law_k","_law_part_here"] ["_law_one","_law_other"] (defScope z1C):=⟨rfl,rfl,rfl,by decide +kernel,rfl,by decide +kernel,by decide +kernel⟩
def z20:GS:=(sPut 2 (f2 gAdd (fVar 4) (fVar 6)) (fCall z0M (aCons (f2 gIx (fVarW 2) (f2 gAdd (fVar 4) (fVar 6))) (aCons (fCall z0a (aCons (fVar 5) (aCons (fVar 7) aNil))) aNil))))
def z17:GS:=sFor (iEnumF (fVar 1)) (.tup [6,7]) z20
def z18:GS:=(sSeq (sSet 5 (fCall z16 (aCons (f2 gIx (fVarW 2) (f2 gSubI (f2 gAdd (fVar 4) (f1 gLen (fVar 1))) (fC (.int 1)))) (aCons (f2 gIx (fVar 1) (f1 gNeg (fC (.int 1)))) aNil))))
 (sSeq (sPut 3 (fVar 4) (fVar 5))
 z17))
def z19:GS:=sFor (iRangeD (f2 gSubI (f1 gLen (fVar 0)) (f1 gLen (fVar 1))) (f1 gNeg (fC (.int 1))) (f1 gNeg (fC (.int 1)))) (.one 4) z18
def z0Y:GS:=(sSeq (sSetO 2 (oList (fVar 0)))
 (sSeq (sSetO 3 (o2 lRep (eLst (aCons (eTup (aCons (fC (.int 0)) (aCons (fC (.int 1)) aNil))) aNil)) (f2 gMax (fC (.int 0)) (f2 gAdd (f2 gSubI (f1 gLen (fVar 0)) (f1 gLen (fVar 1))) (fC (.int 1))))))
 (sSeq z19
 (sSeq (sFrz 2) (sSeq (sFrz 3) (sRet (eTup (aCons (fCall zE (aCons (fVar 3) aNil)) (aCons (fCall zE (aCons (fSl (fVar 2) pNo (pInt (f2 gSubI (f1 gLen (fVar 1)) (fC (.int 1))))) aNil)) aNil)))))))))
def z01:GF:=mkFn 2 6 z0Y
theorem z3Y(hf:Is K mg "_law_parted" z1C)(z24:Cal P w K mg base "_law_minus" ["_law_one","_law_other"] 2 z0M)(z0m:Cal P w K mg base "_law_times" ["_law_one","_law_other"] 2 z0a)(z2C:Cal P w K mg base "_law_over" ["_law_one","_law_other"] 2 z16)(zF:Cal P w K mg base "_law_trimmed" ["_law_numbers"] 1 zE)(z0j:mg "enumerate"=none)(z05:mg "len"=none)(z03:mg "list"=none)(z58:mg "max"=none)(z0f:mg "range"=none):Cal P w K mg base "_law_parted" ["_law_one","_law_other"] 3 z01:=by
 obtain⟨f,fd,F,hm⟩:=hf
 have nd:=sc__law_parted.nd
 exact⟨f,fd,fnD F sc__law_parted rfl (fun _ _ _ _ _ _ hr=>(dss_cons (z30 (i:=2) nd (z6n rfl z03 (dv 0).w))
   (dss_cons (z30 (i:=3) nd (zaK (z1b (z3 (zR (z3 de_int (z3 de_int z8))) z8)).w (zbk (z8C rfl) rfl z58 (de_int).w (de_op dadd (de_op z0h (z11 z0x rfl z05 (dv 0).w).w (z11 z0x rfl z05 (dv 1).w).w).w (de_int).w).w).w))
   (dss_cons (z2g (z8Y z0f (de_op z0h (z11 z0x rfl z05 (dv 0).w).w (z11 z0x rfl z05 (dv 1).w).w) (z2N (de_int).w) (z2N (de_int).w)) (z0p (i:=4) nd) (dss_cons (ds_set (i:=5) nd (zh z2C hr (z3 (zM (dvw 2) (de_op z0h (de_op dadd (dv 4).w (z11 z0x rfl z05 (dv 1).w).w).w (de_int).w).w (fun _ _=>rfl)) (z3 (zM (dv 1).w (z2N (de_int).w).w (fun _ _=>rfl)) z8))))
   (dss_cons (z8P (i:=3) (pv 3) (dv 4).w (dv 5))
   (ze (z2g (z6q z0j (dv 1)) (z1c (zu (i:=6) nd (zu (i:=7) nd z0q))) (ze (z8P (i:=2) (pv 2) (de_op dadd (dv 4).w (dv 6).w).w (zh z24 hr (z3 (zM (dvw 2) (de_op dadd (dv 4).w (dv 6).w).w (fun _ _=>rfl)) (z3 (zh z0m hr (z3 (dv 5) (z3 (dv 7) z8))) z8))))))))))
   (ze (z4d 2 (z4d 3 (zJ (zR (z3 (zh zF hr (z3 (dv 3) z8)) (z3 (zh zF hr (z3 (z3u (dv 2) z9Y (z7a (de_op z0h (z11 z0x rfl z05 (dv 1).w).w (de_int).w).w)) z8)) z8))))))))))),hm,F.kp,F.binds fun _ _ _ _ _ _ us hl=>by obtain⟨a0,a1,rfl⟩:=len2 hl;rfl⟩
theorem sc__law_added:FnScope ["_law_one","_law_other","_law_many","_law_ends"] ["_law_one","_law_other"] (defScope z1f):=⟨rfl,rfl,rfl,by decide +kernel,rfl,by decide +kernel,by decide +kernel⟩
def z0K:FO:=fComp 1 [2] (iSeq (eTup (aCons (fVar 0) (aCons (fVar 1) aNil)))) (.one 0) fTrue (f2 gAdd (f1 gList (fVar 0)) (f2 gMulA (eLst (aCons (eTup (aCons (fC (.int 0)) (aCons (fC (.int 1)) aNil))) aNil)) (f2 gSubI (fVar 1) (f1 gLen (fVar 0)))))
def z2l:FO:=fComp 2 [] (iZipF (f2 gIx (fVar 3) (fC (.int 0))) (f2 gIx (fVar 3) (fC (.int 1)))) (.tup [0,1]) fTrue (fCall z09 (aCons (fVar 0) (aCons (fVar 1) aNil)))
def z1i:GS:=(sSeq (sSet 2 (f2 gMax (f1 gLen (fVar 0)) (f1 gLen (fVar 1))))
 (sSeq (sSetL 3 z0K)
 (sRet (fCall zE (aCons (asL z2l) aNil)))))
def z0b:GF:=mkFn 2 2 z1i
theorem z4U(hf:Is K mg "_law_added" z1f)(z0C:Cal P w K mg base "_law_plus" ["_law_one","_law_other"] 2 z09)(zF:Cal P w K mg base "_law_trimmed" ["_law_numbers"] 1 zE)(z05:mg "len"=none)(z03:mg "list"=none)(z58:mg "max"=none)(z6U:mg "zip"=none):Cal P w K mg base "_law_added" ["_law_one","_law_other"] 3 z0b:=by
 obtain⟨f,fd,F,hm⟩:=hf
 have nd:=sc__law_added.nd
 exact⟨f,fd,fnD F sc__law_added rfl (fun _ _ _ _ _ _ hr=>(dss_cons (ds_set (i:=2) nd (zbk (z8C rfl) rfl z58 (z11 z0x rfl z05 (dv 0).w).w (z11 z0x rfl z05 (dv 1).w).w))
   (dss_cons (zbo (i:=3) nd (N:=["_law_some","_law_many"]) (k:=1) (fr:=[2]) (compOkC (sc:=defScope z1f) (N0:=["_law_one","_law_other","_law_many","_law_ends"]) (by rfl) (by rfl) (by decide +kernel) (fun _ h=>z0F h)) (by decide) (z2O (zR (z3 (dv 0) (z3 (dv 1) z8)))) (fun _ _ _ _=>by exact(z0p (i:=0) (show List.Nodup (α:=Str) ["_law_some","_law_many"] by decide +kernel))) (fun _ _ _ _=>z0H) (fun _ _ _ _=>by exact(de_op dadd (z3q z6h rfl z03 (dv 0).w).w (de_op dmula (z1b (z3 (zR (z3 de_int (z3 de_int z8))) z8)).w (de_op z0h (dv 1).w (z11 z0x rfl z05 (dv 0).w).w).w).w)) (by rfl))
   (ze (zJ (zh zF hr (z3 (DF.de (z1P (N:=["_law_left","_law_right"]) (k:=2) (fr:=[]) (compOk0 rfl (by decide +kernel) (by decide +kernel) (by decide +kernel) rfl) (by decide) (zaI z6U (zM (dv 3).w (de_int).w (fun _ _=>rfl)) (zM (dv 3).w (de_int).w (fun _ _=>rfl))) (fun _ _ _ _=>by exact(z1c (zu (i:=0) (show List.Nodup (α:=Str) ["_law_left","_law_right"] by decide +kernel) (zu (i:=1) (show List.Nodup (α:=Str) ["_law_left","_law_right"] by decide +kernel) z0q)))) (fun _ _ _ _=>z0H) (fun _ _ _ _=>by exact(zh z0C hr (z3 (dv 0) (z3 (dv 1) z8)))))) z8))))))),hm,F.kp,F.binds fun _ _ _ _ _ _ us hl=>by obtain⟨a0,a1,rfl⟩:=len2 hl;rfl⟩
theorem sc__law_drawn:FnScope ["_law_state","_law_most"] ["_law_state","_law_most"] (defScope z1g):=⟨rfl,rfl,rfl,by decide +kernel,rfl,by decide +kernel,by decide +kernel⟩
def z2m:FO:=fComp 1 [0] (iRange1 (fCall zf (aCons (fVar 0) (aCons (f2 gAdd (fVar 1) (fC (.int 1))) aNil)))) (.one 0) fTrue (eTup (aCons (f2 gSubI (fCall zf (aCons (fVar 1) (aCons (fC (.int 7)) aNil))) (fC (.int 3))) (aCons (fC (.int 1)) aNil)))
def z3o:GS:=(sRet (f1 gTuple (f2 gAdd (asL z2m) (eLst (aCons (fCall z0k (aCons (fVar 0) aNil)) aNil)))))
def zX:GF:=mkFn 2 0 z3o
theorem z4V(hf:Is K mg "_law_drawn" z1g)(zH:Cal P w K mg base "_law_take" ["_law_state","_law_many"] 1 zf)(z25:Cal P w K mg base "_law_small" ["_law_state"] 2 z0k)(z0f:mg "range"=none)(zI:mg "tuple"=none):Cal P w K mg base "_law_drawn" ["_law_state","_law_most"] 3 zX:=by
 obtain⟨f,fd,F,hm⟩:=hf
 have nd:=sc__law_drawn.nd
 exact⟨f,fd,fnD F sc__law_drawn rfl (fun _ _ _ _ _ _ hr=>(ze (zJ (z3q z1y rfl zI (de_op dadd (DF.de (z1P (N:=["_law_k","_law_state"]) (k:=1) (fr:=[0]) (compOkC (sc:=defScope z1g) (N0:=["_law_state","_law_most"]) (by rfl) (by rfl) (by decide +kernel) (fun _ h=>z0F h)) (by decide) (z2P z0f (zh zH hr (z3 (dv 0) (z3 (de_op dadd (dv 1).w (de_int).w) z8)))) (fun _ _ _ _=>by exact(z0p (i:=0) (show List.Nodup (α:=Str) ["_law_k","_law_state"] by decide +kernel))) (fun _ _ _ _=>z0H) (fun _ _ _ _=>by exact(zR (z3 (de_op z0h (zh zH hr (z3 (dv 1) (z3 de_int z8))).w (de_int).w) (z3 de_int z8)))))).w (z1b (z3 (zh z25 hr (z3 (dv 0) z8)) z8)).w).w)))),hm,F.kp,F.binds fun _ _ _ _ _ _ us hl=>by obtain⟨a0,a1,rfl⟩:=len2 hl;rfl⟩
theorem sc__law_due:FnScope ["_law_one","_law_other","_law_found","_law_often","_law_rest"] ["_law_one","_law_other"] (defScope z32):=⟨rfl,rfl,rfl,by decide +kernel,rfl,by decide +kernel,by decide +kernel⟩
def z5L:GS:=sWhile (asB (f2 gNe (fVar 1) (eTup aNil))) (sSeq (sUnp (.tup [3,4]) (fCall z01 (aCons (fVar 0) (aCons (fVar 1) aNil))))
 (sSeq (sApp 2 (fVar 3))
 (sPar 0 1 (aCons (fVar 1) (aCons (fVar 4) aNil)))))
def z36:GS:=(sSeq (sSetO 2 (oLst aNil))
 (sSeq z5L
 (sSeq (sFrz 2) (sRet (eTup (aCons (fVar 2) (aCons (fVar 0) aNil)))))))
def z1v:GF:=mkFn 2 3 z36
theorem z6A(hf:Is K mg "_law_due" z32)(z1F:Cal P w K mg base "_law_parted" ["_law_one","_law_other"] 3 z01):Cal P w K mg base "_law_due" ["_law_one","_law_other"] 4 z1v:=by
 obtain⟨f,fd,F,hm⟩:=hf
 have nd:=sc__law_due.nd
 exact⟨f,fd,fnD F sc__law_due rfl (fun _ _ _ _ _ _ hr=>(dss_cons (z30 (i:=2) nd (z8N z8))
   (dss_cons (z1z (z10 (dne hr.units) (dv 1).w (zR z8).w (nomark _)) (dss_cons (z3C (zh z1F hr (z3 (dv 0) (z3 (dv 1) z8))) (z1c (zu (i:=3) nd (zu (i:=4) nd z0q))))
   (dss_cons (zaL (i:=2) (pv 2) (dv 3))
   (ze (z1I (i:=0) (j:=1) nd (by decide) (z3 (dv 1) (z3 (dv 4) z8)) (by rfl))))))
   (ze (z4d 2 (zJ (zR (z3 (dv 2) (z3 (dv 0) z8))))))))),hm,F.kp,F.binds fun _ _ _ _ _ _ us hl=>by obtain⟨a0,a1,rfl⟩:=len2 hl;rfl⟩
theorem sc__law_two:FnScope ["_law_state","_law_most","_law_one","_law_other","_law_factor"] ["_law_state"] (defScope z33):=⟨rfl,rfl,rfl,by decide +kernel,rfl,by decide +kernel,by decide +kernel⟩
def z37:GS:=(sSeq (sSet 1 (f2 gIx (eLst (aCons (fC (.int 6)) (aCons (fC (.int 11)) aNil))) (f1 gInt (f2 gEq (fCall zf (aCons (fVar 0) (aCons (fC (.int 8)) aNil))) (fC (.int 0))))))
 (sSeq (sPar 2 3 (aCons (fCall zX (aCons (fVar 0) (aCons (fVar 1) aNil))) (aCons (fCall zX (aCons (fVar 0) (aCons (fVar 1) aNil))) aNil)))
 (sSeq (sIf (asB (f2 gEq (fCall zf (aCons (fVar 0) (aCons (fC (.int 3)) aNil))) (fC (.int 0)))) (sSeq (sSet 4 (fCall zX (aCons (fVar 0) (aCons (fC (.int 2)) aNil))))
 (sPar 2 3 (aCons (fCall zp (aCons (f2 gAddA (fSl (fVar 2) pNo (pInt (fC (.int 5)))) (eTup (aCons (eTup (aCons (fC (.int 1)) (aCons (fC (.int 1)) aNil))) aNil))) (aCons (fVar 4) aNil))) (aCons (fCall zp (aCons (f2 gAddA (fSl (fVar 3) pNo (pInt (fC (.int 5)))) (eTup (aCons (eTup (aCons (fC (.int 1)) (aCons (fC (.int 1)) aNil))) aNil))) (aCons (fVar 4) aNil))) aNil)))) sNext)
 (sRet (f2 gIx (eLst (aCons (eTup (aCons (fVar 2) (aCons (fVar 3) aNil))) (aCons (eTup (aCons (fVar 2) (aCons (fVar 3) aNil))) (aCons (eTup (aCons (fVar 2) (aCons (fVar 3) aNil))) (aCons (eTup (aCons (eTup aNil) (aCons (fVar 3) aNil))) (aCons (eTup (aCons (fVar 3) (aCons (fVar 3) aNil))) aNil)))))) (fCall zf (aCons (fVar 0) (aCons (fC (.int 5)) aNil))))))))
def z1w:GF:=mkFn 1 4 z37
theorem z6B(hf:Is K mg "_law_two" z33)(zH:Cal P w K mg base "_law_take" ["_law_state","_law_many"] 1 zf)(zW:Cal P w K mg base "_law_product" ["_law_one","_law_other"] 3 zp)(z0N:Cal P w K mg base "_law_drawn" ["_law_state","_law_most"] 3 zX)(z42:mg "int"=none):Cal P w K mg base "_law_two" ["_law_state"] 4 z1w:=by
 obtain⟨f,fd,F,hm⟩:=hf
 have nd:=sc__law_two.nd
 exact⟨f,fd,fnD F sc__law_two rfl (fun _ _ _ _ _ _ hr=>(dss_cons (ds_set (i:=1) nd (zM (z1b (z3 de_int (z3 de_int z8))).w (z3q zaH rfl z42 (z5p (deq hr.units) (zh zH hr (z3 (dv 0) (z3 de_int z8))).w (de_int).w (nomark _)).w).w (fun _ _=>rfl)))
   (dss_cons (z1I (i:=2) (j:=3) nd (by decide) (z3 (zh z0N hr (z3 (dv 0) (z3 (dv 1) z8))) (z3 (zh z0N hr (z3 (dv 0) (z3 (dv 1) z8))) z8)) (by rfl))
   (dss_cons (z2Y (z10 (deq hr.units) (zh zH hr (z3 (dv 0) (z3 de_int z8))).w (de_int).w (nomark _)) (dss_cons (ds_set (i:=4) nd (zh z0N hr (z3 (dv 0) (z3 de_int z8))))
   (ze (z1I (i:=2) (j:=3) nd (by decide) (z3 (zh zW hr (z3 (de_op dadda (z3u (dv 2) z9Y (z7a (de_int).w)).w (zR (z3 (zR (z3 de_int (z3 de_int z8))) z8)).w) (z3 (dv 4) z8))) (z3 (zh zW hr (z3 (de_op dadda (z3u (dv 3) z9Y (z7a (de_int).w)).w (zR (z3 (zR (z3 de_int (z3 de_int z8))) z8)).w) (z3 (dv 4) z8))) z8)) (by rfl)))) z0y)
   (ze (zJ (zM (z1b (z3 (zR (z3 (dv 2) (z3 (dv 3) z8))) (z3 (zR (z3 (dv 2) (z3 (dv 3) z8))) (z3 (zR (z3 (dv 2) (z3 (dv 3) z8))) (z3 (zR (z3 (zR z8) (z3 (dv 3) z8))) (z3 (zR (z3 (dv 3) (z3 (dv 3) z8))) z8)))))).w (zh zH hr (z3 (dv 0) (z3 de_int z8))).w (fun _ _=>rfl)))))))),hm,F.kp,F.binds fun _ _ _ _ _ _ us hl=>by obtain⟨a0,rfl⟩:=len1 hl;rfl⟩
theorem sc_law:FnScope ["_law_script","_law_state","_law_turn","_law_one","_law_other","_law_due_here","_law_last","_law_found","_law_ahead","_law_here","_law_often"] ["_law_script"] (defScope z6x):=⟨rfl,rfl,rfl,by decide +kernel,rfl,by decide +kernel,by decide +kernel⟩
def z95:GS:=sForR 7 8 9 (.one 10) (aCons (fCall z0b (aCons (fCall zp (aCons (fVar 10) (aCons (fVar 8) aNil))) (aCons (fVar 9) aNil))) (aCons (fVar 8) aNil))
def z4W:GS:=(sSeq (sUnp (.tup [3,4]) (fCall z1w (aCons (fVar 1) aNil)))
 (sSeq (sUnp (.tup [5,6]) (fCall z1v (aCons (fVar 3) (aCons (fVar 4) aNil))))
 (sSeq (sSetC 7 (fCallC z0A (aCons (fVar 3) (aCons (fVar 4) aNil))))
 (sSeq (sIf (tOrF (tNotF (asT (fCallB g__law_same (aCons (fVarW 7) (aCons (fVar 5) aNil))))) (tNotF (asT (fCall g__law_same (aCons (fCall z2a (aCons (f1 gList (fVar 3)) (aCons (f1 gList (fVar 4)) aNil))) (aCons (fVar 5) aNil)))))) (sRet (fC (.bool false))) sNext)
 (sSeq (sPar 8 9 (aCons (fVar 6) (aCons (eTup aNil) aNil)))
 (sSeq z95
 (sSeq (sIf (tNotF (asT (fCall g__law_same (aCons (eLst (aCons (fVar 8) (aCons (fVar 9) aNil))) (aCons (eLst (aCons (fVar 3) (aCons (fVar 4) aNil))) aNil))))) (sRet (fC (.bool false))) sNext)
 (sSeq (sClr 7)
 (sIf (tNotF (asT (fCall g__law_same (aCons (fCall z2a (aCons (fVar 3) (aCons (fVar 4) aNil))) (aCons (fVar 5) aNil))))) (sRet (fC (.bool false))) sNext)))))))))
def z96:GS:=sFor (iRange1 (fC (.int 2))) (.one 2) z4W
def zaa:Sl:=[.non,.val (.dict []),.non,.non,.non,.non,.non,.non,.non,.non,.non]
def zab:GS:=(sSeq z96
 (sRet (fC (.bool true))))
theorem draw{n:Nat}{s:Sx}(h:Good (n + 1) s)(many:Int)(h1:0 < many)(h2:many < 2 ^ 100):∃ r s',zf [.dict [],.int many] s=some (.int r,s')/\0<=r/\r < many/\Good n s':=z8I h h1 h2
theorem z97{k:Nat}{a b:Int}(s:Sx)(hb:Bt k a\/Bt k b)(hk:k<=2000):zn [.int a,.int b] s=some (.int (Int.gcd a b),s):=by
 have e1:sPar 0 1 (aCons (f1 gAbs (fVar 0)) (aCons (f1 gAbs (fVar 1)) aNil)) [.val (.int a),.val (.int b)] s=some (.next [.val (.int (a.natAbs:Int)),.val (.int (b.natAbs:Int))],s):=by
  simp[sPar,aCons,aNil,f1,fVar,gAbs,z8L]
 obtain⟨x,y,e2,hy,hg⟩:∃ x y:Nat,sIf (asB (f2 gLt (fVar 0) (fVar 1))) (sPar 0 1 (aCons (fVar 1) (aCons (fVar 0) aNil))) sNext [.val (.int (a.natAbs:Int)),.val (.int (b.natAbs:Int))] s=some (.next [.val (.int (x:Int)),.val (.int (y:Int))],s)/\y < 2 ^ k/\Nat.gcd x y=Int.gcd a b:=by
  by_cases h:(a.natAbs:Int) < (b.natAbs:Int)
  ·refine⟨b.natAbs,a.natAbs,by simp[sIf,asB,f2,fVar,gLt,gI,h,sPar,aCons,aNil],?_,by unfold Int.gcd;exact Nat.gcd_comm _ _⟩
   rcases hb with hb | hb
   ·exact hb
   ·exact Nat.lt_trans (by omega) hb
  ·refine⟨a.natAbs,b.natAbs,by simp[sIf,asB,f2,fVar,gLt,gI,h,sNext],?_,rfl⟩
   rcases hb with hb | hb
   ·exact Nat.lt_of_le_of_lt (by omega) hb
   ·exact hb
 have e3:z0U [.val (.int (x:Int)),.val (.int (y:Int))] s=some (.next [.val (.int (x:Int)),.val (.int (y:Int))],s):=by
  refine z6m ?_
  have h8:bitsOf (y:Int)<=((k:Nat):Int):=zbt (show(y:Int).natAbs < 2 ^ k by omega)
  have h9:¬ 2000 < bitsOf (y:Int):=by omega
  simp[asB,f2,f1,fVar,fC,gBits,gGt,gI,h9]
 have e4:z0V [.val (.int (x:Int)),.val (.int (y:Int))] s=some (.next [.val (.int ((Nat.gcd x y:Nat):Int)),.val (.int ((0:Nat):Int))],s) :=
  euclidF (fun x y=>[.val (.int (x:Int)),.val (.int (y:Int))]) (fun x=>by simp[asT,fVar,tru]) (fun x y hy=>by
   have h0:¬ y=0:=by omega
   simp[asT,fVar,tru,h0]) (fun x y hy=>by
   have h0:¬ y=0:=by omega
   simp[sPar,aCons,aNil,f2,fVar,gModI,gI,h0,z4z]) hy (by omega)
 show(match z0t [.val (.int a),.val (.int b)] s with | some (.ret d,s')=>some (d,s') | some (.next _,s')=>some (.none,s') | _=>none)=_
 unfold z0t
 rw[z07 e1,z07 e2,z07 e3,z07 e4,hg]
 rfl
theorem zac{k:Nat}{t b:Int}(s:Sx)(ht:Bt k t)(hb:Bt k b)(hk:k<=9000)(h0:b≠0):zG [.int t,.int b] s=some (num t b,s):=by
 have hg:=Bt.gcd (a:=t) hb h0
 have gp:=z2Z (t:=t) h0
 have loop:z0X [.val (.int t),.val (.int b),.val (.int (t.natAbs:Int)),.val (.int (b.natAbs:Int)),.non] s=some (.next [.val (.int t),.val (.int b),.val (.int ((Nat.gcd t.natAbs b.natAbs:Nat):Int)),.val (.int ((0:Nat):Int)),.non],s) :=
  euclidF (fun x y=>[.val (.int t),.val (.int b),.val (.int (x:Int)),.val (.int (y:Int)),.non]) (fun x=>by simp[asB,f2,fC,fVar,gGt,gI]) (fun x y hy=>by
   simp[asB,f2,fC,fVar,gGt,gI,hy]) (fun x y hy=>by
   have h0:¬ y=0:=by omega
   simp[sPar,aCons,aNil,f2,fVar,gModI,gI,h0,z4z]) hb (by omega)
 have e1:sPar 2 3 (aCons (f1 gAbs (fVar 0)) (aCons (f1 gAbs (fVar 1)) aNil)) [.val (.int t),.val (.int b),.non,.non,.non] s=some (.next [.val (.int t),.val (.int b),.val (.int (t.natAbs:Int)),.val (.int (b.natAbs:Int)),.non],s):=by
  simp[sPar,aCons,aNil,f1,fVar,gAbs,z8L]
 have d1:∀ x,divOk x (Int.gcd t b:Int)=true:=fun x=>Bt.div hg (by omega) hk
 have m0:∀ x:Int,Bt k x->mulOk (sgn b) x=true:=fun x hx=>(show Bt 1 (sgn b) by unfold Bt;rw[z4x];decide).ok hx (by omega)
 have m1:mulOk 2 (if b < 0 then 1 else 0)=true:=by split <;> decide
 have e3:(1 - 2 * (if b < 0 then 1 else 0):Int)=sgn b:=by unfold sgn;split <;> rfl
 have e2:sSeq (sSet 4 (f2 gSubI (fC (.int 1)) (f2 gMulI (fC (.int 2)) (f1 gInt (f2 gLt (fVar 1) (fC (.int 0))))))) (sRet (eTup (aCons (f2 gDivI (f2 gMulI (fVar 4) (fVar 0)) (fVar 2)) (aCons (f2 gDivI (f2 gMulI (fVar 4) (fVar 1)) (fVar 2)) aNil)))) [.val (.int t),.val (.int b),.val (.int (Int.gcd t b:Int)),.val (.int ((0:Nat):Int)),.non] s=some (.ret (num t b),s):=by
  simp only[sSeq,sSet,f2,f1,fC,fVar,gLt,gI,gInt,gMulI,gSubI,Option.bind_some,Option.map_some,List.getElem?_cons_zero,List.getElem?_cons_succ,List.set_cons_zero,List.set_cons_succ,decide_eq_true_eq,m1,e3,if_true]
  simp[sRet,eTup,aCons,aNil,f2,fVar,gDivI,gMulI,gI,m0 t ht,m0 b hb,d1,small2,num,numT,numB]
 show(match z0B [.val (.int t),.val (.int b),.non,.non,.non] s with | some (.ret d,s')=>some (d,s') | some (.next _,s')=>some (.none,s') | _=>none)=_
 unfold z0B
 rw[sSeq.eq_1,e1]
 show(match sSeq z0X _ _ s with | some (.ret d,s')=>some (d,s') | some (.next _,s')=>some (.none,s') | _=>none)=_
 rw[sSeq.eq_1,loop]
 show(match sSeq _ _ _ s with | some (.ret d,s')=>some (d,s') | some (.next _,s')=>some (.none,s') | _=>none)=_
 rw[show((Nat.gcd t.natAbs b.natAbs:Nat):Int)=(Int.gcd t b:Int) from rfl,e2]
theorem zad(n:Nat)(a:Int)(s:Sx):zw (n + 1) [.int a,.int a] s=some (.bool true,s):=by
 simp[zw,mkFn,z15,sSeq,sIf,asB,asT,tOrF,f1,f2,fVar,fC,gIs,sNext,gInst,tyN,tru,sRet,eAnd,gNot,z3F]
theorem z98(n:Nat)(a b:Int)(s:Sx):zw (n + 2) [.tuple [.int a,.int b],.tuple [.int a,.int b]] s=some (.bool true,s):=by
 have sm:small [PyData.tuple [PyData.int a,PyData.int a],PyData.tuple [PyData.int b,PyData.int b]]=true:=small2 _ _
 rw[zw]
 simp[mkFn,z15,sSeq,sIf,asB,asT,tOrF,f1,f2,fVar,fC,gIs,sNext,gInst,tyN,tru,sRet,z4C,z6l,gLen,asL,fComp,iZipF,seqOf,sm,compD,Tgt.run,setD,compDl,fTrue,fCall,aCons,aNil,zad,gAll,bools]
theorem z99:∀ t∈([1,-1,2,-2,3,-3]:List Int),∀ b∈([1,2]:List Int),Rat.divInt t b≠0/\Rat.divInt t b * ((2:Nat):Rat)=((t * 2 / b:Int):Rat)/\(t * 2 / b).natAbs<=6/\(Rat.divInt t b)⁻¹ * ((6:Nat):Rat)=((6 * b / t:Int):Rat)/\(6 * b / t).natAbs<=12/\b≠0/\t.natAbs < 2 ^ 40/\b.natAbs < 2 ^ 40:=by decide +kernel
def Lead(r:Rat):Prop:=r≠0/\Fit 2 6 r/\Fit 6 12 r⁻¹
theorem z7W{n:Nat}{s:Sx}(h:Good (n + 2) s):∃ r s',z0k [.dict []] s=some (enc r,s')/\Lead r/\Good n s':=by
 obtain⟨a,s1,e1,a0,a1,g1⟩:=draw (n:=n + 1) h 8 (by decide) (by decide)
 obtain⟨c,s2,e2,c0,c1,g2⟩:=draw (n:=n) g1 8 (by decide) (by decide)
 obtain⟨t,ht,et⟩:∃ t:Int,t∈([1,-1,2,-2,3,-3]:List Int)/\gIx (.list [(.int 1),(.int (-1)),(.int 2),(.int (-2)),(.int 3),(.int (-3)),(.int 1),(.int (-1))]) (.int a)=some (.int t):=by
  have cs:a=0\/a=1\/a=2\/a=3\/a=4\/a=5\/a=6\/a=7:=by omega
  rcases cs with rfl | rfl | rfl | rfl | rfl | rfl | rfl | rfl
  ·exact⟨1,by decide,rfl⟩
  ·exact⟨-1,by decide,rfl⟩
  ·exact⟨2,by decide,rfl⟩
  ·exact⟨-2,by decide,rfl⟩
  ·exact⟨3,by decide,rfl⟩
  ·exact⟨-3,by decide,rfl⟩
  ·exact⟨1,by decide,rfl⟩
  ·exact⟨-1,by decide,rfl⟩
 have dk:divOk c 6=true:=Bt.div (n:=7) (.lit (by decide)) (by decide) (by decide)
 obtain⟨b,hb,eb⟩:∃ b:Int,b∈([1,2]:List Int)/\1 + c.fdiv 6=b:=by
  rw[Int.fdiv_eq_ediv_of_nonneg _ (by decide)]
  by_cases h6:c < 6
  ·exact⟨1,by decide,by omega⟩
  ·exact⟨2,by decide,by omega⟩
 obtain⟨q1,q2,q3,q4,q5,q6,q7,q8⟩:=z99 t ht b hb
 have e3:=zac (k:=40) (t:=t) (b:=b) s2 q7 q8 (by decide) q6
 refine⟨Rat.divInt t b,s2,?_,⟨q1,⟨_,q2,q3⟩,⟨_,q4,q5⟩⟩,g2⟩
 rw[<- z2r q6]
 simp[z0k,mkFn,z3n,sRet,fCall,aCons,aNil,fVar,fC,f2,e1,e2,et,gDivI,gI,dk,gAdd,gAddI,eb,e3]
theorem zd6{z:Int}(h0:0<=z)(h1:z<=1000):rOk z=true:=by
 unfold rOk
 simp only[Bool.and_eq_true,decide_eq_true_eq]
 exact⟨by omega,by omega⟩
theorem zbQ{z:Int}{d:D}(h0:0<=z)(h1:z<=1000):lRep (.list [d]) (.int z)=some (List.replicate z.toNat d):=by
 have e:[d].length * z.toNat<=sizeLine:=by
  have:[d].length * z.toNat<=1000:=by simp;omega
  exact Nat.le_trans this (by decide)
 have c:(decide (-(2 ^ 63)<=z) && decide (z < 2 ^ 63) && decide ([d].length * z.toNat<=sizeLine))=true:=by
  simp only[Bool.and_eq_true,decide_eq_true_eq];exact⟨⟨by omega,by omega⟩,e⟩
 unfold lRep
 simp only
 rw[if_pos c]
 simp
theorem zaQ{g:D->D->Option (List D)}{Fa Fb:FE}{δ:Sl}{s s1 s2:Sx}{a b:D}{xs:List D}(h:Fa δ s=some (a,s1))(h':Fb δ s1=some (b,s2))(e:g a b=some xs):o2 g Fa Fb δ s=some (xs,s2):=by
 unfold o2;rw[h];simp only[Option.bind_some,h',Option.map_some,e]
theorem z21{i:Nat}{F:FO}{δ:Sl}{s s1:Sx}{xs:List D}(h:F δ s=some (xs,s1)):sSetO i F δ s=some (.next (δ.set i (.own xs)),s1):=by
 unfold sSetO;rw[h];rfl
theorem z0L{FL:FA}{δ:Sl}{s s1:Sx}{ds:List D}(h:FL δ s=some (ds,s1))(hs:small ds=true):eLst FL δ s=some (.list ds,s1):=by
 unfold eLst;rw[h];simp only[Option.bind_some,hs,if_true]
theorem z6C{n:Nat}{d:D}(h:n<=1000):lRep (.list [d]) (.int (n:Int))=some (List.replicate n d):=by
 have r:=zbQ (z:=(n:Int)) (d:=d) (Int.natCast_nonneg _) (by omega)
 rwa [Int.toNat_natCast]at r
theorem z7j{i:Nat}{F:FE}{δ:Sl}{s s1:Sx}{v:D}{xs:List D}(h:F δ s=some (v,s1))(hi:δ[i]?=some (.own xs))(hl:xs.length < 1000):sApp i F δ s=some (.next (δ.set i (.own (xs++[v]))),s1):=by
 unfold sApp
 rw[h]
 simp only[Option.bind_some,hi]
 rw[if_pos (decide_eq_true (Nat.lt_of_lt_of_le hl (by decide)))]
theorem z9a{F:FE}{δ:Sl}{s s':Sx}{z:Int}(e:F δ s=some (.int z,s'))(h0:0<=z)(h1:z<=1000):iRange1 F δ s=some (rng 0 z.toNat,s'):=by
 have r1:=zd6 h0 h1
 unfold iRange1
 rw[e]
 simp only[Option.bind_some,r1,if_true]
theorem z1E{F:FE}{δ:Sl}{s s':Sx}{n:Nat}(e:F δ s=some (.int (n:Int),s'))(h1:n<=1000):iRange1 F δ s=some (rng 0 n,s'):=by
 have:=z9a e (Int.natCast_nonneg _) (by omega)
 rwa [Int.toNat_natCast]at this
theorem z3R(n:Nat):(rng 0 n).length=n:=by simp[rng]
theorem z9{g:GF}{FL:FA}{δ:Sl}{s s1:Sx}{ds:List D}{r:Option (D × Sx)}(h:FL δ s=some (ds,s1))(e:g ds s1=r):fCall g FL δ s=r:=by
 unfold fCall;rw[h];exact e
theorem z0u{n m:Nat}{G:GS}{ds:List D}{s s':Sx}{d:D}(hl:ds.length=n)(h:G (ds.map .val++List.replicate m .non) s=some (.ret d,s')):mkFn n m G ds s=some (d,s'):=by
 unfold mkFn;rw[if_pos hl,h]
theorem zae{n:Nat}{T B:Int}{r:Rat}(h:num T B=enc r)(hB:B≠0)(b1:Bt n T)(b2:Bt n B):Sz n r:=by
 obtain⟨e1,_,_,c1,c2⟩:=Num.num hB b1 b2
 rw[h]at e1
 unfold enc at e1
 simp only[PyData.tuple.injEq,List.cons.injEq,PyData.int.injEq,and_true]at e1
 exact⟨by rw[e1.1];exact c1,by rw[e1.2];exact c2⟩
theorem zd7{p q:Nat}{a b:Rat}(ha:Sz p a)(hb:Sz q b):Sz (p + q + 1) (a + b) :=
 zae (z8R a b) (Int.mul_ne_zero (zC a) (zC b)) (((ha.1.mul hb.2).add (hb.1.mul ha.2)).mono (by omega)) ((ha.2.mul hb.2).mono (by omega))
theorem z9b{p q:Nat}{a b:Rat}(ha:Sz p a)(hb:Sz q b):Sz (p + q) (a * b) :=
 zae (z6r a b) (Int.mul_ne_zero (zC a) (zC b)) (ha.1.mul hb.1) (ha.2.mul hb.2)
theorem sz_zero:Sz 1 0:=⟨by show Bt 1 0;exact .lit (by decide),by show Bt 1 1;exact .lit (by decide)⟩
theorem zaf{l:List D}{n:Nat}(h:n < l.length):l[n]?=some (l.getD n zD):=by
 rw[List.getD_eq_getElem?_getD,List.getElem?_eq_getElem h];rfl
theorem z1j{n:Nat}{row:D}{l:List D}(s:Sx)(hl:seqOf row=some l)(h:AllN n l)(hb:l.length<=1000):zE [row] s=some (.tuple (trimD l),s):=by
 have loop:∀ k:Nat,k<=l.length->whileN (tAndF (asB (f2 gNe (fVarW 1) (eLst aNil))) (asB (f2 gEq (f2 gIx (f2 gIx (fVarW 1) (f1 gNeg (fC (.int 1)))) (fC (.int 0))) (fC (.int 0))))) (sPop 1) (k + 1) [.val row,.own (l.take k)] s=some (.next [.val row,.own (l.take (trimLen l k))],s):=by
  intro k
  induction k with
  | zero =>
   intro _
   have e:=z3j (n:=n) (l:=[]) (fun _ z=>nomatch z)
   have sm:small []=true:=by decide
   simp[whileN,tAndF,asB,f2,fVarW,eLst,aNil,e,trimLen,sm]
  | succ k ih =>
   intro hk
   have hN:=h.take (k + 1)
   have e:=z3j hN
   have sm:small []=true:=by decide
   have ne:l.take (k + 1)≠[]:=by
    intro z;have:=congrArg List.length z;rw[List.length_take,Nat.min_eq_left hk]at this;simp at this
   have hemp:(l.take (k + 1)).isEmpty=false:=by
    cases hz:(l.take (k + 1)).isEmpty with
    | false=>rfl
    | true=>exact absurd (List.isEmpty_iff.mp hz) ne
   have hlast:(l.take (k + 1)).getLast ne=l.getD k zD:=by
    rw[List.getLast_eq_getElem,List.getElem_take,List.getD_eq_getElem?_getD,List.getElem?_eq_getElem (by omega)]
    simp only[List.length_take,Nat.min_eq_left hk,Nat.add_sub_cancel,Option.getD_some]
   have hd:IsN n (l.getD k zD):=h _ (by have:=zaf (l:=l) (n:=k) (by omega);exact List.mem_of_getElem? this)
   obtain⟨p,q,hpq⟩:=hd
   have hz0:=zbz hpq
   have e0:=zbA hpq
   have e1:gIx (.list (l.take (k + 1))) (.int (-1))=some (l.getD k zD):=by
    show L2.atI (l.take (k + 1)) (-1)=_
    rw[atI_last ne,hlast]
   rw[hemp]at e
   have t1:tAndF (asB (f2 gNe (fVarW 1) (eLst aNil))) (asB (f2 gEq (f2 gIx (f2 gIx (fVarW 1) (f1 gNeg (fC (.int 1)))) (fC (.int 0))) (fC (.int 0)))) [.val row,.own (l.take (k + 1))] s=some (isZ (l.getD k zD),s):=by
    simp only[tAndF,asB,f2,f1,fVarW,eLst,aNil,fC,gNeg,sm,e,e1,e0,z3F,hz0,Bool.not_false,List.getElem?_cons_zero,List.getElem?_cons_succ,Option.bind_some,Option.map_some,if_true]
   have t2:sPop 1 [.val row,.own (l.take (k + 1))] s=some (.next [.val row,.own (l.take k)],s):=by
    have hdl:(l.take (k + 1)).dropLast=l.take k:=by
     rw[List.dropLast_eq_take,List.length_take,Nat.min_eq_left hk,List.take_take,Nat.add_sub_cancel,Nat.min_eq_left (Nat.le_succ k)]
    simp only[sPop,List.getElem?_cons_zero,List.getElem?_cons_succ,hemp,Bool.false_eq_true,if_false,hdl]
    rfl
   rw[whileN.eq_2,t1]
   simp only[Option.bind_some]
   by_cases hz:isZ (l.getD k zD)=true
   ·rw[if_pos hz,t2]
    simp only
    rw[ih (by omega),trimLen,if_pos hz]
   ·rw[if_neg hz,trimLen,if_neg hz]
 have e1:sSetO 1 (oList (fVar 0)) [.val row,.non] s=some (.next [.val row,.own (l.take l.length)],s):=by
  simp[sSetO,oList,fVar,hl]
 have e2:z1L [.val row,.own (l.take l.length)] s=some (.next [.val row,.own (trimD l)],s):=z06 (loop l.length (Nat.le_refl _)) (by unfold fuel;omega)
 show(match z1p [.val row,.non] s with | some (.ret d,s')=>some (d,s') | some (.next _,s')=>some (.none,s') | _=>none)=_
 unfold z1p
 rw[z07 e1,z07 e2]
 simp[sRet,f1,fVarW,gTuple]
theorem zaR{l:List Rat}{v:Rat}(k:Nat):co (l++[v]) k=if k < l.length then co l k else if k=l.length then v else 0:=by
 unfold co
 rw[List.getD_eq_getElem?_getD,List.getD_eq_getElem?_getD]
 by_cases h:k < l.length
 ·rw[if_pos h,List.getElem?_append_left h]
 ·rw[if_neg h,List.getElem?_append_right (by omega)]
  by_cases h2:k=l.length
  ·rw[if_pos h2,h2,Nat.sub_self];rfl
  ·rw[if_neg h2,List.getElem?_eq_none (by simp;omega)];rfl
theorem zd8{l:List Rat}{P:Rat->Prop}(h:∀ r∈l,P r)(h0:P 0)(k:Nat):P (co l k):=by
 by_cases hk:k < l.length
 ·unfold co
  rw[List.getD_eq_getElem?_getD,List.getElem?_eq_getElem hk]
  exact h _ (List.getElem_mem hk)
 ·rw[z02 (by omega)];exact h0
theorem rats{P:Rat->Prop}:∀ {l:List D},(∀ d∈l,∃ r,d=enc r/\P r)->∃ m:List Rat,l=m.map enc/\∀ r∈m,P r
 | [],_=>⟨[],rfl,fun _ z=>nomatch z⟩
 | d::l,h=>by
  obtain⟨m,e,hm⟩:=rats (l:=l) fun x hx=>h x (List.mem_cons_of_mem _ hx)
  obtain⟨r,rfl,hr⟩:=h d List.mem_cons_self
  exact⟨r::m,by rw[e];rfl,fun x hx=>by
   rcases List.mem_cons.mp hx with rfl | hx
   ·exact hr
   ·exact hm x hx⟩
theorem catL{a b:List D}(h:a.length + b.length<=1000):gAdd (.list a) (.list b)=some (.list (a++b)):=by
 have sm:small (a++b)=true:=z0r (by rw[List.length_append];exact h)
 simp[gAdd,gAddI,gI,gCatL,sm]
theorem z7k{FL:FA}{δ:Sl}{s s1:Sx}{ds:List D}(h:FL δ s=some (ds,s1))(hs:small ds=true):oLst FL δ s=some (ds,s1):=by
 unfold oLst;rw[h];simp only[Option.bind_some,hs,if_true]
theorem zag{m:Nat}{d:D}(h:m<=1000):gMulA (.list [d]) (.int (m:Int))=some (.list (List.replicate m d)):=by
 simp only[gMulA,gMulI,gI,z6C h,Option.map_some,Option.none_or]
theorem zbR(j:Nat):gAdd (.int (j:Int)) (.int 1)=some (.int ((j + 1:Nat):Int)):=by simp[gAdd,gAddI,gI]
theorem z6D{n:Nat}(h:1<=n):gSubI (.int (n:Int)) (.int 1)=some (.int ((n - 1:Nat):Int)):=by
 simp only[gSubI,gI,if_true];congr 2;omega
theorem zd9{Ft:FT}{G1 G2:GS}{δ:Sl}{s s':Sx}{r:Option (Out × Sx)}(h:Ft δ s=some (true,s'))(g:G1 δ s'=r):sIf Ft G1 G2 δ s=r:=by
 unfold sIf;rw[h];exact g
theorem z9c{Ft:FT}{G1 G2:GS}{δ:Sl}{s s':Sx}{r:Option (Out × Sx)}(h:Ft δ s=some (false,s'))(g:G2 δ s'=r):sIf Ft G1 G2 δ s=r:=by
 unfold sIf;rw[h];exact g
theorem zbS{n:Nat}{s:Sx}{M:Int}(h:Good (n + 1) s)(h1:0 < M)(h2:M<=1000):∃ r s',zf [.dict [],.int M] s=some (.int r,s')/\0<=r/\r < M/\Good n s':=draw h M h1 (by omega)
theorem zah{n m:Nat}{s:Sx}(h:Good (n + 1) s)(h1:0 < m)(h2:m<=1000):∃ (j:Nat) (s':Sx),zf [.dict [],.int (m:Int)] s=some (.int (j:Int),s')/\j < m/\Good n s':=by
 obtain⟨r,s',e,r0,r1,g⟩:=zbS (M:=(m:Int)) h (by omega) (by omega)
 obtain⟨j,hj⟩:∃ j:Nat,r=(j:Int):=⟨r.toNat,by omega⟩
 subst hj
 exact⟨j,s',e,by omega,g⟩
theorem zbT{n m:Nat}{G:GS}{ds:List D}{s s':Sx}{xs:List D}(hl:ds.length=n)(h:G (ds.map .val++List.replicate m .non) s=some (.own xs,s')):mkFnC n m G ds s=some (.own xs,s'):=by
 unfold mkFnC;rw[if_pos hl,h]
theorem z9d{i:Nat}{F:FC}{δ:Sl}{s s1:Sx}{xs:List D}(h:F δ s=some (.own xs,s1)):sSetC i F δ s=some (.next (δ.set i (.own xs)),s1):=by
 unfold sSetC;rw[h];rfl
theorem z7X{g:GC}{FL:FA}{δ:Sl}{s s1:Sx}{ds:List D}{r:Option (Ce × Sx)}(h:FL δ s=some (ds,s1))(e:g ds s1=r):fCallC g FL δ s=r:=by
 unfold fCallC;rw[h];exact e
theorem z9e{g:GC}{ds xs:List D}{s s1:Sx}(h:g ds s=some (.own xs,s1)):gOf g ds s=some (.list xs,s1):=by
 unfold gOf;rw[h];rfl
theorem z22{T:Tgt}{G:GS}{d:D}{ds:List D}{δ δ1 δ2:Sl}{s s1:Sx}{r:Option (Out × Sx)}(h:T.run d δ=some δ1)(g:G δ1 s=some (.next δ2,s1))(w:forD T G ds δ2 s1=r):forD T G (d::ds) δ s=r:=by
 show((T.run d δ).bind fun δ1=>_)=_
 rw[h]
 simp only[Option.bind_some,g]
 exact w
theorem z2B{Ft:FT}{G:GS}{δ δ':Sl}{s s':Sx}{k:Nat}{r:Option (Out × Sx)}(h:Ft δ s=some (true,s))(g:G δ s=some (.next δ',s'))(w:whileN Ft G k δ' s'=r):whileN Ft G (k + 1) δ s=r:=by
 rw[whileN.eq_2,h]
 simp only[Option.bind_some,if_true,g]
 exact w
theorem z2b{Ft:FT}{G:GS}{δ:Sl}{s:Sx}{k:Nat}(h:Ft δ s=some (false,s)):whileN Ft G (k + 1) δ s=some (.next δ,s):=by
 rw[whileN.eq_2,h];rfl
def IsSeq(d:D)(l:List D):Prop:=d=.list l\/d=.tuple l
theorem IsSeq.seq{d:D}{l:List D}(h:IsSeq d l):seqOf d=some l:=by rcases h with rfl | rfl <;> rfl
theorem IsSeq.lst{d:D}{l:List D}(h:IsSeq d l):gList d=some (.list l):=by rcases h with rfl | rfl <;> rfl
theorem zN{FL:FA}{δ:Sl}{s s1:Sx}{ds:List D}(h:FL δ s=some (ds,s1))(hs:small ds=true):eTup FL δ s=some (.tuple ds,s1):=by
 unfold eTup;rw[h];simp only[Option.bind_some,hs,if_true]
theorem zda{Ga Gb:FT}{δ:Sl}{s s1:Sx}{r:Option (Bool × Sx)}(h:Ga δ s=some (false,s1))(g:Gb δ s1=r):tOrF Ga Gb δ s=r:=by
 unfold tOrF;rw[h];exact g
theorem zbU{Ga Gb:FT}{δ:Sl}{s s1:Sx}{r:Option (Bool × Sx)}(h:Ga δ s=some (true,s1))(g:Gb δ s1=r):tAndF Ga Gb δ s=r:=by
 unfold tAndF;rw[h];exact g
theorem z4X{Ga:FT}{δ:Sl}{s s1:Sx}{b:Bool}(h:Ga δ s=some (b,s1)):tNotF Ga δ s=some (!b,s1):=by
 unfold tNotF;rw[h];rfl
theorem zai{F:FE}{δ:Sl}{s s1:Sx}{b:Bool}(h:F δ s=some (.bool b,s1)):asT F δ s=some (b,s1):=by
 unfold asT;rw[h];rfl
theorem z9f{F:FE}{δ:Sl}{s s1:Sx}{b:Bool}(h:F δ s=some (.bool b,s1)):asB F δ s=some (b,s1):=by
 unfold asB;rw[h];rfl
theorem zm{G1 G2:GS}{δ δ1:Sl}{s s1:Sx}{r:Option (Out × Sx)}(h:G1 δ s=some (.next δ1,s1))(h2:G2 δ1 s1=r):sSeq G1 G2 δ s=r:=by
 rw[z07 h];exact h2
theorem z04{F:FE}{δ:Sl}{s s1:Sx}{d:D}(h:F δ s=some (d,s1)):sRet F δ s=some (.ret d,s1):=by
 unfold sRet;rw[h];rfl
theorem mulI{a b:Int}(h:mulOk a b=true):gMulI (.int a) (.int b)=some (.int (a * b)):=by simp only[gMulI,gI,h,if_true]
theorem divI{a b:Int}(h:divOk a b=true):gDivI (.int a) (.int b)=some (.int (a.fdiv b)):=by simp only[gDivI,gI,h,if_true]
theorem addI(a b:Int):gAdd (.int a) (.int b)=some (.int (a + b)):=rfl
theorem subI(a b:Int):gSubI (.int a) (.int b)=some (.int (a - b)):=rfl
def zc(l:List Int)(k:Nat):Int:=l.getD k 0
theorem z2d{l:List Int}{k:Nat}(h:k < l.length):zc l k=l[k]:=by unfold zc;rw[List.getD_eq_getElem?_getD,List.getElem?_eq_getElem h];rfl
theorem zY{l:List Int}{k:Nat}(h:l.length<=k):zc l k=0:=by unfold zc;rw[List.getD_eq_getElem?_getD,List.getElem?_eq_none h];rfl
theorem z7l{l:List Int}{k:Nat}(h:k < l.length):(l.map PyData.int)[k]?=some (.int (zc l k)):=by rw[z2d h,List.getElem?_map,List.getElem?_eq_getElem h];rfl
theorem zdb{l:List Int}{j k:Nat}{v:Int}(h:j < l.length):zc (l.set j v) k=if k=j then v else zc l k:=by
 unfold zc
 rw[List.getD_eq_getElem?_getD,List.getD_eq_getElem?_getD,List.getElem?_set]
 by_cases hk:j=k
 ·subst hk;rw[if_pos rfl,if_pos h,if_pos rfl];rfl
 ·rw[if_neg hk,if_neg (Ne.symm hk)]
def tzn(l:List Int):Nat->Nat
 | 0=>0
 | n + 1=>if zc l n=0 then tzn l n else n + 1
def tz(l:List Int):List Int:=l.take (tzn l l.length)
theorem z5M(l:List Int):∀ n,tzn l n<=n
 | 0=>Nat.le_refl _
 | n + 1=>by
  unfold tzn
  split
  ·exact Nat.le_succ_of_le (z5M l n)
  ·exact Nat.le_refl _
theorem z7m(l:List Int):∀ n k,tzn l n<=k->k < n->zc l k=0
 | 0,k,_,h=>absurd h (Nat.not_lt_zero _)
 | n + 1,k,h1,h2=>by
  unfold tzn at h1
  split at h1
  ·rename_i hz
   by_cases hk:k=n
   ·subst hk;exact hz
   ·exact z7m l n k h1 (by omega)
  ·omega
theorem z7n(l:List Int):∀ n,0 < tzn l n->zc l (tzn l n - 1)≠0
 | 0,h=>absurd h (Nat.lt_irrefl _)
 | n + 1,h=>by
  by_cases hz:zc l n=0
  ·rw[tzn,if_pos hz]at h ⊢
   exact z7n l n h
  ·rw[tzn,if_neg hz]
   exact hz
theorem zbV(l:List Int)(k:Nat):zc (tz l) k=zc l k:=by
 unfold tz
 have hle:=z5M l l.length
 by_cases h:k < tzn l l.length
 ·unfold zc
  rw[List.getD_eq_getElem?_getD,List.getD_eq_getElem?_getD,List.getElem?_take,if_pos h]
 ·rw[zY (by rw[List.length_take];omega)]
  by_cases hk:k < l.length
  ·exact(z7m l _ k (by omega) hk).symm
  ·exact(zY (by omega)).symm
theorem z9g(l:List Int):(tz l).length=tzn l l.length:=by unfold tz;rw[List.length_take];exact Nat.min_eq_left (z5M l _)
theorem zeR(l:List Int):(tz l).length<=l.length:=by rw[z9g];exact z5M l _
theorem zbW{l:List Int}(h:0 < (tz l).length):zc (tz l) ((tz l).length - 1)≠0:=by
 rw[zbV,z9g]
 rw[z9g]at h
 exact z7n l _ h
theorem z9h{d:D}{l:List Int}{k:Nat}(h:seqOf d=some (l.map .int))(hk:k < l.length):gIx d (.int (k:Int))=some (.int (zc l k)):=by
 rw[ix_seq h]
 exact L3.atI_nat (z7l hk)
theorem z5N{row:D}{l:List Int}(s:Sx)(hl:seqOf row=some (l.map .int))(hb:l.length<=1000):z1Y [.int 0,row] s=some (.tuple ((tz l).map .int),s):=by
 have loop:∀ k:Nat,k<=l.length->whileN (tAndF (asB (f2 gGt (fVar 2) (fC (.int 0)))) (asB (f2 gEq (f2 gIx (fVar 1) (f2 gSubI (fVar 2) (fC (.int 1)))) (fVar 0)))) (sAug 2 gSubI (fC (.int 1))) (k + 1) [.val (.int 0),.val row,.val (.int (k:Int))] s=some (.next [.val (.int 0),.val row,.val (.int (tzn l k:Int))],s):=by
  intro k
  induction k with
  | zero=>intro _;exact z2b rfl
  | succ k ih =>
   intro hk
   have t1:tAndF (asB (f2 gGt (fVar 2) (fC (.int 0)))) (asB (f2 gEq (f2 gIx (fVar 1) (f2 gSubI (fVar 2) (fC (.int 1)))) (fVar 0))) [.val (.int 0),.val row,.val (.int ((k + 1:Nat):Int))] s=some (decide (zc l k=0),s) :=
    zbU (z9f (b:=true) (zd (a:=.int ((k + 1:Nat):Int)) (b:=.int 0) rfl rfl (by simp only[gGt,gI,if_true,decide_eq_true (show(0:Int) < ((k + 1:Nat):Int) by omega)]))) (z9f (zd (a:=.int (zc l k)) (b:=.int 0) (zd (a:=row) (b:=.int (k:Int)) rfl (zd (a:=.int ((k + 1:Nat):Int)) (b:=.int 1) rfl rfl (by rw[show(k:Int)=((k + 1:Nat):Int) - 1 by omega];simp only[gSubI,gI,if_true])) (z9h hl (by omega))) rfl (z3F _ _)))
   by_cases hz:zc l k=0
   ·rw[decide_eq_true hz]at t1
    rw[tzn,if_pos hz]
    refine z2B t1 ?_ (ih (by omega))
    unfold sAug
    show some (Out.next [.val (.int 0),.val row,.val (.int (((k + 1:Nat):Int) - 1))],s)=_
    rw[show((k + 1:Nat):Int) - 1=(k:Int) by omega]
   ·rw[decide_eq_false hz]at t1
    rw[tzn,if_neg hz]
    exact z2b t1
 refine z0u (n:=2) (m:=1) (G:=z2S) rfl ?_
 show z2S [.val (.int 0),.val row,.non] s=_
 have e1:sSet 2 (f1 gLen (fVar 1)) [.val (.int 0),.val row,.non] s=some (.next [.val (.int 0),.val row,.val (.int (l.length:Int))],s):=z00 (z0e (a:=row) rfl (by rw[z0O hl,List.length_map]))
 have e2:z3L [.val (.int 0),.val row,.val (.int (l.length:Int))] s=some (.next [.val (.int 0),.val row,.val (.int (tzn l l.length:Int))],s):=z06 (loop l.length (Nat.le_refl _)) (by unfold fuel;omega)
 have hc:L3.cutD (l.map PyData.int) none (some (tzn l l.length:Int))=(tz l).map .int:=by
  unfold L3.cutD tz
  rw[HT.sIx_nat,HT.sIx_none,List.drop_zero,Nat.sub_zero,List.length_map,Nat.min_eq_left (z5M l _),List.map_take]
 obtain⟨d,e3,e4⟩:∃ d,gSlD row none (some (tzn l l.length:Int))=some d/\gTuple d=some (.tuple ((tz l).map .int)):=by
  cases row with
  | list xs=>cases hl;exact⟨.list ((tz l).map .int),by simp[gSlD,hc],rfl⟩
  | tuple xs=>cases hl;exact⟨.tuple ((tz l).map .int),by simp[gSlD,hc],rfl⟩
  | _=>cases hl
 unfold z2S
 rw[z07 e1,z07 e2]
 unfold sRet
 refine congrArg (Option.map _) (z0e (a:=d) (s1:=s) ?_ e4)
 unfold fSl
 show((gSlD row none (some (tzn l l.length:Int))).map _)=_
 rw[e3];rfl
theorem z9i{l:List Int}{j:Nat}{v:Int}:(l.map PyData.int).set j (.int v)=(l.set j v).map .int:=by rw[List.map_set]
theorem z9j{d:D}{l:List Int}(h:seqOf d=some (l.map .int))(h0:0 < l.length):gIx d (.int (-1))=some (.int (zc l (l.length - 1))):=by
 rw[ix_seq h]
 have e:=L3.atI_nat (z7l (l:=l) (k:=l.length - 1) (by omega))
 unfold L2.atI ixN at e ⊢
 rw[List.length_map]at e ⊢
 rw[if_pos (by omega),if_pos (by omega)]at e
 rw[if_neg (by decide),if_pos (by omega)]
 simp only[Option.bind_some]at e ⊢
 rw[show(-1 + (l.length:Int)).toNat=(((l.length - 1:Nat):Int)).toNat by omega]
 exact e
theorem z38{k:Nat}{fr:List Nat}{Fi:FI}{T:Tgt}{Ft:FT}{F:FE}{δ:Sl}{s s1 s2:Sx}{ds xs:List D}(h:Fi δ s=some (ds,s1))(hs:ds.length<=1000)(hc:compD T Ft F (compDl k fr δ) ds s1=some (xs,s2)):asL (fComp k fr Fi T Ft F) δ s=some (.list xs,s2):=by
 unfold asL fComp
 rw[h]
 simp only[Option.bind_some]
 rw[if_pos (z0r hs),hc];rfl
theorem z7o{n k:Nat}(h:k < 2 ^ n):Bt n (k:Int):=by show(k:Int).natAbs < _;rw[Int.natAbs_natCast];exact h
theorem zbX{S d:Nat}{b n:Nat}(s:Sx)(hS:0 < S)(hb:S < 2 ^ b)(hbb:b<=100000)(hd0:0 < d)(hd:d < 2 ^ n)(hn:n<=2000) :
  ∃ S':Nat,(∀ {δ:Sl},δ[1]?=some (.val (.int (S:Int)))->δ[3]?=some (.val (.int (d:Int)))->f2 gMulI (f2 gDivI (fVar 1) (fCall zn (aCons (fVar 1) (aCons (fVar 3) aNil)))) (fVar 3) δ s=some (.int (S':Int),s))/\0 < S'/\S' < 2 ^ (b + n)/\S∣S'/\d∣S'/\∀ T,S∣T->d∣T->S'∣T:=by
 have hd':Bt n (d:Int):=z7o hd
 have e1:=z97 (a:=(S:Int)) (b:=(d:Int)) s (.inr hd') hn
 have eg:Int.gcd (S:Int) (d:Int)=Nat.gcd S d:=rfl
 rw[eg]at e1
 have g0:0 < Nat.gcd S d:=Nat.gcd_pos_of_pos_left _ hS
 have gd:Nat.gcd S d<=d:=Nat.gcd_le_right _ hd0
 have bg:Bt n ((Nat.gcd S d:Nat):Int):=z7o (Nat.lt_of_le_of_lt gd hd)
 have dk:divOk (S:Int) ((Nat.gcd S d:Nat):Int)=true:=bg.div (by omega) (by omega)
 have ed:((S:Int)).fdiv ((Nat.gcd S d:Nat):Int)=((S / Nat.gcd S d:Nat):Int):=by rw[Int.fdiv_eq_ediv_of_nonneg _ (Int.natCast_nonneg _)];rfl
 have sd:S / Nat.gcd S d<=S:=Nat.div_le_self _ _
 have bs:Bt b ((S / Nat.gcd S d:Nat):Int):=z7o (Nat.lt_of_le_of_lt sd hb)
 have mk:mulOk ((S / Nat.gcd S d:Nat):Int) (d:Int)=true:=bs.ok hd' (by omega)
 have el:S / Nat.gcd S d * d=Nat.lcm S d:=by
  unfold Nat.lcm
  rw[Nat.mul_comm S d,Nat.mul_div_assoc _ (Nat.gcd_dvd_left S d),Nat.mul_comm]
 refine⟨S / Nat.gcd S d * d,fun{δ} h1 h3=>?_,Nat.mul_pos (Nat.div_pos (Nat.gcd_le_left _ hS) g0) hd0,?_,?_,Nat.dvd_mul_left _ _,?_⟩
 ·have v1:fVar 1 δ s=some (.int (S:Int),s):=by unfold fVar;rw[h1]
  have v3:fVar 3 δ s=some (.int (d:Int),s):=by unfold fVar;rw[h3]
  refine zd (a:=.int ((S / Nat.gcd S d:Nat):Int)) (b:=.int (d:Int)) (zd (a:=.int (S:Int)) (b:=.int ((Nat.gcd S d:Nat):Int)) v1 (z9 (z7 v1 (z7 (FL:=aNil) v3 rfl)) e1) ?_) v3 ?_
  ·simp only[gDivI,gI,dk,if_true,ed]
  ·simp only[gMulI,gI,mk,if_true,Int.natCast_mul]
 ·rw[Nat.pow_add]
  exact Nat.mul_lt_mul_of_lt_of_le (Nat.lt_of_le_of_lt sd hb) (Nat.le_of_lt hd) (Nat.pow_pos (by decide))
 ·rw[el];exact Nat.dvd_lcm_left _ _
 ·rw[el];exact fun T h1 h2=>Nat.lcm_dvd h1 h2
theorem zdc{n:Nat}{r:Rat}(h:Sz n r):r.den < 2 ^ n:=by have:(r.den:Int).natAbs < 2 ^ n:=h.2;omega
theorem z9k(r:Rat):0 < r.den:=by have:=r.den_nz;omega
theorem z9l{nd:D}{n:Nat}(s:Sx)(hn:n<=2000):∀ (l:List Rat) (S b:Nat) (c2 c3:Ce),0 < S->S < 2 ^ b->(∀ r∈l,Sz n r)->b + n * l.length<=90000 ->
  ∃ (S':Nat) (c2' c3':Ce),forD (.tup [2,3]) z1V (l.map enc) [.val nd,.val (.int (S:Int)),c2,c3] s=some (.next [.val nd,.val (.int (S':Int)),c2',c3'],s)/\0 < S'/\S' < 2 ^ (b + n * l.length)/\S∣S'/\(∀ r∈l,r.den∣S')/\∀ T,S∣T->(∀ r∈l,r.den∣T)->S'∣T
 | [],S,b,c2,c3,h0,h1,_,_=>⟨S,c2,c3,rfl,h0,h1,Nat.dvd_refl _,(fun r hr=>nomatch hr),fun T h _=>h⟩
 | r::l,S,b,c2,c3,h0,h1,h2,h3=>by
  rw[List.length_cons,Nat.mul_succ]at h3
  obtain⟨S1,e1,p1,q1,d1,d2,m1⟩:=zbX (S:=S) (d:=r.den) (b:=b) s h0 h1 (by omega) (z9k r) (zdc (h2 r List.mem_cons_self)) hn
  obtain⟨S2,c2',c3',e2,p2,q2,d3,d4,m2⟩:=z9l (nd:=nd) s hn l S1 (b + n) (.val (.int r.num)) (.val (.int (r.den:Int))) p1 q1 (fun x hx=>h2 x (List.mem_cons_of_mem _ hx)) (by omega)
  refine⟨S2,c2',c3',z22 (δ1:=[.val nd,.val (.int (S:Int)),.val (.int r.num),.val (.int (r.den:Int))]) (δ2:=[.val nd,.val (.int (S1:Int)),.val (.int r.num),.val (.int (r.den:Int))]) (s1:=s) rfl (z00 (e1 rfl rfl)) e2,p2,by rw[List.length_cons,Nat.mul_succ,show b + (n * l.length + n)=b + n + n * l.length by omega];exact q2,Nat.dvd_trans d1 d3,fun x hx=>?_,fun T h h'=>m2 T (m1 T h (h' r List.mem_cons_self)) fun x hx=>h' x (List.mem_cons_of_mem _ hx)⟩
  rcases List.mem_cons.mp hx with rfl | hx
  ·exact Nat.dvd_trans d2 d3
  ·exact d4 x hx
theorem zdd{l:List Rat}{nd:D}{n:Nat}(s:Sx)(hn:n<=2000)(hd:seqOf nd=some (l.map enc))(hS:∀ r∈l,Sz n r)(hl:n * l.length<=80000):∃ S:Nat,z0d [nd] s=some (.int (S:Int),s)/\0 < S/\S < 2 ^ (1 + n * l.length)/\(∀ r∈l,r.den∣S)/\∀ T,(∀ r∈l,r.den∣T)->S∣T:=by
 obtain⟨S,c2,c3,e,p,q,_,d,mi⟩:=z9l (nd:=nd) s hn l 1 1 .non .non (by decide) (by decide) hS (by omega)
 refine⟨S,z0u (n:=1) (m:=3) (G:=z0W) rfl ?_,p,q,d,fun T h=>mi T (Nat.one_dvd _) h⟩
 show z0W [.val nd,.non,.non,.non] s=_
 have a1:sSet 1 (fC (.int 1)) [.val nd,.non,.non,.non] s=some (.next [.val nd,.val (.int ((1:Nat):Int)),.non,.non],s):=rfl
 have a2:z13 [.val nd,.val (.int ((1:Nat):Int)),.non,.non] s=some (.next [.val nd,.val (.int (S:Int)),c2,c3],s):=by
  have ei:iSeq (fVar 0) [.val nd,.val (.int ((1:Nat):Int)),.non,.non] s=some (l.map enc,s):=by
   show((seqOf nd).map fun xs=>(xs,s))=_
   rw[hd];rfl
  unfold z13 sFor
  rw[ei]
  exact e
 unfold z0W
 rw[z07 a1,z07 a2]
 rfl
def zt(S:Nat)(r:Rat):Int:=r.num * ((S / r.den:Nat):Int)
theorem zde{S:Nat}{r:Rat}(h:r.den∣S):((zt S r:Int):Rat)=r * (S:Rat):=by
 obtain⟨c,rfl⟩:=h
 unfold zt
 rw[Nat.mul_div_cancel_left _ (z9k r),Rat.intCast_mul,Rat.natCast_mul,<- z4G r,Rat.intCast_natCast]
 grind
theorem zaj{l:List Rat}{nd:D}{S n:Nat}(s:Sx)(hn:seqOf nd=some (l.map enc))(hr:∀ r∈l,Sz n r)(hS:S < 2 ^ 20000)(hl:l.length<=30)(hn2:n<=2000:=by decide):z14 [.int (S:Int),nd] s=some (.list (l.map fun r=>.int (zt S r)),s):=by
 have hc:compD (.tup [0,1]) fTrue (f2 gMulI (fVar 0) (f2 gDivI (fVar 2) (fVar 1))) [.non,.non,.val (.int (S:Int))] (l.map enc) s=some ((l.map enc).map (fun d=>match d with | .tuple [.int p,.int q]=>.int (p * (S:Int).fdiv q) | _=>.none),s):=by
  refine z0c _ fun d hd=>?_
  obtain⟨r,hm,rfl⟩:=List.mem_map.mp hd
  have sr:=hr r hm
  have dk:divOk (S:Int) (r.den:Int)=true:=sr.2.div (zC r) (Nat.le_trans hn2 (by decide))
  have ed:((S:Int)).fdiv (r.den:Int)=((S / r.den:Nat):Int):=by rw[Int.fdiv_eq_ediv_of_nonneg _ (Int.natCast_nonneg _)];rfl
  have bs:Bt 20000 ((S / r.den:Nat):Int):=z7o (Nat.lt_of_le_of_lt (Nat.div_le_self S r.den) hS)
  have mk:mulOk r.num ((S / r.den:Nat):Int)=true:=sr.1.ok bs (Nat.le_trans (Nat.add_le_add_right hn2 _) (by decide))
  refine⟨[.val (.int r.num),.val (.int (r.den:Int)),.val (.int (S:Int))],rfl,rfl,?_⟩
  refine zd (a:=.int r.num) (b:=.int ((S / r.den:Nat):Int)) rfl (zd (a:=.int (S:Int)) (b:=.int (r.den:Int)) rfl rfl ?_) ?_
  ·simp only[gDivI,gI,dk,if_true,ed]
  ·show gMulI (.int r.num) (.int ((S / r.den:Nat):Int))=some (.int (r.num * (S:Int).fdiv (r.den:Int)))
   rw[ed]
   simp only[gMulI,gI,mk,if_true]
 have ei:iSeq (fVar 1) [.val (.int (S:Int)),.val nd] s=some (l.map enc,s):=by
  show((seqOf nd).map fun xs=>(xs,s))=_
  rw[hn];rfl
 have hs:small (l.map enc)=true:=z0r (by rw[List.length_map];exact Nat.le_trans hl (by decide))
 refine z0u (n:=2) (m:=0) (G:=z1D) rfl ?_
 show z1D [.val (.int (S:Int)),.val nd] s=_
 unfold z1D sRet asL z2R fComp
 rw[ei]
 simp only[Option.bind_some,hs,if_true]
 rw[show compDl 2 [0] [.val (.int (S:Int)),.val nd]=[.non,.non,.val (.int (S:Int))] from rfl,hc,List.map_map]
 simp only[Option.map_some]
 congr 4
 refine List.map_congr_left fun r _=>?_
 show PyData.int (r.num * (S:Int).fdiv (r.den:Int))=.int (zt S r)
 rw[Int.fdiv_eq_ediv_of_nonneg _ (Int.natCast_nonneg _)];rfl
theorem drawers:∀ (m:Nat) (f:Nat->Nat),(∀ i,i<=m->f i < m)->∃ i j,i < j/\j<=m/\f i=f j
 | 0,f,h=>absurd (h 0 (Nat.le_refl _)) (Nat.not_lt_zero _)
 | m + 1,f,h=>by
  by_cases e:∃ i,i<=m/\f i=f (m + 1)
  ·obtain⟨i,hi,e⟩:=e
   exact⟨i,m + 1,by omega,Nat.le_refl _,e⟩
  ·obtain⟨i,j,h1,h2,h3⟩:=drawers m (fun i=>if f i=m then f (m + 1) else f i) fun i hi=>by
    have a:=h i (by omega)
    have b:=h (m + 1) (Nat.le_refl _)
    have c:f i≠f (m + 1):=fun z=>e ⟨i,hi,z⟩
    show(if f i=m then f (m + 1) else f i) < m
    split <;> omega
   refine⟨i,j,h1,by omega,?_⟩
   replace h3:(if f i=m then f (m + 1) else f i)=if f j=m then f (m + 1) else f j:=h3
   split at h3 <;> split at h3
   ·omega
   ·exact absurd ⟨j,h2,h3.symm⟩ e
   ·exact absurd ⟨i,by omega,h3⟩ e
   ·exact h3
def dig(Y:Nat):Nat->Nat->Nat
 | c,0=>c % Y
 | c,j + 1=>dig Y (c / Y) j
theorem zaS{Y:Nat}(h:0 < Y):∀ (j c:Nat),dig Y c j < Y
 | 0,c=>Nat.mod_lt _ h
 | j + 1,c=>zaS h j _
theorem z9m{Y:Nat}:∀ (n c d:Nat),c < Y ^ n->d < Y ^ n->(∀ j,j < n->dig Y c j=dig Y d j)->c=d
 | 0,c,d,h1,h2,_=>by rw[Nat.pow_zero]at h1 h2;omega
 | n + 1,c,d,h1,h2,h=>by
  have a:=h 0 (by omega)
  have q:∀ x,x < Y ^ (n + 1)->x / Y < Y ^ n:=fun x hx=>Nat.div_lt_of_lt_mul (by rw[Nat.mul_comm,<- Nat.pow_succ];exact hx)
  have b:=z9m n (c / Y) (d / Y) (q c h1) (q d h2) fun j hj=>h (j + 1) (by omega)
  replace a:c % Y=d % Y:=a
  rw[<- Nat.div_add_mod c Y,<- Nat.div_add_mod d Y,a,b]
def cod(M:Nat)(g:Nat->Nat):Nat->Nat
 | 0=>0
 | r + 1=>cod M g r * M + g r
theorem zaT{M:Nat}{g:Nat->Nat}:∀ r:Nat,(∀ i,i < r->g i < M)->cod M g r < M ^ r
 | 0,_=>Nat.one_pos
 | r + 1,h=>by
  have a:=zaT r fun i hi=>h i (by omega)
  have b:=h r (by omega)
  have c:(cod M g r + 1) * M<=M ^ r * M:=Nat.mul_le_mul_right _ a
  rw[Nat.pow_succ]
  show cod M g r * M + g r < _
  rw[Nat.add_mul]at c
  omega
theorem z9n{M:Nat}{g g':Nat->Nat}:∀ r:Nat,(∀ i,i < r->g i < M)->(∀ i,i < r->g' i < M)->cod M g r=cod M g' r->∀ i,i < r->g i=g' i
 | 0,_,_,_,i,hi=>by omega
 | r + 1,h,h',e,i,hi=>by
  replace e:cod M g r * M + g r=cod M g' r * M + g' r:=e
  have a:=h r (by omega)
  have a':=h' r (by omega)
  have m1:(cod M g r * M + g r) % M=g r:=by rw[Nat.add_comm,Nat.add_mul_mod_self_right,Nat.mod_eq_of_lt a]
  have m2:(cod M g' r * M + g' r) % M=g' r:=by rw[Nat.add_comm,Nat.add_mul_mod_self_right,Nat.mod_eq_of_lt a']
  have e1:g r=g' r:=by rw[<- m1,<- m2,e]
  have e2:cod M g r=cod M g' r:=Nat.eq_of_mul_eq_mul_right (by omega) (show cod M g r * M=cod M g' r * M by omega)
  by_cases z:i=r
  ·rw[z];exact e1
  ·exact z9n r (fun i hi=>h i (by omega)) (fun i hi=>h' i (by omega)) e2 i (by omega)
def sm(f:Nat->Int):Nat->Int
 | 0=>0
 | n + 1=>sm f n + f n
theorem zaU(f g:Nat->Int):∀ n,sm (fun j=>f j - g j) n=sm f n - sm g n
 | 0=>rfl
 | n + 1=>by show sm _ n + _=sm f n + f n - (sm g n + g n);rw[zaU f g n];dsimp only;omega
def lowS(A:Nat->Int)(X:Nat):Nat->Int
 | 0=>0
 | n + 1=>lowS A X n + (if A n < 0 then A n * X else 0)
theorem zaV{A:Nat->Int}{B X:Nat}{x:Nat->Nat}(hx:∀ j,x j<=X)(hA:∀ j,(A j).natAbs<=B):∀ n,lowS A X n<=sm (fun j=>A j * (x j:Int)) n/\sm (fun j=>A j * (x j:Int)) n<=lowS A X n + ((n * (B * X):Nat):Int)
 | 0=>by simp[lowS,sm]
 | n + 1=>by
  obtain⟨a,b⟩:=zaV hx hA n
  have h1:=hx n
  have h2:=hA n
  have e:(((n + 1) * (B * X):Nat):Int)=((n * (B * X):Nat):Int) + (B:Int) * (X:Int):=by rw[Nat.add_mul,Nat.one_mul,Int.natCast_add,Int.natCast_mul B X]
  rw[e]
  have k0:(0:Int)<=(x n:Int):=Int.natCast_nonneg _
  have k1:(x n:Int)<=(X:Int):=by omega
  show _ + (if A n < 0 then A n * (X:Int) else 0)<=_ + A n * (x n:Int)/\_ + A n * (x n:Int)<=_ + (if A n < 0 then A n * (X:Int) else 0) + _
  by_cases z:A n < 0
  ·rw[if_pos z]
   have p1:A n * (X:Int)<=A n * (x n:Int):=Int.mul_le_mul_of_nonpos_left (by omega) k1
   have p2:A n * (x n:Int) - A n * (X:Int)<=(B:Int) * (X:Int):=by
    have:A n * (x n:Int) - A n * (X:Int)=(-(A n)) * ((X:Int) - (x n:Int)):=by grind
    rw[this]
    exact Int.mul_le_mul (by omega) (by omega) (by omega) (by omega)
   omega
  ·rw[if_neg z]
   have p1:0<=A n * (x n:Int):=Int.mul_nonneg (by omega) k0
   have p2:A n * (x n:Int)<=(B:Int) * (X:Int):=Int.mul_le_mul (by omega) k1 k0 (by omega)
   omega
theorem siegel{r n B:Nat}(A:Nat->Nat->Int)(hr:r < n)(hB:0 < B)(hA:∀ i j,(A i j).natAbs<=B) :
  ∃ x:Nat->Int,(∃ j,j < n/\x j≠0)/\(∀ j,(x j).natAbs<=(n * B) ^ r)/\∀ i,i < r->sm (fun j=>A i j * x j) n=0:=by
 generalize hX:(n * B) ^ r=X
 have nB:0 < n * B:=Nat.mul_pos (by omega) hB
 let g:Nat->Nat->Nat:=fun c i=>(sm (fun j=>A i j * ((dig (X + 1) c j:Nat):Int)) n - lowS (A i) X n).toNat
 have hd:∀ c j,dig (X + 1) c j<=X:=fun c j=>by have:=zaS (Y:=X + 1) (by omega) j c;omega
 have bnd:∀ c i,lowS (A i) X n<=sm (fun j=>A i j * ((dig (X + 1) c j:Nat):Int)) n/\sm (fun j=>A i j * ((dig (X + 1) c j:Nat):Int)) n<=lowS (A i) X n + ((n * (B * X):Nat):Int):=fun c i=>zaV (x:=fun j=>dig (X + 1) c j) (hd c) (hA i) n
 have hg:∀ c i,g c i < n * B * X + 1:=fun c i=>by
  have:=bnd c i
  rw[<- Nat.mul_assoc]at this
  show(_ - _:Int).toNat < _
  omega
 have big:(n * B * X + 1) ^ r < (X + 1) ^ n:=by
  have h1:n * B * X + 1<=n * B * (X + 1):=by rw[Nat.mul_add];omega
  have h2:(n * B * X + 1) ^ r<=(n * B * (X + 1)) ^ r:=Nat.pow_le_pow_left h1 _
  have h3:(n * B * (X + 1)) ^ r=X * (X + 1) ^ r:=by rw[Nat.mul_pow,hX]
  have h4:X * (X + 1) ^ r < (X + 1) ^ (r + 1):=by
   rw[Nat.pow_succ,Nat.mul_comm ((X + 1) ^ r)]
   exact Nat.mul_lt_mul_of_pos_right (by omega) (Nat.pow_pos (by omega))
  have h5:(X + 1) ^ (r + 1)<=(X + 1) ^ n:=Nat.pow_le_pow_right (by omega) hr
  omega
 obtain⟨c,d,hcd,hdm,e⟩:=drawers ((n * B * X + 1) ^ r) (fun c=>cod (n * B * X + 1) (g c) r) fun c _=>zaT r fun i _=>hg c i
 have eg:=z9n r (fun i _=>hg c i) (fun i _=>hg d i) e
 refine⟨fun j=>((dig (X + 1) c j:Nat):Int) - ((dig (X + 1) d j:Nat):Int),?_,fun j=>?_,fun i hi=>?_⟩
 ·refine Classical.byContradiction fun z=>?_
  have:c=d:=z9m (Y:=X + 1) n c d (by omega) (by omega) fun j hj=>Classical.byContradiction fun y=>z ⟨j,hj,by dsimp only;omega⟩
  omega
 ·have h1:=hd c j
  have h2:=hd d j
  dsimp only
  omega
 ·have e1:(fun j=>A i j * (((dig (X + 1) c j:Nat):Int) - ((dig (X + 1) d j:Nat):Int)))=fun j=>A i j * ((dig (X + 1) c j:Nat):Int) - A i j * ((dig (X + 1) d j:Nat):Int):=funext fun j=>Int.mul_sub _ _ _
  rw[e1,zaU]
  have h1:=eg i hi
  have b1:=bnd c i
  have b2:=bnd d i
  replace h1:(sm (fun j=>A i j * ((dig (X + 1) c j:Nat):Int)) n - lowS (A i) X n).toNat=(sm (fun j=>A i j * ((dig (X + 1) d j:Nat):Int)) n - lowS (A i) X n).toNat:=h1
  omega
def ml:(Nat->Rat)->(Nat->Rat)->Nat->Rat
 | a,b,0=>a 0 * b 0
 | a,b,k + 1=>a 0 * b (k + 1) + ml (fun i=>a (i + 1)) b k
theorem z7p(b:Nat->Rat):∀ (k:Nat) (a:Nat->Rat),ml a b (k + 1)=ml a (fun i=>b (i + 1)) k + a (k + 1) * b 0
 | 0,a=>rfl
 | k + 1,a=>by
  show a 0 * b (k + 1 + 1) + ml (fun i=>a (i + 1)) b (k + 1)=a 0 * b (k + 1 + 1) + ml (fun i=>a (i + 1)) (fun i=>b (i + 1)) k + a (k + 1 + 1) * b 0
  rw[z7p b k];grind
theorem z39(b:Nat->Rat):∀ (k:Nat) (a:Nat->Rat),ml a b k=ml b a k
 | 0,a=>Rat.mul_comm _ _
 | k + 1,a=>by rw[z7p a k b,<- z39 b k];show a 0 * b (k + 1) + _=_;grind
theorem z7q(b:Nat->Rat):∀ (k:Nat) (a a':Nat->Rat),ml (fun i=>a i + a' i) b k=ml a b k + ml a' b k
 | 0,a,a'=>by simp only[ml];grind
 | k + 1,a,a'=>by simp only[ml];rw[z7q b k];grind
theorem z7r(b:Nat->Rat)(w:Rat):∀ (k:Nat) (a:Nat->Rat),ml (fun i=>w * a i) b k=w * ml a b k
 | 0,a=>by simp only[ml];grind
 | k + 1,a=>by simp only[ml];rw[z7r b w k];grind
theorem z7s(c:Nat->Rat):∀ (k:Nat) (a b:Nat->Rat),ml (ml a b) c k=ml a (ml b c) k
 | 0,a,b=>by simp only[ml];grind
 | k + 1,a,b=>by
  show ml a b 0 * c (k + 1) + ml (fun i=>a 0 * b (i + 1) + ml (fun i=>a (i + 1)) b i) c k=a 0 * (b 0 * c (k + 1) + ml (fun i=>b (i + 1)) c k) + ml (fun i=>a (i + 1)) (ml b c) k
  rw[z7q,z7r c (a 0) k fun i=>b (i + 1),z7s c k]
  show a 0 * b 0 * _ + _=_
  grind
theorem z6E(b:Nat->Rat):∀ k,ml (fun _=>0) b k=0
 | 0=>by simp only[ml];grind
 | k + 1=>by simp only[ml];rw[z6E b k];grind
theorem z4Y(g:Nat->Rat)(w:Rat):∀ N k,ml (fun i=>if i=N then w else 0) g k=w * sh N g k
 | 0,0=>rfl
 | 0,k + 1=>by
  show w * g (k + 1) + ml (fun i=>if i + 1=0 then w else 0) g k=_
  rw[show(fun i=>if i + 1=0 then w else (0:Rat))=fun _=>0 from funext fun i=>if_neg (by omega),z6E]
  unfold sh;rw[if_pos (by omega)];show _=w * g (k + 1);grind
 | N + 1,0=>by show(if 0=N + 1 then w else 0) * g 0=_;unfold sh;rw[if_neg (by omega),if_neg (by omega)];grind
 | N + 1,k + 1=>by
  show(if 0=N + 1 then w else 0) * g (k + 1) + ml (fun i=>if i + 1=N + 1 then w else 0) g k=_
  rw[show(fun i=>if i + 1=N + 1 then w else (0:Rat))=fun i=>if i=N then w else 0 from funext fun i=>by by_cases h:i=N <;> simp[h],z4Y g w N k,if_neg (by omega)]
  unfold sh
  by_cases h:N<=k
  ·rw[if_pos h,if_pos (by omega),show k + 1 - (N + 1)=k - N by omega];grind
  ·rw[if_neg h,if_neg (by omega)];grind
theorem z6F{g:Nat->Rat}{k:Nat}:∀ (N:Nat) (q:Nat->Rat),(∀ i,N<=i->q i=0)->cv N q g k=ml q g k
 | 0,q,h=>by rw[show q=fun _=>0 from funext fun i=>h i (by omega),z6E];rfl
 | N + 1,q,h=>by
  rw[cv,z3v (q':=fun i=>if i < N then q i else 0) (fun i hi=>by rw[if_pos hi]),z6F N _ (fun i hi=>by rw[if_neg (by omega)]),<- z4Y,<- z7q]
  congr 1
  funext i
  by_cases h1:i < N
  ·rw[if_pos h1,if_neg (by omega)];grind
  ·rw[if_neg h1]
   by_cases h2:i=N
   ·rw[if_pos h2,h2];grind
   ·rw[if_neg h2,h i (by omega)];grind
@[ext] structure Po where
 f:Nat->Rat
namespace Po
def C(r:Rat):Po:=⟨fun k=>if k=0 then r else 0⟩
def pw(a:Po):Nat->Po
 | 0=>C 1
 | n + 1=>⟨ml (pw a n).f a.f⟩
noncomputable instance:Add Po:=⟨fun a b=>⟨fun k=>a.f k + b.f k⟩⟩
noncomputable instance:Mul Po:=⟨fun a b=>⟨ml a.f b.f⟩⟩
noncomputable instance:Neg Po:=⟨fun a=>⟨fun k=>-(a.f k)⟩⟩
noncomputable instance:Sub Po:=⟨fun a b=>⟨fun k=>a.f k + -(b.f k)⟩⟩
noncomputable instance:NatCast Po:=⟨fun n=>C n⟩
noncomputable instance:IntCast Po:=⟨fun n=>C n⟩
noncomputable instance (n:Nat):OfNat Po n:=⟨C (n:Rat)⟩
noncomputable instance:SMul Nat Po:=⟨fun n a=>⟨ml (C n).f a.f⟩⟩
noncomputable instance:SMul Int Po:=⟨fun n a=>⟨ml (C n).f a.f⟩⟩
noncomputable instance:HPow Po Nat Po:=⟨pw⟩
theorem add_f(a b:Po)(k:Nat):(a + b).f k=a.f k + b.f k:=rfl
theorem mul_f(a b:Po)(k:Nat):(a * b).f k=ml a.f b.f k:=rfl
theorem sub_f(a b:Po)(k:Nat):(a - b).f k=a.f k - b.f k:=by show a.f k + -(b.f k)=_;grind
theorem neg_f(a:Po)(k:Nat):(-a).f k=-(a.f k):=rfl
theorem C_mul(w:Rat)(b:Po)(k:Nat):(C w * b).f k=w * b.f k:=by
 show ml (fun i=>if i=0 then w else 0) b.f k=_
 rw[z4Y];unfold sh;rw[if_pos (Nat.zero_le _),Nat.sub_zero]
theorem zero_f(k:Nat):(0:Po).f k=0:=by
 show(if k=0 then ((0:Nat):Rat) else 0)=0
 split <;> rfl
theorem of{a b:Po}(h:∀ k,a.f k=b.f k):a=b:=Po.ext (funext h)
theorem cm(a b:Po):a * b=b * a:=of fun k=>z39 b.f k a.f
theorem zeS(x y:Rat):C (x + y)=C x + C y:=of fun k=>by
 show(if k=0 then x + y else 0)=(if k=0 then x else 0) + (if k=0 then y else 0)
 split <;> grind
theorem zeT(x:Rat):C (-x)=-(C x):=of fun k=>by
 show(if k=0 then -x else 0)=-(if k=0 then x else 0)
 split <;> grind
theorem ld(a b c:Po):a * (b + c)=a * b + a * c:=of fun k=>by
 rw[add_f,mul_f,mul_f,mul_f,z39,z39 b.f,z39 c.f]
 exact z7q a.f k b.f c.f
theorem C_mul'(w v:Rat):C (w * v)=C w * C v:=of fun k=>by
 rw[C_mul];show(if k=0 then w * v else 0)=w * (if k=0 then v else 0);split <;> grind
noncomputable instance:Lean.Grind.CommRing Po where
 add_zero a:=of fun k=>by rw[add_f,zero_f];grind
 add_comm a b:=of fun k=>Rat.add_comm _ _
 add_assoc a b c:=of fun k=>Rat.add_assoc _ _ _
 mul_assoc a b c:=of fun k=>z7s c.f k a.f b.f
 mul_one a:=by rw[cm];exact of fun k=>by rw[show(1:Po)=C 1 from rfl,C_mul];grind
 one_mul a:=of fun k=>by rw[show(1:Po)=C 1 from rfl,C_mul];grind
 left_distrib:=ld
 right_distrib a b c:=by rw[cm,ld,cm c,cm c]
 mul_zero a:=by rw[cm];exact of fun k=>by rw[show(0:Po)=C 0 from rfl,C_mul,show(C 0:Po)=0 from rfl,zero_f];grind
 zero_mul a:=of fun k=>by rw[show(0:Po)=C 0 from rfl,C_mul,show(C 0:Po)=0 from rfl,zero_f];grind
 pow_zero a:=rfl
 pow_succ a n:=rfl
 ofNat_succ n:=by show C ((n + 1:Nat):Rat)=C (n:Rat) + C 1;rw[<- zeS,Rat.natCast_add];rfl
 neg_add_cancel a:=of fun k=>by rw[add_f,neg_f,zero_f];grind
 sub_eq_add_neg a b:=rfl
 neg_zsmul i a:=of fun k=>by
  show(C ((-i:Int):Rat) * a).f k=-((C (i:Rat) * a).f k)
  rw[C_mul,C_mul,Rat.intCast_neg];grind
 zsmul_natCast_eq_nsmul n a:=by
  show C (((n:Nat):Int):Rat) * a=C (n:Rat) * a
  rw[Rat.intCast_natCast]
 intCast_ofNat n:=by show C (((n:Nat):Int):Rat)=C (n:Rat);rw[Rat.intCast_natCast]
 intCast_neg i:=by show C ((-i:Int):Rat)=-(C (i:Rat));rw[Rat.intCast_neg,zeT]
 mul_comm:=cm
end Po
theorem z9o{b:Nat->Rat}:∀ (k:Nat) (a:Nat->Rat),(∀ i j,i + j=k->a i * b j=0)->ml a b k=0
 | 0,a,h=>h 0 0 rfl
 | k + 1,a,h=>by
  show a 0 * b (k + 1) + ml (fun i=>a (i + 1)) b k=0
  rw[h 0 (k + 1) (by omega),z9o k _ fun i j e=>h (i + 1) j (by omega),Rat.add_zero]
theorem z9p{b:Nat->Rat}{n:Nat}:∀ (m:Nat) (a:Nat->Rat),(∀ i j,i + j=m + n->i≠m->a i * b j=0)->ml a b (m + n)=a m * b n
 | 0,a,h=>by
  rw[Nat.zero_add]
  cases n with
  | zero=>rfl
  | succ n =>
   show a 0 * b (n + 1) + ml (fun i=>a (i + 1)) b n=_
   rw[z9o n _ fun i j e=>h (i + 1) j (by omega) (by omega),Rat.add_zero]
 | m + 1,a,h=>by
  rw[show m + 1 + n=m + n + 1 by omega]
  show a 0 * b (m + n + 1) + ml (fun i=>a (i + 1)) b (m + n)=_
  rw[h 0 (m + n + 1) (by omega) (by omega),z9p m _ fun i j e ne=>h (i + 1) j (by omega) (by omega),Rat.zero_add]
def Dg(n:Nat)(a:Po):Prop:=∀ i,n<=i->a.f i=0
theorem Dg.mono{n m:Nat}{a:Po}(h:Dg n a)(hm:n<=m):Dg m a:=fun i hi=>h i (by omega)
theorem Dg.sub{n:Nat}{a b:Po}(h:Dg n a)(h':Dg n b):Dg n (a - b):=fun i hi=>by rw[Po.sub_f,h i hi,h' i hi,Rat.sub_self]
theorem Dg.neg{n:Nat}{a:Po}(h:Dg n a):Dg n (-a):=fun i hi=>by rw[Po.neg_f,h i hi];rfl
theorem Dg.mul{n m:Nat}{a b:Po}(h:Dg n a)(h':Dg (m + 1) b):Dg (n + m) (a * b):=fun k hk=>z9o k _ fun i j e=>by
 by_cases z:n<=i
 ·rw[h i z,Rat.zero_mul]
 ·rw[h' j (by omega),Rat.mul_zero]
theorem Dg.C(w:Rat)(n:Nat):Dg (n + 1) (Po.C w):=fun i hi=>if_neg (by omega)
theorem Dg.one(n:Nat):Dg (n + 1) (1:Po):=Dg.C 1 n
theorem Dg.zero(n:Nat):Dg n (0:Po):=fun i _=>Po.zero_f i
theorem z9q{m n:Nat}{a b:Po}(h:Dg (m + 1) a)(h':Dg (n + 1) b):(a * b).f (m + n)=a.f m * b.f n:=z9p m _ fun i j e ne=>by
 by_cases z:m < i
 ·rw[h i z,Rat.zero_mul]
 ·rw[h' j (by omega),Rat.mul_zero]
theorem z5O{N d:Nat}{a q:Po}(hq:Dg N q)(ha:Dg (d + 1) a)(h0:a.f d≠0)(h:∀ k,d<=k->(q * a).f k=0):q=0:=Po.of fun i=>by
 rw[Po.zero_f]
 by_cases z:i < N
 ·refine z8T (N:=N) (n:=d + 1) (d:=q.f) (g:=a.f) (by omega) ha (by rw[Nat.add_sub_cancel];exact h0) (fun k hk=>?_) i z
  rw[z6F N q.f hq]
  exact h k (by omega)
 ·exact hq i (by omega)
def Ch(a0 b0:Po)(da db:Nat)(one other:Po)(d:Nat):Prop:=∃ s t u v:Po,one=s * a0 + t * b0/\other=u * a0 + v * b0/\(s * v - t * u=1\/s * v - t * u=-1) /\
 Dg (d + 1) one/\one.f d≠0/\Dg d other/\d<=db/\d<=da/\Dg (db - d + 1) s/\Dg (da - d + 1) t/\Dg (db - d + 1) u/\Dg (da - d + 1) v/\v.f (da - d)≠0
theorem zbY{one other q r:Po}{d e:Nat}(hde:e<=d)(h1:one.f d≠0)(h2:Dg (e + 1) other)(hq:Dg (d - e + 1) q)(hr:Dg e r)(eq:one=q * other + r):q.f (d - e)≠0:=fun z=>h1 (by
 have:=z9q hq h2
 rw[show d - e + e=d by omega]at this
 rw[eq,Po.add_f,this,z,hr d hde,Rat.zero_mul,Rat.add_zero])
theorem zak{a0 b0 q r:Po}{da db:Nat}(hab:db<=da)(h1:a0.f da≠0)(h2:Dg (db + 1) b0)(h3:b0.f db≠0)(hq:Dg (da - db + 1) q)(hr:Dg db r)(eq:a0=q * b0 + r):Ch a0 b0 da db b0 r db :=
 ⟨0,1,1,-q,by grind,by grind,by right;grind,h2,h3,hr,Nat.le_refl _,hab,Dg.zero _,Dg.one _,Dg.one _,hq.neg,by
  rw[Po.neg_f]
  have:=zbY hab h1 h2 hq hr eq
  exact fun z=>this (by grind)⟩
theorem zbZ{a0 b0 one other q r:Po}{da db d e:Nat}(h:Ch a0 b0 da db one other d)(hd:e < d)(h2:Dg (e + 1) other)(h3:other.f e≠0)(hq:Dg (d - e + 1) q)(hr:Dg e r)(eq:one=q * other + r):Ch a0 b0 da db other r e:=by
 obtain⟨s,t,u,v,e1,e2,dt,k1,k2,k3,k4,k5,k6,k7,k8,k9,k10⟩:=h
 have m1:Dg (db - e + 1) (q * u):=by have:=hq.mul k8;rwa [show d - e + 1 + (db - d)=db - e + 1 by omega]at this
 have m2:Dg (da - e + 1) (q * v):=by have:=hq.mul k9;rwa [show d - e + 1 + (da - d)=da - e + 1 by omega]at this
 refine⟨u,v,s - q * u,t - q * v,e2,by grind,?_,h2,h3,hr,by omega,by omega,k8.mono (by omega),k9.mono (by omega),(k6.mono (by omega)).sub m1,(k7.mono (by omega)).sub m2,?_⟩
 ·rcases dt with z | z
  ·right;grind
  ·left;grind
 ·have tp:=z9q hq k9
  rw[show d - e + (da - d)=da - e by omega]at tp
  have qn:=zbY (by omega) k2 h2 hq hr eq
  rw[Po.sub_f,tp,k7 _ (by omega)]
  intro z
  rcases Rat.mul_eq_zero.mp (show q.f (d - e) * v.f (da - d)=0 by grind) with y | y
  ·exact qn y
  ·exact k10 y
theorem zdf{a0 b0 one other U V:Po}{da db d:Nat}(h:Ch a0 b0 da db one other d)(h0:a0.f da≠0)(ha:Dg (da + 1) a0)(hU:Dg (db - d + 1) U)(hV:Dg (da - d + 1) V)(hw:Dg d (U * a0 + V * b0)) :
  ∃ c:Rat,U * a0 + V * b0=Po.C c * other/\(c=0->U=0/\V=0):=by
 obtain⟨s,t,u,v,e1,e2,dt,k1,k2,k3,k4,k5,k6,k7,k8,k9,k10⟩:=h
 have z:U * v - V * u=0:=by
  have m1:=hw.mul k9
  have m2:=k3.mul hV
  rw[show d + (da - d)=da by omega]at m1 m2
  have e:(U * v - V * u) * a0=(U * a0 + V * b0) * v - other * V:=by grind
  refine z5O (N:=(db - d + 1) + (da - d)) ((hU.mul k9).sub ((hV.mul k8).mono (by omega))) ha h0 fun k hk=>?_
  rw[e]
  exact m1.sub m2 k hk
 obtain⟨b,hb,eU,eV⟩:∃ b:Po,Dg (da + db + 1) b/\U=b * u/\V=b * v:=by
  have m3:Dg (da + db + 1) (s * V - t * U):=((k6.mul hV).mono (by omega)).sub ((k7.mul hU).mono (by omega))
  rcases dt with y | y
  ·exact⟨s * V - t * U,m3,by grind,by grind⟩
  ·exact⟨-(s * V - t * U),m3.neg,by grind,by grind⟩
 obtain⟨c,ec⟩:∃ c,b=Po.C c:=by
  refine⟨V.f (da - d) / v.f (da - d),?_⟩
  have f:b - Po.C (V.f (da - d) / v.f (da - d))=0:=by
   refine z5O (N:=da + db + 1) (hb.sub (Dg.C _ _)) k9 k10 fun k hk=>?_
   rw[show(b - Po.C (V.f (da - d) / v.f (da - d))) * v=V - Po.C (V.f (da - d) / v.f (da - d)) * v by grind,Po.sub_f,Po.C_mul]
   by_cases y:k=da - d
   ·rw[y];generalize V.f (da - d)=p at *;generalize v.f (da - d)=q at *;grind
   ·rw[hV k (by omega),k9 k (by omega)];grind
  grind
 refine⟨c,by rw[eU,eV,ec,e2];grind,fun y=>?_⟩
 have c0:Po.C c=0:=by rw[y];rfl
 rw[c0]at ec
 exact⟨by rw[eU,ec];grind,by rw[eV,ec];grind⟩
def shZ(j:Nat)(g:Nat->Int)(k:Nat):Int:=if j<=k then g (k - j) else 0
def ofZ(n:Nat)(x:Nat->Int):Po:=⟨fun i=>if i < n then (x i:Rat) else 0⟩
def zP(g:Nat->Int):Po:=⟨fun i=>(g i:Rat)⟩
theorem z7t(f:Nat->Int)(n:Nat):∀ m,sm f (n + m)=sm f n + sm (fun j=>f (n + j)) m
 | 0=>by show sm f n=sm f n + 0;omega
 | m + 1=>by show sm f (n + m) + f (n + m)=sm f n + (sm _ m + f (n + m));rw[z7t f n m];omega
theorem zdg(x g:Nat->Int)(k:Nat):∀ n,((sm (fun j=>shZ j g k * x j) n:Int):Rat)=cv n (fun i=>(x i:Rat)) (fun i=>(g i:Rat)) k
 | 0=>rfl
 | n + 1=>by
  show((sm _ n + shZ n g k * x n:Int):Rat)=cv n _ _ k + _
  rw[Rat.intCast_add,zdg x g k n,Rat.intCast_mul]
  unfold shZ sh
  split
  ·grind
  ·rw[show((0:Int):Rat)=0 from rfl];grind
theorem z9r(n:Nat)(x g:Nat->Int)(k:Nat):(ofZ n x * zP g).f k=((sm (fun j=>shZ j g k * x j) n:Int):Rat):=by
 rw[zdg,Po.mul_f,<- z6F n (ofZ n x).f (fun i hi=>if_neg (by omega))]
 exact z3v fun i hi=>if_pos hi
theorem zc0{f:Nat->Int}{B:Nat}(h:∀ j,(f j).natAbs<=B):∀ n,(sm f n).natAbs<=n * B
 | 0=>by rw[Nat.zero_mul];exact Nat.le_refl 0
 | n + 1=>by
  have a:=zc0 h n
  have b:=h n
  have c:=Int.natAbs_add_le (sm f n) (f n)
  show(sm f n + f n).natAbs<=_
  rw[Nat.add_mul,Nat.one_mul]
  omega
theorem zal{a b:Nat->Int}{ka kb:Rat}{one other:Po}{da db d B:Nat}(h:Ch (Po.C ka * zP a) (Po.C kb * zP b) da db one other d)(hka:ka≠0)(hkb:kb≠0)(h0:a da≠0)(ha:∀ i,da < i->a i=0)(hb:∀ i,db < i->b i=0)
  (hB:0 < B) (bA:∀ i,(a i).natAbs<=B) (bB:∀ i,(b i).natAbs<=B):∃ (c:Rat) (W:Nat->Int),c≠0/\(∀ k,c * other.f k=(W k:Rat))/\∀ k,(W k).natAbs<=((da - d + 1 + (db - d + 1)) * B) ^ (da - d + 1 + (db - d + 1)):=by
 have hd:d<=db/\d<=da:=by obtain⟨s,t,u,v,_,_,_,_,_,_,k4,k5,_⟩:=h;exact⟨k4,k5⟩
 generalize hnu:db - d + 1=nu at *
 generalize hnv:da - d + 1=nv at *
 let A:Nat->Nat->Int:=fun k j=>if j < nu then shZ j a k else shZ (j - nu) b k
 have bS:∀ {g:Nat->Int},(∀ i,(g i).natAbs<=B)->∀ j k,(shZ j g k).natAbs<=B:=fun hg j k=>by unfold shZ;split;exact hg _;exact Nat.zero_le _
 have bb:∀ k j,(A k j).natAbs<=B:=fun k j=>by show(if j < nu then shZ j a k else shZ (j - nu) b k).natAbs<=B;split;exact bS bA _ _;exact bS bB _ _
 obtain⟨x,⟨j0,hj0,x0⟩,hx,hs⟩:=siegel (r:=nu + nv - 1) (n:=nu + nv) (B:=B) (fun i j=>A (d + i) j) (by omega) hB fun i j=>bb _ _
 generalize hW:(fun k=>sm (fun j=>A k j * x j) (nu + nv))=W
 have wf:∀ k,(ofZ nu x * zP a + ofZ nv (fun j=>x (nu + j)) * zP b).f k=(W k:Rat):=fun k=>by
  rw[Po.add_f,z9r,z9r,<- hW,<- Rat.intCast_add]
  congr 1
  show _=sm (fun j=>A k j * x j) (nu + nv)
  rw[z7t]
  have cong:∀ (f g:Nat->Int) (n:Nat),(∀ j,j < n->f j=g j)->sm f n=sm g n:=fun f g n=>by
   induction n with
   | zero=>intro _;rfl
   | succ n ih=>intro hh;show sm f n + f n=sm g n + g n;rw[ih fun j hj=>hh j (by omega),hh n (by omega)]
  congr 1
  ·exact cong _ _ _ fun j hj=>by show _=(if j < nu then _ else _) * _;rw[if_pos hj]
  ·exact cong _ _ _ fun j hj=>by show _=(if nu + j < nu then _ else shZ (nu + j - nu) b k) * _;rw[if_neg (by omega),show nu + j - nu=j by omega]
 have wz:∀ k,d<=k->W k=0:=fun k hk=>by
  by_cases z:k < d + (nu + nv - 1)
  ·have:=hs (k - d) (by omega)
   rw[<- hW]
   show sm (fun j=>A k j * x j) (nu + nv)=0
   rw[<- this,show d + (k - d)=k by omega]
  ·have:(ofZ nu x * zP a + ofZ nv (fun j=>x (nu + j)) * zP b).f k=0:=by
    have m1:Dg (nu + da) (ofZ nu x * zP a):=Dg.mul (fun i hi=>if_neg (by omega)) fun i hi=>by show((a i:Int):Rat)=0;rw[ha i (by omega)];rfl
    have m2:Dg (nv + db) (ofZ nv (fun j=>x (nu + j)) * zP b):=Dg.mul (fun i hi=>if_neg (by omega)) fun i hi=>by show((b i:Int):Rat)=0;rw[hb i (by omega)];rfl
    rw[Po.add_f,m1 k (by omega),m2 k (by omega),Rat.add_zero]
   rw[wf]at this
   exact Rat.intCast_eq_zero_iff.mp this
 have e1:Po.C ka⁻¹ * (Po.C ka * zP a)=zP a:=Po.of fun k=>by rw[Po.C_mul,Po.C_mul];grind
 have e2:Po.C kb⁻¹ * (Po.C kb * zP b)=zP b:=Po.of fun k=>by rw[Po.C_mul,Po.C_mul];grind
 have ew:(Po.C ka⁻¹ * ofZ nu x) * (Po.C ka * zP a) + (Po.C kb⁻¹ * ofZ nv (fun j=>x (nu + j))) * (Po.C kb * zP b)=ofZ nu x * zP a + ofZ nv (fun j=>x (nu + j)) * zP b:=by
  rw[<- e1,<- e2];grind
 have dC:∀ {n:Nat} {w:Rat} {y:Nat->Int},Dg n (Po.C w * ofZ n y):=fun i hi=>by rw[Po.C_mul,show(ofZ _ _).f i=0 from if_neg (by omega),Rat.mul_zero]
 obtain⟨c,ec,cz⟩:=zdf (U:=Po.C ka⁻¹ * ofZ nu x) (V:=Po.C kb⁻¹ * ofZ nv (fun j=>x (nu + j))) h (by rw[Po.C_mul];exact fun z=>by rcases Rat.mul_eq_zero.mp z with y | y;exact hka y;exact h0 (Rat.intCast_eq_zero_iff.mp y)) (fun i hi=>by rw[Po.C_mul];show _ * ((a i:Int):Rat)=0;rw[ha i (by omega)];exact Rat.mul_zero _) (by rw[hnu];exact dC) (by rw[hnv];exact dC) (fun k hk=>by rw[ew,wf,wz k hk];rfl)
 rw[ew]at ec
 refine⟨c,W,fun z=>?_,fun k=>by rw[<- wf,ec,Po.C_mul],fun k=>?_⟩
 ·obtain⟨zU,zV⟩:=cz z
  have un:∀ {n:Nat} {w:Rat} {y:Nat->Int} {j:Nat},w≠0->Po.C w⁻¹ * ofZ n y=0->j < n->y j=0:=fun{n w y j} hw e hj=>by
   have:=congrArg (fun p=>Po.f p j) e
   replace this:(Po.C w⁻¹ * ofZ n y).f j=(0:Po).f j:=this
   rw[Po.C_mul,Po.zero_f,show(ofZ n y).f j=(y j:Rat) from if_pos hj]at this
   rcases Rat.mul_eq_zero.mp this with q | q
   ·exact absurd q (by grind)
   ·exact Rat.intCast_eq_zero_iff.mp q
  by_cases q:j0 < nu
  ·exact x0 (un hka zU q)
  ·have:=un (j:=j0 - nu) hkb zV (by omega)
   rw[show nu + (j0 - nu)=j0 by omega]at this
   exact x0 this
 ·rw[<- hW,show nv + nu=nu + nv by omega]
  have:(sm (fun j=>A k j * x j) (nu + nv)).natAbs<=(nu + nv) * (B * ((nu + nv) * B) ^ (nu + nv - 1)):=zc0 (fun j=>by rw[Int.natAbs_mul];exact Nat.mul_le_mul (bb k j) (hx j)) _
  rw[<- Nat.mul_assoc,Nat.mul_comm _ (((nu + nv) * B) ^ (nu + nv - 1)),<- Nat.pow_succ,show(nu + nv - 1).succ=nu + nv by omega]at this
  exact this
theorem zc1{c g:Rat}{other:Nat->Rat}{W low:Nat->Int}(hc:c≠0)(hg:g≠0)(e:∀ k,c * other k=(W k:Rat))(e':∀ k,other k=g * (low k:Rat))(hp:∀ q:Int,(∀ k,q∣low k)->q.natAbs=1)(k:Nat):(low k).natAbs<=(W k).natAbs:=by
 have r:∀ k,(c * g) * (low k:Rat)=(W k:Rat):=fun k=>by rw[<- e,e'];grind
 have r0:c * g≠0:=fun z=>by rcases Rat.mul_eq_zero.mp z with y | y;exact hc y;exact hg y
 generalize c * g=ρ at *
 have ei:∀ k,ρ.num * low k=W k * (ρ.den:Int):=fun k=>by
  apply Rat.intCast_inj.mp
  rw[Rat.intCast_mul,Rat.intCast_mul,Rat.intCast_natCast,<- z4G ρ,<- r k]
  grind
 have hd:=hp (ρ.den:Int) fun k=>z1t (b:=ρ.num) ⟨W k,by rw[ei k,Int.mul_comm]⟩ (by rw[Int.gcd_comm];exact ρ.reduced)
 have n0:ρ.num≠0:=fun z=>r0 (Rat.num_eq_zero.mp z)
 have:=ei k
 rw[show(ρ.den:Int)=1 by omega,Int.mul_one]at this
 rw[<- this,Int.natAbs_mul]
 exact Nat.le_mul_of_pos_left _ (by omega)
def Bd(n:Nat)(l:List Int):Prop:=∀ k,Bt n (zc l k)
theorem bt0(n:Nat):Bt n 0:=Nat.pow_pos (by decide)
theorem Bd.mono{n m:Nat}{l:List Int}(h:Bd n l)(hm:n<=m):Bd m l:=fun k=>(h k).mono hm
theorem Bd.of{n:Nat}{l:List Int}(h:∀ x∈l,Bt n x):Bd n l:=fun k=>by
 by_cases hk:k < l.length
 ·rw[z2d hk];exact h _ (List.getElem_mem hk)
 ·rw[zY (by omega)];exact bt0 n
theorem Bd.mem{n:Nat}{l:List Int}(h:Bd n l){x:Int}(hx:x∈l):Bt n x:=by
 obtain⟨i,hi,rfl⟩:=List.mem_iff_getElem.mp hx
 rw[<- z2d hi];exact h i
theorem z4h(l:List Int)(c:Int)(k:Nat):zc (l.map fun x=>x * c) k=zc l k * c:=by
 by_cases hk:k < l.length
 ·rw[z2d (by simpa using hk),z2d hk,List.getElem_map]
 ·rw[zY (by simpa using hk),zY (by omega),Int.zero_mul]
theorem zc2(x:Int)(l:List Int)(k:Nat):zc (x::l) k=if k=0 then x else zc l (k - 1):=by
 cases k with
 | zero=>rfl
 | succ k=>rfl
theorem zaW{l m:List Int}(hl:l.length=m.length)(h:∀ k,zc l k=zc m k):l=m:=List.ext_getElem hl fun i h1 h2=>by
 have:=h i
 rwa [z2d h1,z2d h2]at this
theorem z6G(l:List Int)(k:Nat)(h:k < l.length - 1):zc l.dropLast k=zc l k:=by
 rw[z2d (by rw[List.length_dropLast];exact h),z2d (by omega),List.getElem_dropLast]
theorem z9s{i j:Nat}{g:G2}{Fi F:FE}{δ:Sl}{s s1 s2:Sx}{xs:List D}{v old new:D}(hi:Fi δ s=some (.int (j:Int),s1))(hF:F δ s1=some (v,s2))(ho:δ[i]?=some (.own xs))(hj:xs[j]?=some old)(e:g old v=some new):sAugI i g Fi F δ s=some (.next (δ.set i (.own (xs.set j new))),s2):=by
 have hl:=(List.getElem?_eq_some_iff.mp hj).1
 unfold sAugI
 rw[hi]
 simp only[Option.bind_some,hF,ho]
 unfold ixN
 rw[if_pos (by omega),if_pos (by omega)]
 simp only[Option.bind_some,Int.toNat_natCast,hj,e,Option.map_some]
theorem z5P{F:FE}{l:List Int}{c:Int}{δc:Sl}{s:Sx}{n m:Nat}(hl:Bd n l)(hc:Bt m c)(hnm:n + m<=100000)(hF:∀ x,f2 gIx (fVar 1) (f1 gNeg (fC (.int 1))) (.val x::δc) s=some (.int c,s)) :
  compD (.one 0) fTrue (f2 gMulI (fVar 0) (f2 gIx (fVar 1) (f1 gNeg (fC (.int 1))))) (.non::δc) (l.map .int) s=some ((l.map fun x=>x * c).map .int,s):=by
 have:=z0c (T:=.one 0) (Ft:=fTrue) (F:=f2 gMulI (fVar 0) (f2 gIx (fVar 1) (f1 gNeg (fC (.int 1))))) (δc:=.non::δc) (f:=fun d=>match d with | .int x=>.int (x * c) | _=>.none) (s:=s) (l.map .int) fun d hd=>by
  obtain⟨x,hx,rfl⟩:=List.mem_map.mp hd
  exact⟨.val (.int x)::δc,rfl,rfl,zd (a:=.int x) (b:=.int c) rfl (hF _) (mulI ((hl.mem hx).ok hc (by omega)))⟩
 rw[this,List.map_map,List.map_map];rfl
section
variable {hd lowd:D} {high low:List Int}
theorem zam(s:Sx){rest:List Int}{c2:Ce}{sft n m:Nat}{w:Int}{c6:Ce}(hlow:seqOf lowd=some (low.map .int))(h0:0 < low.length)(hl:rest.length=sft + (low.length - 1))(hb:low.length<=1000)(bl:Bd n low)(bw:Bt m w)(hnm:n + m<=100000) :
  ∃ (rest':List Int) (c6':Ce),z0Q [.val hd,.val lowd,c2,.own (rest.map .int),.val (.int (sft:Int)),.val (.int w),c6] s=some (.next [.val hd,.val lowd,c2,.own (rest'.map .int),.val (.int (sft:Int)),.val (.int w),c6'],s)/\rest'.length=rest.length /\
   ∀ k,k < rest.length->zc rest' k=zc rest k - w * shZ sft (zc low) k:=by
 obtain⟨δ',s',e,hs,rest',c6',hδ,l1,q⟩:=z2s (T:=.one 6) (G:=z1K) (fun j δ s'=>s'=s/\∃ (rest':List Int) (c6':Ce),δ=[.val hd,.val lowd,c2,.own (rest'.map .int),.val (.int (sft:Int)),.val (.int w),c6']/\rest'.length=rest.length/\∀ k,k < rest.length->zc rest' k=zc rest k - (if k < sft + j then w * shZ sft (zc low) k else 0))
  (rng 0 (low.length - 1)) [.val hd,.val lowd,c2,.own (rest.map .int),.val (.int (sft:Int)),.val (.int w),c6] s
  ⟨rfl,rest,c6,rfl,rfl,fun k hk=>by
   by_cases z:k < sft + 0
   ·rw[if_pos z];unfold shZ;rw[if_neg (by omega),Int.mul_zero,Int.sub_zero]
   ·rw[if_neg z,Int.sub_zero]⟩
  (fun j d δ s' hdj zeq=>by
   obtain⟨hs,rest',c6',hδ,l1,q⟩:=zeq
   subst hs hδ
   obtain⟨hj,rfl⟩:=z8W hdj
   have mk:mulOk w (zc low j)=true:=bw.ok (bl j) (by omega)
   have ix:sft + j < rest'.length:=by omega
   refine⟨[.val hd,.val lowd,c2,.own (rest'.map .int),.val (.int (sft:Int)),.val (.int w),.val (.int (j:Int))],[.val hd,.val lowd,c2,.own ((rest'.set (sft + j) (zc rest' (sft + j) - w * zc low j)).map .int),.val (.int (sft:Int)),.val (.int w),.val (.int (j:Int))],s',rfl,?_,rfl,_,_,rfl,by rw[List.length_set,l1],fun k hk=>?_⟩
   ·have r:=z9s (i:=3) (g:=gSubI) (j:=sft + j) (Fi:=f2 gAdd (fVar 4) (fVar 6)) (F:=f2 gMulI (fVar 5) (f2 gIx (fVar 1) (fVar 6))) (δ:=[.val hd,.val lowd,c2,.own (rest'.map .int),.val (.int (sft:Int)),.val (.int w),.val (.int (j:Int))]) (s:=s') (s1:=s') (s2:=s') (xs:=rest'.map .int) (v:=.int (w * zc low j)) (old:=.int (zc rest' (sft + j))) (new:=.int (zc rest' (sft + j) - w * zc low j)) (zd (a:=.int (sft:Int)) (b:=.int (j:Int)) rfl rfl (add_int _ _)) (zd (a:=.int w) (b:=.int (zc low j)) rfl (zd (a:=lowd) (b:=.int (j:Int)) rfl rfl (z9h hlow (by omega))) (mulI mk)) rfl (z7l ix) rfl
    rw[z9i]at r
    exact r
   ·rw[zdb ix]
    by_cases z:k=sft + j
    ·subst z
     rw[if_pos rfl,if_pos (by omega),q _ hk,if_neg (by omega),Int.sub_zero]
     unfold shZ
     rw[if_pos (by omega),show sft + j - sft=j by omega]
    ·rw[if_neg z,q k hk]
     by_cases y:k < sft + j
     ·rw[if_pos y,if_pos (by omega)]
     ·rw[if_neg y,if_neg (by omega)])
 subst hs hδ
 rw[z3R]at q
 refine⟨rest',c6',?_,l1,fun k hk=>by rw[q k hk,if_pos (by omega)]⟩
 unfold z0Q sFor
 rw[z1E (n:=low.length - 1) (F:=f2 gSubI (f1 gLen (fVar 1)) (fC (.int 1))) (zd (a:=.int (low.length:Int)) (b:=.int 1) (z0e (a:=lowd) rfl (by rw[z0O hlow,List.length_map])) rfl (z6D h0)) (by omega)]
 exact e
def mo(m:Nat):Po:=⟨fun i=>if i=m then 1 else 0⟩
theorem z9t(m:Nat)(g:Po)(k:Nat):(mo m * g).f k=sh m g.f k:=by
 show ml (fun i=>if i=m then 1 else 0) g.f k=_
 rw[z4Y];grind
theorem zc3(m:Nat):mo (m + 1)=mo m * mo 1:=Po.of fun k=>by
 rw[z9t]
 unfold sh mo
 dsimp only
 by_cases h:k=m + 1
 ·rw[if_pos h,if_pos (by omega),if_pos (by omega)]
 ·rw[if_neg h]
  split
  ·rw[if_neg (by omega)]
  ·rfl
theorem zc4:mo 0=1:=rfl
def zL(l:List Int):Po:=zP (zc l)
theorem zeU(m:Nat)(l:List Int)(k:Nat):sh m (zL l).f k=((shZ m (zc l) k:Int):Rat):=by
 unfold sh shZ
 split <;> rfl
theorem zc5(w:Int)(c:Int)(l:List Int):zL (w::l.map fun x=>x * c)=Po.C (w:Rat) + mo 1 * (Po.C (c:Rat) * zL l):=Po.of fun k=>by
 rw[Po.add_f,z9t]
 show((zc _ k:Int):Rat)=(if k=0 then (w:Rat) else 0) + _
 rw[zc2]
 unfold sh
 by_cases h:k=0
 ·rw[if_pos h,if_pos h,if_neg (by omega),Rat.add_zero]
 ·rw[if_neg h,if_neg h,if_pos (by omega),Rat.zero_add,Po.C_mul,z4h,Rat.intCast_mul]
  show _=(c:Rat) * ((zc l (k - 1):Int):Rat)
  grind
theorem zc6(s:Sx){st n:Nat}(hlow:seqOf lowd=some (low.map .int))(h0:0 < low.length)(hst:st=high.length + 1 - low.length)(hln:low.length<=1000)(hhn:high.length<=900)(bh:Bd n high)(bl:Bd n low)(hn:n + st * (n + 1)<=50000) :
  ∃ (often rest:List Int) (c4 c5 c6:Ce),forD (.one 4) z0i (rngDn st) [.val hd,.val lowd,.val (.list []),.own (high.map .int),.non,.non,.non] s=some (.next [.val hd,.val lowd,.val (.list (often.map .int)),.own (rest.map .int),c4,c5,c6],s) /\
   often.length=st/\rest.length=high.length - st/\Bd (n + st * (n + 1)) often/\Bd (n + st * (n + 1)) rest/\Po.C (((zc low (low.length - 1):Int):Rat)) ^ st * zL high=zL often * zL low + zL rest:=by
 generalize hld:zc low (low.length - 1)=ld at *
 obtain⟨δ',s',e,hs,often,rest,c4,c5,c6,hδ,l1,l2,b1,b2,q⟩:=z2s (T:=.one 4) (G:=z0i) (fun j δ s'=>s'=s/\∃ (often rest:List Int) (c4 c5 c6:Ce),δ=[.val hd,.val lowd,.val (.list (often.map .int)),.own (rest.map .int),c4,c5,c6] /\
   often.length=j/\rest.length=high.length - j/\Bd (n + j * (n + 1)) often/\Bd (n + j * (n + 1)) rest/\Po.C ((ld:Int):Rat) ^ j * zL high=mo (st - j) * (zL often * zL low) + zL rest)
  (rngDn st) [.val hd,.val lowd,.val (.list []),.own (high.map .int),.non,.non,.non] s
  ⟨rfl,[],high,.non,.non,.non,rfl,rfl,rfl,fun k=>bt0 _,by rw[Nat.zero_mul];exact bh,by
   have:zL []=0:=Po.of fun k=>by rw[Po.zero_f];rfl
   rw[this];grind⟩
  (fun j d δ s' hdj zer=>by
   obtain⟨hs,often,rest,c4,c5,c6,hδ,l1,l2,b1,b2,q⟩:=zer
   subst hs hδ
   obtain⟨hj,rfl⟩:=z8U hdj
   generalize hS:st - 1 - j=sft at *
   have hr:rest.length=sft + low.length:=by omega
   have hb:n + j * (n + 1) + (n + 1)=n + (j + 1) * (n + 1):=by rw[Nat.add_mul,Nat.one_mul];omega
   have hle:(j + 1) * (n + 1)<=st * (n + 1):=Nat.mul_le_mul_right _ (by omega)
   generalize hbj:n + j * (n + 1)=bj at *
   generalize hw:zc rest (rest.length - 1)=w
   have bw:Bt bj w:=by rw[<- hw];exact b2 _
   have bld:Bt n ld:=by rw[<- hld];exact bl _
   have hcF:∀ x,f2 gIx (fVar 1) (f1 gNeg (fC (.int 1))) [.val x,.val lowd] s'=some (.int ld,s'):=fun x=>zd (a:=lowd) (b:=.int (-1)) rfl rfl (by rw[z9j hlow h0,hld])
   have eo:=z5P (F:=fVar 0) (l:=often) (c:=ld) (δc:=[.val lowd]) (s:=s') b1 bld (by omega) hcF
   have er:=z5P (F:=fVar 0) (l:=rest.dropLast) (c:=ld) (δc:=[.val lowd]) (s:=s') (n:=bj) (Bd.of fun x hx=>b2.mem (List.dropLast_subset rest hx)) bld (by omega) hcF
   obtain⟨rest',c6',ei,l3,qi⟩:=zam (hd:=hd) (lowd:=lowd) (low:=low) s' (rest:=rest.dropLast.map fun x=>x * ld) (c2:=.val (.list ((w::often.map fun x=>x * ld).map .int))) (sft:=sft) (n:=n) (m:=bj) (w:=w) (c6:=c6) hlow h0 (by rw[List.length_map,List.length_dropLast];omega) hln bl bw (by omega)
   rw[List.length_map,List.length_dropLast]at l3 qi
   have qa:∀ k,zc rest' k=zc rest k * ld - w * shZ sft (zc low) k:=fun k=>by
    by_cases z:k < rest.length - 1
    ·rw[qi k z,z4h,z6G _ _ z]
    ·rw[zY (l:=rest') (by omega)]
     unfold shZ
     rw[if_pos (by omega)]
     by_cases y:k=rest.length - 1
     ·rw[y,hw,show rest.length - 1 - sft=low.length - 1 by omega,hld];omega
     ·rw[zY (l:=rest) (by omega),zY (l:=low) (by omega)];omega
   refine⟨[.val hd,.val lowd,.val (.list (often.map .int)),.own (rest.map .int),.val (.int (sft:Int)),c5,c6],[.val hd,.val lowd,.val (.list ((w::often.map fun x=>x * ld).map .int)),.own (rest'.map .int),.val (.int (sft:Int)),.val (.int w),c6'],s',rfl,?_,rfl,_,_,_,_,_,rfl,?_,?_,?_,?_,?_⟩
   ·have a1:sSetPop 5 3 [.val hd,.val lowd,.val (.list (often.map .int)),.own (rest.map .int),.val (.int (sft:Int)),c5,c6] s'=some (.next [.val hd,.val lowd,.val (.list (often.map .int)),.own (rest.dropLast.map .int),.val (.int (sft:Int)),.val (.int w),c6],s'):=by
     have gl:(rest.map PyData.int).getLast?=some (.int w):=by rw[List.getLast?_eq_getElem?,List.length_map,z7l (by omega),hw]
     simp only[sSetPop,List.getElem?_cons_zero,List.getElem?_cons_succ,gl,List.map_dropLast,List.set_cons_zero,List.set_cons_succ]
    have a2:sSet 2 (f2 gAdd (eLst (aCons (fVar 5) aNil)) (asL z1J)) [.val hd,.val lowd,.val (.list (often.map .int)),.own (rest.dropLast.map .int),.val (.int (sft:Int)),.val (.int w),c6] s'=some (.next [.val hd,.val lowd,.val (.list ((w::often.map fun x=>x * ld).map .int)),.own (rest.dropLast.map .int),.val (.int (sft:Int)),.val (.int w),c6],s') :=
     z00 (zd (a:=.list [.int w]) (b:=.list ((often.map fun x=>x * ld).map .int)) (z0L (ds:=[.int w]) rfl (z0r (by show 1<=1000;decide))) (z38 (ds:=often.map .int) rfl (by rw[List.length_map];omega) eo) (catL (by rw[List.length_map,List.length_map];show 1 + _<=_;omega)))
    have a3:sSeq (sFrz 3) (sSetO 3 z0P) [.val hd,.val lowd,.val (.list ((w::often.map fun x=>x * ld).map .int)),.own (rest.dropLast.map .int),.val (.int (sft:Int)),.val (.int w),c6] s'=some (.next [.val hd,.val lowd,.val (.list ((w::often.map fun x=>x * ld).map .int)),.own ((rest.dropLast.map fun x=>x * ld).map .int),.val (.int (sft:Int)),.val (.int w),c6],s'):=by
     refine zm (δ1:=[.val hd,.val lowd,.val (.list ((w::often.map fun x=>x * ld).map .int)),.val (.list (rest.dropLast.map .int)),.val (.int (sft:Int)),.val (.int w),c6]) (s1:=s') rfl (z21 ?_)
     have hsm:small (rest.dropLast.map PyData.int)=true:=z0r (by rw[List.length_map,List.length_dropLast];omega)
     unfold z0P fComp
     rw[show iSeq (fVar 3) [.val hd,.val lowd,.val (.list ((w::often.map fun x=>x * ld).map .int)),.val (.list (rest.dropLast.map .int)),.val (.int (sft:Int)),.val (.int w),c6] s'=some (rest.dropLast.map .int,s') from rfl]
     simp only[Option.bind_some,hsm,if_true]
     exact er
    unfold z0i
    exact zm a1 (zm a2 (zm a3 ei))
   ·rw[List.length_cons,List.length_map,l1]
   ·rw[l3,l2];omega
   ·refine Bd.of fun x hx=>?_
    rcases List.mem_cons.mp hx with rfl | hx
    ·exact bw.mono (by omega)
    ·obtain⟨y,hy,rfl⟩:=List.mem_map.mp hx
     exact((b1.mem hy).mul bld).mono (by omega)
   ·intro k
    rw[qa k]
    have c1:=(b2 k).mul bld
    have c2:Bt (bj + n) (w * shZ sft (zc low) k):=bw.mul (by unfold shZ;split;exact bl _;exact bt0 _)
    exact(c1.sub c2).mono (by omega)
   ·have e1:zL rest'=Po.C (ld:Rat) * zL rest - Po.C (w:Rat) * (mo sft * zL low):=Po.of fun k=>by
     rw[Po.sub_f,Po.C_mul,Po.C_mul,z9t,zeU]
     show((zc rest' k:Int):Rat)=(ld:Rat) * ((zc rest k:Int):Rat) - _
     rw[qa k,Rat.intCast_sub,Rat.intCast_mul,Rat.intCast_mul];grind
    have e2:mo (st - j)=mo sft * mo 1:=by rw[<- zc3];congr 1;omega
    rw[e2]at q
    rw[e1,zc5,show st - (j + 1)=sft by omega,Lean.Grind.Semiring.pow_succ]
    grind)
 subst hs hδ
 rw[z8V]at l1 l2 b1 b2 q
 rw[Nat.sub_self,zc4]at q
 exact⟨often,rest,c4,c5,c6,e,l1,l2,b1,b2,by rw[q];grind⟩
theorem z9u(s:Sx){n st:Nat}(hhd:seqOf hd=some (high.map .int))(hlow:seqOf lowd=some (low.map .int))(h0:0 < low.length)(hst:st=high.length + 1 - low.length)(hln:low.length<=900)(hhn:high.length<=900)(bh:Bd n high)(bl:Bd n low)(hn:n + st * (n + 1)<=50000) :
  ∃ often rest:List Int,zx [hd,lowd] s=some (.tuple [.tuple (often.map .int),.tuple (rest.map .int)],s)/\often.length=st/\rest.length < low.length/\(0 < rest.length->zc rest (rest.length - 1)≠0)/\Bd (n + st * (n + 1)) often/\Bd (n + st * (n + 1)) rest/\Po.C ((zc low (low.length - 1):Int):Rat) ^ st * zL high=zL often * zL low + zL rest:=by
 obtain⟨often,rest,c4,c5,c6,e,l1,l2,b1,b2,q⟩:=zc6 (hd:=hd) (lowd:=lowd) (high:=high) (low:=low) s hlow h0 hst (by omega) hhn bh bl hn
 have tl:(tz rest).length<=rest.length:=zeR rest
 refine⟨often,tz rest,?_,l1,by omega,fun h=>zbW h,b1,fun k=>by rw[zbV];exact b2 k,?_⟩
 ·refine z0u (n:=2) (m:=5) (G:=z0I) rfl ?_
  show z0I [.val hd,.val lowd,.non,.non,.non,.non,.non] s=_
  have a1:sParO 2 3 (eLst aNil) (oList (fVar 0)) [.val hd,.val lowd,.non,.non,.non,.non,.non] s=some (.next [.val hd,.val lowd,.val (.list []),.own (high.map .int),.non,.non,.non],s):=by
   unfold sParO
   rw[z0L (ds:=[]) (s1:=s) rfl (by decide)]
   show((oList (fVar 0) _ s).map _)=_
   rw[show oList (fVar 0) [.val hd,.val lowd,.non,.non,.non,.non,.non] s=some (high.map .int,s) by simp[oList,fVar,hhd]]
   rfl
  have a2:z0R [.val hd,.val lowd,.val (.list []),.own (high.map .int),.non,.non,.non] s=some (.next [.val hd,.val lowd,.val (.list (often.map .int)),.own (rest.map .int),c4,c5,c6],s):=by
   have v:iRevRange (f2 gAdd (f2 gSubI (f1 gLen (fVar 0)) (f1 gLen (fVar 1))) (fC (.int 1))) [.val hd,.val lowd,.val (.list []),.own (high.map .int),.non,.non,.non] s=some (rngDn st,s):=by
    have e1:f2 gAdd (f2 gSubI (f1 gLen (fVar 0)) (f1 gLen (fVar 1))) (fC (.int 1)) [.val hd,.val lowd,.val (.list []),.own (high.map .int),.non,.non,.non] s=some (.int ((high.length:Int) - (low.length:Int) + 1),s) :=
     zd (a:=.int ((high.length:Int) - (low.length:Int))) (b:=.int 1) (zd (a:=.int (high.length:Int)) (b:=.int (low.length:Int)) (z0e (a:=hd) rfl (by rw[z0O hhd,List.length_map])) (z0e (a:=lowd) rfl (by rw[z0O hlow,List.length_map])) (subI _ _)) rfl (addI _ _)
    have rk:rOk ((high.length:Int) - (low.length:Int) + 1)=true:=by
     have h1:-1000<=(high.length:Int) - (low.length:Int) + 1:=by omega
     have h2:(high.length:Int) - (low.length:Int) + 1<=1000:=by omega
     generalize (high.length:Int) - (low.length:Int) + 1=z at h1 h2
     unfold rOk
     simp only[Bool.and_eq_true,decide_eq_true_eq]
     exact⟨by omega,by omega⟩
    unfold iRevRange
    rw[e1]
    simp only[Option.bind_some,rk,if_true]
    rw[show((high.length:Int) - (low.length:Int) + 1).toNat=st by omega]
   unfold z0R sFor
   rw[v]
   exact e
  unfold z0I
  refine zm a1 (zm a2 (zm (δ1:=[.val hd,.val lowd,.val (.list (often.map .int)),.val (.list (rest.map .int)),c4,c5,c6]) (s1:=s) rfl (z04 (zN (ds:=[.tuple (often.map .int),.tuple ((tz rest).map .int)]) (z7 (z0e (a:=.list (often.map .int)) rfl rfl) (z7 (FL:=aNil) (z9 (ds:=[.int 0,.list (rest.map .int)]) rfl (z5N s rfl (by omega))) rfl)) (small2 _ _)))))
 ·rw[q]
  have:zL (tz rest)=zL rest:=Po.of fun k=>by show((zc _ k:Int):Rat)=((zc _ k:Int):Rat);rw[zbV]
  rw[this]
end
theorem z2U{k m:Nat}{t b:Int}(s:Sx)(ht:Bt k t)(hk:k<=50000)(hb:Bt m b)(hm:m<=9000)(h0:b≠0):zG [.int t,.int b] s=some (num t b,s):=by
 have hg:=Bt.gcd (a:=t) hb h0
 have gp:=z2Z (t:=t) h0
 have loop:z0X [.val (.int t),.val (.int b),.val (.int (t.natAbs:Int)),.val (.int (b.natAbs:Int)),.non] s=some (.next [.val (.int t),.val (.int b),.val (.int ((Nat.gcd t.natAbs b.natAbs:Nat):Int)),.val (.int ((0:Nat):Int)),.non],s) :=
  euclidF (fun x y=>[.val (.int t),.val (.int b),.val (.int (x:Int)),.val (.int (y:Int)),.non]) (fun x=>by simp[asB,f2,fC,fVar,gGt,gI]) (fun x y hy=>by
   simp[asB,f2,fC,fVar,gGt,gI,hy]) (fun x y hy=>by
   have h0:¬ y=0:=by omega
   simp[sPar,aCons,aNil,f2,fVar,gModI,gI,h0,z4z]) hb (by omega)
 have d1:∀ x,divOk x (Int.gcd t b:Int)=true:=fun x=>Bt.div hg (by omega) hm
 have s1:Bt 1 (sgn b):=by unfold Bt;rw[z4x];decide
 have m1:mulOk 2 (if b < 0 then 1 else 0)=true:=by split <;> decide
 have e3:(1 - 2 * (if b < 0 then 1 else 0):Int)=sgn b:=by unfold sgn;split <;> rfl
 refine z0u (n:=2) (m:=3) (G:=z0B) rfl ?_
 show z0B [.val (.int t),.val (.int b),.non,.non,.non] s=_
 unfold z0B
 refine zm (δ1:=[.val (.int t),.val (.int b),.val (.int (t.natAbs:Int)),.val (.int (b.natAbs:Int)),.non]) (s1:=s) (by simp[sPar,aCons,aNil,f1,fVar,gAbs,z8L]) (zm loop (zm (δ1:=[.val (.int t),.val (.int b),.val (.int (Int.gcd t b:Int)),.val (.int ((0:Nat):Int)),.val (.int (sgn b))]) (s1:=s) ?_ (z04 ?_)))
 ·rw[<- e3]
  simp only[sSet,f2,f1,fC,fVar,gLt,gI,gInt,gMulI,gSubI,Option.bind_some,Option.map_some,List.getElem?_cons_zero,List.getElem?_cons_succ,List.set_cons_zero,List.set_cons_succ,decide_eq_true_eq,m1,if_true]
  rfl
 ·exact zN (ds:=[.int (numT t b),.int (numB t b)]) (z7 (zd (a:=.int (sgn b * t)) (b:=.int (Int.gcd t b:Int)) (zd (a:=.int (sgn b)) (b:=.int t) rfl rfl (mulI (s1.ok ht (by omega)))) rfl (divI (d1 _))) (z7 (FL:=aNil) (zd (a:=.int (sgn b * b)) (b:=.int (Int.gcd t b:Int)) (zd (a:=.int (sgn b)) (b:=.int b) rfl rfl (mulI (s1.ok hb (by omega)))) rfl (divI (d1 _))) rfl)) (small2 _ _)
section
variable {p q:Nat} {a b:Rat} (s:Sx)
theorem ix0(r:Rat):gIx (enc r) (.int 0)=some (.int r.num):=rfl
theorem ix1(r:Rat):gIx (enc r) (.int 1)=some (.int (r.den:Int)):=rfl
theorem lplus2(ha:Sz p a)(hb:Sz q b)(h:p + q<=9000):z09 [enc a,enc b] s=some (enc (a + b),s):=by
 rw[<- z8R]
 refine z0u (n:=2) (m:=0) (G:=z3N) rfl (z04 (z9 (z7 (zd (zd (zd (a:=enc a) (b:=.int 0) rfl rfl (ix0 a)) (zd (a:=enc b) (b:=.int 1) rfl rfl (ix1 b)) (mulI (ha.1.ok hb.2 (by omega)))) (zd (zd (a:=enc b) (b:=.int 0) rfl rfl (ix0 b)) (zd (a:=enc a) (b:=.int 1) rfl rfl (ix1 a)) (mulI (hb.1.ok ha.2 (by omega)))) (addI _ _)) (z7 (FL:=aNil) (zd (zd (a:=enc a) (b:=.int 1) rfl rfl (ix1 a)) (zd (a:=enc b) (b:=.int 1) rfl rfl (ix1 b)) (mulI (ha.2.ok hb.2 (by omega)))) rfl)) ?_))
 exact z2U s (((ha.1.mul hb.2).add (hb.1.mul ha.2)).mono (m:=p + q + 1) (by omega)) (by omega) (ha.2.mul hb.2) h (Int.mul_ne_zero (zC a) (zC b))
theorem lminus2(ha:Sz p a)(hb:Sz q b)(h:p + q<=9000):z0M [enc a,enc b] s=some (enc (a - b),s):=by
 rw[<- zbD]
 refine z0u (n:=2) (m:=0) (G:=z3l) rfl (z04 (z9 (z7 (zd (zd (zd (a:=enc a) (b:=.int 0) rfl rfl (ix0 a)) (zd (a:=enc b) (b:=.int 1) rfl rfl (ix1 b)) (mulI (ha.1.ok hb.2 (by omega)))) (zd (zd (a:=enc b) (b:=.int 0) rfl rfl (ix0 b)) (zd (a:=enc a) (b:=.int 1) rfl rfl (ix1 a)) (mulI (hb.1.ok ha.2 (by omega)))) (subI _ _)) (z7 (FL:=aNil) (zd (zd (a:=enc a) (b:=.int 1) rfl rfl (ix1 a)) (zd (a:=enc b) (b:=.int 1) rfl rfl (ix1 b)) (mulI (ha.2.ok hb.2 (by omega)))) rfl)) ?_))
 exact z2U s (((ha.1.mul hb.2).sub (hb.1.mul ha.2)).mono (m:=p + q + 1) (by omega)) (by omega) (ha.2.mul hb.2) h (Int.mul_ne_zero (zC a) (zC b))
theorem ltimes2(ha:Sz p a)(hb:Sz q b)(h:p + q<=9000):z0a [enc a,enc b] s=some (enc (a * b),s):=by
 rw[<- z6r]
 refine z0u (n:=2) (m:=0) (G:=z3m) rfl (z04 (z9 (z7 (zd (zd (a:=enc a) (b:=.int 0) rfl rfl (ix0 a)) (zd (a:=enc b) (b:=.int 0) rfl rfl (ix0 b)) (mulI (ha.1.ok hb.1 (by omega)))) (z7 (FL:=aNil) (zd (zd (a:=enc a) (b:=.int 1) rfl rfl (ix1 a)) (zd (a:=enc b) (b:=.int 1) rfl rfl (ix1 b)) (mulI (ha.2.ok hb.2 (by omega)))) rfl)) ?_))
 exact z2U s (ha.1.mul hb.1) (by omega) (ha.2.mul hb.2) h (Int.mul_ne_zero (zC a) (zC b))
theorem lover2(ha:Sz p a)(hb:Sz q b)(h0:b≠0)(h:p + q<=9000):z16 [enc a,enc b] s=some (enc (a / b),s):=by
 rw[<- z6s a b h0]
 refine z0u (n:=2) (m:=0) (G:=z3O) rfl (z04 (z9 (z7 (zd (zd (a:=enc a) (b:=.int 0) rfl rfl (ix0 a)) (zd (a:=enc b) (b:=.int 1) rfl rfl (ix1 b)) (mulI (ha.1.ok hb.2 (by omega)))) (z7 (FL:=aNil) (zd (zd (a:=enc a) (b:=.int 1) rfl rfl (ix1 a)) (zd (a:=enc b) (b:=.int 0) rfl rfl (ix0 b)) (mulI (ha.2.ok hb.1 (by omega)))) rfl)) ?_))
 exact z2U s (ha.1.mul hb.2) (by omega) (ha.2.mul hb.1) h (Int.mul_ne_zero (zC a) fun z=>h0 (Rat.num_eq_zero.mp z))
end
theorem z1a{k m:Nat}{t b:Int}(s:Sx)(hor:Bt k t\/Bt k b)(hk:k<=2000)(hb:Bt m b)(hm:m<=9000)(h0:b≠0):zS [.int t,.int b] s=some (num t b,s):=by
 have hg:=Bt.gcd (a:=t) hb h0
 have gp:=z2Z (t:=t) h0
 have e:=z97 (a:=t) (b:=b) s hor hk
 have d1:∀ x,divOk x (Int.gcd t b:Int)=true:=fun x=>Bt.div hg (by omega) hm
 have d2:∀ x,divOk x (-(Int.gcd t b:Int))=true:=fun x=>Bt.div hg.neg (by omega) hm
 by_cases hn:b < 0
 ·simp[zS,mkFn,z4N,sSeq,sSet,fCall,aCons,aNil,fVar,fC,e,sIf,asB,f2,f1,gLt,gI,hn,gNeg,sRet,eTup,gDivI,d2,small2,num,numT,numB,sgn,z5v]
 ·simp[zS,mkFn,z4N,sSeq,sSet,fCall,aCons,aNil,fVar,fC,e,sIf,asB,f2,f1,gLt,gI,hn,gNeg,sRet,eTup,gDivI,d1,small2,num,numT,numB,sgn,sNext]
theorem over2{m:Nat}{a b:Rat}(s:Sx)(ha:Sz m a)(hb:Sz m b)(hm:m<=9000)(h1:Bt 2000 a.num\/Bt 2000 b.num)(h2:Bt 2000 (b.den:Int)\/Bt 2000 (a.den:Int))(h0:b≠0):z1u [enc a,enc b] s=some (enc (a / b),s):=by
 have c0:b.num≠0:=fun z=>h0 (Rat.num_eq_zero.mp z)
 have e1:zS [.int a.num,.int b.num] s=some (.tuple [.int (numT a.num b.num),.int (numB a.num b.num)],s):=z1a s h1 (by decide) hb.1 hm c0
 have e2:zS [.int (b.den:Int),.int (a.den:Int)] s=some (.tuple [.int (numT b.den a.den),.int (numB b.den a.den)],s):=z1a s h2 (by decide) ha.2 hm (zC a)
 have m1:mulOk (numT a.num b.num) (numT b.den a.den)=true:=(Bt.numT ha.1).ok (Bt.numT hb.2) (by omega)
 have m2:mulOk (numB a.num b.num) (numB b.den a.den)=true:=(Bt.numB hb.1).ok (Bt.numB ha.2) (by omega)
 obtain⟨r1,r2⟩:=z8M (a:=a.num) (b:=(a.den:Int)) (c:=(b.den:Int)) (d:=b.num) (by have:=a.den_nz;omega) c0 a.reduced (by rw[Int.gcd_comm];exact b.reduced)
 rw[<- z6s a b h0]
 unfold enc
 simp[z1u,mkFn,zaP,sSeq,sPar,sRet,fCall,aCons,aNil,f2,fVar,fC,gIx,atI0,atI1,e1,e2,eTup,gMulI,gI,m1,m2,small2]
 rw[r1,r2];rfl
theorem times2{m:Nat}{a b:Rat}(s:Sx)(ha:Sz m a)(hb:Sz m b)(hm:m<=9000)(h1:Bt 2000 a.num\/Bt 2000 (b.den:Int))(h2:Bt 2000 b.num\/Bt 2000 (a.den:Int)):z2z [enc a,enc b] s=some (enc (a * b),s):=by
 have e1:zS [.int a.num,.int (b.den:Int)] s=some (.tuple [.int (numT a.num b.den),.int (numB a.num b.den)],s):=z1a s h1 (by decide) hb.2 hm (zC b)
 have e2:zS [.int b.num,.int (a.den:Int)] s=some (.tuple [.int (numT b.num a.den),.int (numB b.num a.den)],s):=z1a s h2 (by decide) ha.2 hm (zC a)
 have m1:mulOk (numT a.num b.den) (numT b.num a.den)=true:=(Bt.numT ha.1).ok (Bt.numT hb.1) (by omega)
 have m2:mulOk (numB a.num b.den) (numB b.num a.den)=true:=(Bt.numB hb.2).ok (Bt.numB ha.2) (by omega)
 obtain⟨r1,r2⟩:=z8M (a:=a.num) (b:=(a.den:Int)) (c:=b.num) (d:=(b.den:Int)) (by have:=a.den_nz;omega) (zC b) a.reduced b.reduced
 rw[<- z6r a b]
 unfold enc
 simp[z2z,mkFn,z92,sSeq,sPar,sRet,fCall,aCons,aNil,f2,fVar,fC,gIx,atI0,atI1,e1,e2,eTup,gMulI,gI,m1,m2,small2]
 rw[r1,r2];rfl
def gcdL:List Int->Nat->Nat
 | [],g=>g
 | x::l,g=>gcdL l (Int.gcd (g:Int) x)
theorem z4Z:∀ (l:List Int) (g:Nat),(gcdL l g:Int)∣(g:Int)/\∀ x∈l,(gcdL l g:Int)∣x
 | [],g=>⟨Int.dvd_refl _,fun x hx=>nomatch hx⟩
 | y::l,g=>by
  obtain⟨h1,h2⟩:=z4Z l (Int.gcd (g:Int) y)
  refine⟨Int.dvd_trans h1 (Int.gcd_dvd_left _ _),fun x hx=>?_⟩
  rcases List.mem_cons.mp hx with rfl | hx
  ·exact Int.dvd_trans h1 (Int.gcd_dvd_right _ _)
  ·exact h2 x hx
theorem z7u{q:Int}:∀ (l:List Int) (g:Nat),q∣(g:Int)->(∀ x∈l,q∣x)->q∣(gcdL l g:Int)
 | [],g,h,_=>h
 | y::l,g,h,h'=>z7u l _ (Int.dvd_coe_gcd h (h' y List.mem_cons_self)) fun x hx=>h' x (List.mem_cons_of_mem _ hx)
theorem z3S{l:List Int}{d:D}{n:Nat}(s:Sx)(hd:seqOf d=some (l.map .int))(hb:Bd n l)(hn:n<=2000):zT [d] s=some (.int (gcdL l 0:Int),s):=by
 have loop:∀ (m:List Int) (g:Nat) (c2:Ce),(∀ x∈m,Bt n x)->∃ c2',forD (.one 2) z2i (m.map .int) [.val d,.val (.int (g:Int)),c2] s=some (.next [.val d,.val (.int (gcdL m g:Int)),c2'],s):=fun m=>by
  induction m with
  | nil=>intro g c2 _;exact⟨c2,rfl⟩
  | cons x m ih =>
   intro g c2 h
   obtain⟨c2',e⟩:=ih (Int.gcd (g:Int) x) (.val (.int x)) fun y hy=>h y (List.mem_cons_of_mem _ hy)
   exact⟨c2',z22 (δ1:=[.val d,.val (.int (g:Int)),.val (.int x)]) (δ2:=[.val d,.val (.int (Int.gcd (g:Int) x:Int)),.val (.int x)]) (s1:=s) rfl (z00 (z9 (ds:=[.int (g:Int),.int x]) rfl (z97 s (.inr (h x List.mem_cons_self)) hn))) e⟩
 obtain⟨c2',e⟩:=loop l 0 .non fun x hx=>hb.mem hx
 refine z0u (n:=1) (m:=2) (G:=z1W) rfl ?_
 unfold z1W
 refine zm (δ1:=[.val d,.val (.int 0),.non]) (s1:=s) rfl (zm (δ1:=[.val d,.val (.int (gcdL l 0:Int)),c2']) (s1:=s) ?_ rfl)
 unfold z2j sFor
 rw[show iSeq (fVar 0) [.val d,.val (.int 0),.non] s=some (l.map .int,s) by show((seqOf d).map fun xs=>(xs,s))=_;rw[hd];rfl]
 exact e
theorem z9v{b:Int}{n e:Nat}(s:Sx)(hb:Bt n b)(hn:n * e<=50000)(he:e<=1000)(hn2:n<=50000):z0z [.int b,.int (e:Int)] s=some (.int (b ^ e),s):=by
 have bp:∀ j,Bt (n * j + 1) (b ^ j):=fun j=>by
  induction j with
  | zero=>show(b ^ 0).natAbs < _;rw[Int.pow_zero];exact Nat.one_lt_two_pow (by omega)
  | succ j ih=>rw[Int.pow_succ];exact(ih.mul hb).mono (by rw[Nat.mul_succ];omega)
 obtain⟨δ',s',e1,hs,c3,hδ⟩:=z2s (T:=.one 3) (G:=z1X) (fun j δ s'=>s'=s/\∃ c3,δ=[.val (.int b),.val (.int (e:Int)),.val (.int (b ^ j)),c3]) (rng 0 e) [.val (.int b),.val (.int (e:Int)),.val (.int 1),.non] s ⟨rfl,.non,by rw[Int.pow_zero]⟩
  (fun j d δ s' hd zes=>by
   obtain⟨hs,c3,hδ⟩:=zes
   subst hs hδ
   obtain⟨hj,rfl⟩:=z8W hd
   have:n * j<=n * e:=Nat.mul_le_mul_left _ (by omega)
   refine⟨[.val (.int b),.val (.int (e:Int)),.val (.int (b ^ j)),.val (.int (j:Int))],[.val (.int b),.val (.int (e:Int)),.val (.int (b ^ (j + 1))),.val (.int (j:Int))],s',rfl,?_,rfl,_,rfl⟩
   unfold z1X sAug
   show((fVar 0 _ s').bind fun q=>(gMulI (.int (b ^ j)) q.1).map fun r=>_)=_
   rw[show fVar 0 [.val (.int b),.val (.int (e:Int)),.val (.int (b ^ j)),.val (.int (j:Int))] s'=some (.int b,s') from rfl]
   simp only[Option.bind_some,mulI ((bp j).ok hb (by omega)),Option.map_some,Int.pow_succ]
   rfl)
 subst hs hδ
 rw[z3R]at e1
 refine z0u (n:=2) (m:=2) (G:=z34) rfl ?_
 unfold z34
 refine zm (δ1:=[.val (.int b),.val (.int (e:Int)),.val (.int 1),.non]) (s1:=s') rfl (zm (δ1:=[.val (.int b),.val (.int (e:Int)),.val (.int (b ^ e)),c3]) (s1:=s') ?_ rfl)
 unfold z3k sFor
 rw[z1E (n:=e) rfl he]
 exact e1
theorem szZ{n:Nat}{z:Int}(h:Bt n z)(hn:0 < n):Sz n (z:Rat):=⟨h,by show Bt n 1;exact Nat.one_lt_two_pow (by omega)⟩
theorem z9w{l:List Int}{d:D}{c:Rat}{n m:Nat}(s:Sx)(hd:seqOf d=some (l.map .int))(hb:Bd n l)(hn:n<=2000)(hn0:0 < n)(hc:Sz m c)(hnm:n<=m)(hm:m<=9000)(hl:l.length<=1000):z2A [d,enc c] s=some (.tuple ((l.map fun(z:Int)=>(z:Rat) * c).map enc),s):=by
 have hcc:=z0c (T:=.one 0) (Ft:=fTrue) (F:=fCall z2z (aCons (eTup (aCons (fVar 0) (aCons (fC (.int 1)) aNil))) (aCons (fVar 1) aNil))) (δc:=[.non,.val (enc c)]) (f:=fun d=>match d with | .int z=>enc ((z:Rat) * c) | _=>.none) (s:=s) (l.map .int) fun d hd=>by
  obtain⟨z,hz,rfl⟩:=List.mem_map.mp hd
  have bz:=hb.mem hz
  exact⟨[.val (.int z),.val (enc c)],rfl,rfl,z9 (ds:=[enc (z:Rat),enc c]) (z7 (zN (ds:=[.int z,.int 1]) rfl (small2 _ _)) rfl) (times2 s ((szZ bz hn0).mono hnm) hc hm (.inl (bz.mono hn)) (.inr (by show Bt 2000 1;exact(Bt.lit (n:=1) (by decide)).mono (by decide))))⟩
 refine z0u (n:=2) (m:=0) (G:=z94) rfl (z04 (z0e (a:=.list ((l.map fun(z:Int)=>(z:Rat) * c).map enc)) (z38 (ds:=l.map .int) (s1:=s) ?_ (by rw[List.length_map];exact hl) ?_) rfl))
 ·show((seqOf d).map fun xs=>(xs,s))=_;rw[hd];rfl
 ·refine hcc.trans ?_
  rw[List.map_map,List.map_map];rfl
theorem zc7{a b:Nat}(h:b<=a):gSubI (.int (a:Int)) (.int (b:Int))=some (.int ((a - b:Nat):Int)):=by
 simp only[gSubI,gI,if_true];congr 2;omega
theorem z7v(xs:List D)(n:Nat):L3.cutD xs none (some (n:Int))=xs.take n:=by
 unfold L3.cutD
 rw[HT.sIx_none,HT.sIx_nat,List.drop_zero,Nat.sub_zero]
 by_cases h:n<=xs.length
 ·rw[Nat.min_eq_left h]
 ·rw[Nat.min_eq_right (by omega),List.take_of_length_le (Nat.le_refl _),List.take_of_length_le (by omega)]
theorem z50(n i:Nat):co (List.replicate n (0:Rat)) i=0:=by
 unfold co
 rw[List.getD_eq_getElem?_getD,List.getElem?_replicate]
 split <;> rfl
theorem cv0(n N k:Nat)(g:Nat->Rat):cv N (co (List.replicate n (0:Rat))) g k=0:=by
 induction N with
 | zero=>rfl
 | succ N ih=>rw[cv,ih,z50];grind
theorem zdh(l:List Rat)(g:Nat->Rat)(k:Nat):cv (trR l).length (co (trR l)) g k=cv l.length (co l) g k:=by
 rw[show co (trR l)=co l from funext (z4g l)]
 refine(z5C (fun i hi=>?_) ?_).symm
 ·rw[<- z4g];exact z02 hi
 ·rw[z4H];exact z5D _ _
section
variable {od othd:D} {one other:List Rat} {P Q R:Nat}
theorem z6H(s:Sx){rest:List Rat}{c3:Ce}{sft:Nat}{w:Rat}{c6 c7:Ce}(ho:seqOf othd=some (other.map enc))(hlen:sft + other.length<=rest.length)
  (hR:∀ k,Sz R (co rest k)) (hw:Sz P w) (hO:∀ k,Sz Q (co other k)) (hP:∀ k,Sz R (w * co other k)) (h1:P + Q<=9000) (h2:R + R<=9000) :
  ∃ (rest':List Rat) (c6' c7':Ce),z17 [.val od,.val othd,.own (rest.map enc),c3,.val (.int (sft:Int)),.val (enc w),c6,c7] s=some (.next [.val od,.val othd,.own (rest'.map enc),c3,.val (.int (sft:Int)),.val (enc w),c6',c7'],s) /\
   rest'.length=rest.length/\∀ k,co rest' k=co rest k - w * sh sft (co other) k:=by
 obtain⟨δ',s',e,hs,rest',a,b,hδ,hl,hc⟩:=z2s (T:=.tup [6,7]) (G:=z20) (fun j δ s'=>s'=s/\∃ (rest':List Rat) (a b:Ce),δ=[.val od,.val othd,.own (rest'.map enc),c3,.val (.int (sft:Int)),.val (enc w),a,b]/\rest'.length=rest.length/\∀ k,co rest' k=if sft<=k/\k < sft + j then co rest k - w * co other (k - sft) else co rest k)
  (enumD (other.map enc)) [.val od,.val othd,.own (rest.map enc),c3,.val (.int (sft:Int)),.val (enc w),c6,c7] s ⟨rfl,rest,c6,c7,rfl,rfl,fun k=>by rw[if_neg (by omega)]⟩ (fun j d δ s' hd zet=>by
   obtain⟨hs,rest',a,b,hδ,hl,hc⟩:=zet
   subst hs hδ
   obtain⟨x,hx,rfl⟩:=z3I hd
   obtain⟨hj,rfl⟩:=z2Q hx
   have hb:sft + j < rest'.length:=by omega
   have hcj:co rest' (sft + j)=co rest (sft + j):=by rw[hc,if_neg (by omega)]
   refine⟨[.val od,.val othd,.own (rest'.map enc),c3,.val (.int (sft:Int)),.val (enc w),.val (.int (j:Int)),.val (enc (co other j))],[.val od,.val othd,.own ((rest'.set (sft + j) (co rest' (sft + j) - w * co other j)).map enc),c3,.val (.int (sft:Int)),.val (enc w),.val (.int (j:Int)),.val (enc (co other j))],s',rfl,?_,rfl,_,_,_,rfl,by rw[List.length_set,hl],?_⟩
   ·exact z4I (v:=enc (co rest' (sft + j) - w * co other j)) (k:=.int ((sft + j:Nat):Int)) (z9 (ds:=[enc (co rest' (sft + j)),enc (w * co other j)]) (z7 (zd (a:=.list (rest'.map enc)) (b:=.int ((sft + j:Nat):Int)) rfl (zd rfl rfl (add_int _ _)) (za4 hb)) (z7 (FL:=aNil) (z9 (ds:=[enc w,enc (co other j)]) rfl (ltimes2 s' hw (hO j) h1)) rfl)) (lminus2 s' (by rw[hcj];exact hR _) (hP j) h2)) (zd rfl rfl (add_int _ _)) rfl (z6u hb)
   ·intro k
    rw[z5B hb]
    by_cases hk:k=sft + j
    ·subst hk
     rw[if_pos rfl,if_pos (by omega),hcj,show sft + j - sft=j by omega]
    ·rw[if_neg hk,hc]
     by_cases h2:sft<=k/\k < sft + j
     ·rw[if_pos h2,if_pos (by omega)]
     ·rw[if_neg h2,if_neg (by omega)])
 subst hs hδ
 refine⟨rest',a,b,?_,hl,fun k=>?_⟩
 ·unfold z17 sFor
  rw[show iEnumF (fVar 1) [.val od,.val othd,.own (rest.map enc),c3,.val (.int (sft:Int)),.val (enc w),c6,c7] s'=some (enumD (other.map enc),s') by show((seqOf othd).map fun xs=>(enumD xs,s'))=_;rw[ho];rfl]
  exact e
 ·rw[hc,z3J,List.length_map]
  unfold sh
  by_cases h1:sft<=k
  ·rw[if_pos h1]
   by_cases h2:k < sft + other.length
   ·rw[if_pos ⟨h1,h2⟩]
   ·rw[if_neg (by omega),z02 (l:=other) (by omega)];grind
  ·rw[if_neg (by omega),if_neg h1];grind
theorem z6I(s:Sx)(I:Nat->(Nat->Rat)->Prop)(hod:seqOf od=some (one.map enc))(ho:seqOf othd=some (other.map enc))(h0:0 < other.length)(hl:co other (other.length - 1)≠0)(hone:one.length<=900)(hoth:other.length<=900)
  (hO:∀ k,Sz Q (co other k)) (h1:P + Q<=9000) (h2:R + R<=9000) (h3:R + Q<=9000) (i0:I 0 (co one)) (iR:∀ j r,I j r->∀ k,Sz R (r k))
  (iS:∀ j r,j < one.length + 1 - other.length->I j r->Sz P (r (one.length - 1 - j) / co other (other.length - 1))/\(∀ k,Sz R (r (one.length - 1 - j) / co other (other.length - 1) * co other k))/\I (j + 1) (fun k=>r k - r (one.length - 1 - j) / co other (other.length - 1) * sh (one.length - other.length - j) (co other) k)) :
  ∃ q r:List Rat,z01 [od,othd] s=some (.tuple [.tuple (q.map enc),.tuple (r.map enc)],s)/\Trim q/\Trim r/\r.length < other.length/\(∀ k,co one k=cv q.length (co q) (co other) k + co r k):=by
 generalize hst:one.length + 1 - other.length=st at *
 obtain⟨δ',s',e,hs,rest,often,c4,c5,c6,c7,hδ,l1,l2,heq,hz,_,y1,y2⟩:=z2s (T:=.one 4) (G:=z18) (fun j δ s'=>s'=s/\∃ (rest often:List Rat) (c4 c5 c6 c7:Ce),δ=[.val od,.val othd,.own (rest.map enc),.own (often.map enc),c4,c5,c6,c7] /\
   often.length=st/\rest.length=one.length/\(∀ k,co one k=co rest k + cv st (co often) (co other) k)/\(∀ k,st - j + other.length - 1<=k->co rest k=0)/\(∀ k,k < st - j->co often k=0)/\I j (co rest)/\∀ k,Sz (P + 1) (co often k))
  (rngD ((st:Int) - 1) st) [.val od,.val othd,.own (one.map enc),.own ((List.replicate st (0:Rat)).map enc),.non,.non,.non,.non] s
  ⟨rfl,one,List.replicate st 0,.non,.non,.non,.non,rfl,List.length_replicate,rfl,fun k=>by rw[cv0];grind,fun k hk=>z02 (by omega),fun k _=>z50 _ k,i0,fun k=>by rw[z50];exact sz_zero.mono (by omega)⟩
  (fun j d δ s' hd zeu=>by
   obtain⟨hs,rest,often,c4,c5,c6,c7,hδ,l1,l2,heq,hz,hof,y1,y2⟩:=zeu
   subst hs hδ
   obtain⟨hj,rfl⟩:j < st/\d=.int ((st - 1 - j:Nat):Int):=by
    unfold rngD at hd
    rw[List.getElem?_map]at hd
    by_cases hj:j < st
    ·rw[List.getElem?_range hj]at hd
     simp only[Option.map_some,Option.some.injEq]at hd
     exact⟨hj,by rw[<- hd];congr 1;omega⟩
    ·rw[List.getElem?_eq_none (by simpa using hj)]at hd;simp at hd
   obtain⟨sw,sp,y3⟩:=iS j _ hj y1
   rw[show one.length - other.length - j=st - 1 - j by omega]at y3
   generalize hS:st - 1 - j=sft at *
   have hix:one.length - 1 - j=sft + other.length - 1:=by omega
   rw[hix]at sw sp y3
   have ix:sft + other.length - 1 < rest.length:=by omega
   generalize hw:co rest (sft + other.length - 1) / co other (other.length - 1)=w at *
   obtain⟨rest',c6',c7',e3,l3,hc⟩:=z6H (od:=od) (othd:=othd) (other:=other) s' (rest:=rest) (c3:=.own ((often.set sft w).map enc)) (sft:=sft) (w:=w) (c6:=c6) (c7:=c7) ho (by omega) (iR j _ y1) sw hO sp h1 h2
   refine⟨[.val od,.val othd,.own (rest.map enc),.own (often.map enc),.val (.int (sft:Int)),c5,c6,c7],[.val od,.val othd,.own (rest'.map enc),.own ((often.set sft w).map enc),.val (.int (sft:Int)),.val (enc w),c6',c7'],s',rfl,?_,rfl,rest',often.set sft w,_,_,_,_,rfl,by rw[List.length_set,l1],by rw[l3,l2],?_,?_,?_,?_,?_⟩
   ·have hle2:gLen othd=some (.int (other.length:Int)):=by rw[z0O ho,List.length_map]
    unfold z18
    refine zm (z00 (v:=enc w) (z9 (ds:=[enc (co rest (sft + other.length - 1)),enc (co other (other.length - 1))]) (z7 (zd (a:=.list (rest.map enc)) (b:=.int ((sft + other.length - 1:Nat):Int)) rfl (zd (zd rfl (z0e (a:=othd) rfl hle2) (add_int _ _)) rfl (z6D (by omega))) (za4 ix)) (z7 (FL:=aNil) (zd (a:=othd) (b:=.int (-1)) rfl rfl (by rw[ix_seq ho,zbE h0])) rfl)) (by rw[<- hw];exact lover2 s' (iR j _ y1 _) (hO _) hl h3))) (zm (z4I (v:=enc w) (k:=.int (sft:Int)) (s1:=s') (s2:=s') (xs:=often.map enc) rfl rfl rfl (z6u (by omega))) e3)
   ·intro k
    rw[heq k,hc k,zcZ (q:=co often) (i:=sft) (w:=w) (by omega) (z5B (by omega)),hof sft (by omega)]
    grind
   ·intro k hk
    rw[hc]
    by_cases hk2:k=sft + other.length - 1
    ·have:sh sft (co other) k=co other (other.length - 1):=by unfold sh;rw[if_pos (by omega),hk2,show sft + other.length - 1 - sft=other.length - 1 by omega]
     rw[this,hk2,<- hw]
     generalize co rest (sft + other.length - 1)=x
     generalize co other (other.length - 1)=y at hl
     grind
    ·rw[hz k (by omega)]
     have:sh sft (co other) k=0:=by unfold sh;rw[if_pos (by omega),z02 (by omega)]
     rw[this];grind
   ·intro k hk
    rw[z5B (by omega),if_neg (by omega)]
    exact hof k (by omega)
   ·rw[show co rest'=fun k=>co rest k - w * sh sft (co other) k from funext hc]
    exact y3
   ·intro k
    rw[z5B (by omega)]
    split
    ·exact sw.mono (by omega)
    ·exact y2 k)
 subst hs hδ
 have hrl:(rngD ((st:Int) - 1) st).length=st:=by simp[rngD]
 rw[hrl]at hz y1
 have hz0:∀ k,other.length - 1<=k->co rest k=0:=fun k hk=>hz k (by omega)
 have t1:=z1j (n:=P + 1) (row:=.list (often.map enc)) s' rfl (z4J y2) (by rw[List.length_map];omega)
 have t2:=z1j (n:=R + 1) (row:=.list ((rest.take (other.length - 1)).map enc)) s' rfl (z4J fun k=>by
  rw[z6t]
  split
  ·exact(iR _ _ y1 k).mono (by omega)
  ·exact sz_zero.mono (by omega)) (by rw[List.length_map,List.length_take];omega)
 rw[z3H]at t1 t2
 have tk:∀ k,co (rest.take (other.length - 1)) k=co rest k:=fun k=>by
  rw[z6t]
  split
  ·rfl
  ·rw[hz0 k (by omega)]
 refine⟨trR often,trR (rest.take (other.length - 1)),?_,z3w _,z3w _,?_,?_⟩
 ·refine z0u (n:=2) (m:=6) (G:=z0Y) rfl ?_
  show z0Y [.val od,.val othd,.non,.non,.non,.non,.non,.non] s'=_
  have b1:gLen od=some (.int (one.length:Int)):=by rw[z0O hod,List.length_map]
  have b2:gLen othd=some (.int (other.length:Int)):=by rw[z0O ho,List.length_map]
  have a1:sSetO 2 (oList (fVar 0)) [.val od,.val othd,.non,.non,.non,.non,.non,.non] s'=some (.next [.val od,.val othd,.own (one.map enc),.non,.non,.non,.non,.non],s'):=by simp[sSetO,oList,fVar,hod]
  have v1:gMax (.int 0) (.int ((one.length:Int) - (other.length:Int) + 1))=some (.int (st:Int)):=by
   have:(if (one.length:Int) - (other.length:Int) + 1 > (0:Int) then (one.length:Int) - (other.length:Int) + 1 else (0:Int))=(st:Int):=by split <;> omega
   simp only[gMax,gI,if_true,this]
  have vd:∀ c2 c3,f2 gSubI (f1 gLen (fVar 0)) (f1 gLen (fVar 1)) [.val od,.val othd,c2,c3,.non,.non,.non,.non] s'=some (.int ((one.length:Int) - (other.length:Int)),s'):=fun c2 c3=>zd (a:=.int (one.length:Int)) (b:=.int (other.length:Int)) (z0e (a:=od) rfl b1) (z0e (a:=othd) rfl b2) (subI _ _)
  have a3:sSetO 3 (o2 lRep (eLst (aCons (eTup (aCons (fC (.int 0)) (aCons (fC (.int 1)) aNil))) aNil)) (f2 gMax (fC (.int 0)) (f2 gAdd (f2 gSubI (f1 gLen (fVar 0)) (f1 gLen (fVar 1))) (fC (.int 1))))) [.val od,.val othd,.own (one.map enc),.non,.non,.non,.non,.non] s'=some (.next [.val od,.val othd,.own (one.map enc),.own ((List.replicate st (0:Rat)).map enc),.non,.non,.non,.non],s'):=by
   rw[List.map_replicate,z4F]
   exact z21 (zaQ (z0L (ds:=[zD]) (z7 (FL:=aNil) (zN (ds:=[.int 0,.int 1]) rfl (small2 _ _)) rfl) (by decide)) (zd (a:=.int 0) rfl (zd (vd _ _) rfl (addI _ _)) v1) (z6C (by omega)))
  have a4:z19 [.val od,.val othd,.own (one.map enc),.own ((List.replicate st (0:Rat)).map enc),.non,.non,.non,.non] s'=some (.next [.val od,.val othd,.own (rest.map enc),.own (often.map enc),c4,c5,c6,c7],s'):=by
   have rk:(rOk ((one.length:Int) - (other.length:Int)) && rOk (-1))=true:=by
    have h1:-1000<=(one.length:Int) - (other.length:Int):=by omega
    have h2:(one.length:Int) - (other.length:Int)<=1000:=by omega
    generalize (one.length:Int) - (other.length:Int)=z at h1 h2
    unfold rOk
    simp only[Bool.and_eq_true,decide_eq_true_eq]
    exact⟨⟨by omega,by omega⟩,by decide,by decide⟩
   have v:iRangeD (f2 gSubI (f1 gLen (fVar 0)) (f1 gLen (fVar 1))) (f1 gNeg (fC (.int 1))) (f1 gNeg (fC (.int 1))) [.val od,.val othd,.own (one.map enc),.own ((List.replicate st (0:Rat)).map enc),.non,.non,.non,.non] s'=some (rngD ((st:Int) - 1) st,s'):=by
    unfold iRangeD
    rw[vd]
    show(if (rOk ((one.length:Int) - (other.length:Int)) && rOk (-1))=true then some (rngD ((one.length:Int) - (other.length:Int)) ((one.length:Int) - (other.length:Int) - -1).toNat,s') else none)=_
    rw[if_pos rk,show((one.length:Int) - (other.length:Int) - -1).toNat=st by omega]
    by_cases z:st=0
    ·rw[z];rfl
    ·rw[show(one.length:Int) - (other.length:Int)=(st:Int) - 1 by omega]
   unfold z19 sFor
   rw[v]
   exact e
  have fs:fSl (fVar 2) pNo (pInt (f2 gSubI (f1 gLen (fVar 1)) (fC (.int 1)))) [.val od,.val othd,.val (.list (rest.map enc)),.val (.list (often.map enc)),c4,c5,c6,c7] s'=some (.list ((rest.take (other.length - 1)).map enc),s'):=by
   have e1:f2 gSubI (f1 gLen (fVar 1)) (fC (.int 1)) [.val od,.val othd,.val (.list (rest.map enc)),.val (.list (often.map enc)),c4,c5,c6,c7] s'=some (.int ((other.length - 1:Nat):Int),s'):=zd (a:=.int (other.length:Int)) (b:=.int 1) (z0e (a:=othd) rfl b2) rfl (z6D h0)
   show((f2 gSubI (f1 gLen (fVar 1)) (fC (.int 1)) [.val od,.val othd,.val (.list (rest.map enc)),.val (.list (often.map enc)),c4,c5,c6,c7] s').bind fun p=>match p.1 with | .int i=>some (some i,p.2) | _=>none).bind (fun h=>(gSlD (.list (rest.map enc)) none h.1).map fun d=>(d,h.2))=_
   rw[e1,List.map_take,<- z7v];rfl
  unfold z0Y
  exact zm a1 (zm a3 (zm a4 (zm (δ1:=[.val od,.val othd,.val (.list (rest.map enc)),.own (often.map enc),c4,c5,c6,c7]) (s1:=s') rfl (zm (δ1:=[.val od,.val othd,.val (.list (rest.map enc)),.val (.list (often.map enc)),c4,c5,c6,c7]) (s1:=s') rfl (z04 (zN (ds:=[.tuple ((trR often).map enc),.tuple ((trR (rest.take (other.length - 1))).map enc)]) (z7 (z9 (ds:=[.list (often.map enc)]) rfl t1) (z7 (FL:=aNil) (z9 (ds:=[.list ((rest.take (other.length - 1)).map enc)]) (z7 (FL:=aNil) fs rfl) t2) rfl)) (small2 _ _)))))))
 ·rw[z4H]
  have:=z5D (rest.take (other.length - 1)) (rest.take (other.length - 1)).length
  rw[List.length_take]at this ⊢
  omega
 ·intro k
  rw[heq k,zdh,z4g,tk,l1]
  grind
end
section
variable {ad bd:D} {a b:List Rat} {P Q R:Nat}
theorem z6J(s:Sx){found:List Rat}{i:Nat}{w:Rat}{c5 c6:Ce}(hb:seqOf bd=some (b.map enc))(hlen:i + b.length<=found.length)(hR:∀ k,Sz R (co found k))(hw:Sz P w)(hO:∀ k,Sz Q (co b k))(hP:∀ k,Sz R (w * co b k))(h1:P + Q<=9000)(h2:R + R<=9000) :
  ∃ (found':List Rat) (c5' c6':Ce),z0S [.val ad,.val bd,.own (found.map enc),.val (.int (i:Int)),.val (enc w),c5,c6] s=some (.next [.val ad,.val bd,.own (found'.map enc),.val (.int (i:Int)),.val (enc w),c5',c6'],s) /\
   found'.length=found.length/\∀ k,co found' k=co found k + w * sh i (co b) k:=by
 obtain⟨δ',s',e,hs,found',x,y,hδ,hl,hc⟩:=z2s (T:=.tup [5,6]) (G:=z1M) (fun j δ s'=>s'=s/\∃ (found':List Rat) (x y:Ce),δ=[.val ad,.val bd,.own (found'.map enc),.val (.int (i:Int)),.val (enc w),x,y]/\found'.length=found.length/\∀ k,co found' k=if i<=k/\k < i + j then co found k + w * co b (k - i) else co found k)
  (enumD (b.map enc)) [.val ad,.val bd,.own (found.map enc),.val (.int (i:Int)),.val (enc w),c5,c6] s ⟨rfl,found,c5,c6,rfl,rfl,fun k=>by rw[if_neg (by omega)]⟩ (fun j d δ s' hd zev=>by
   obtain⟨hs,found',x,y,hδ,hl,hc⟩:=zev
   subst hs hδ
   obtain⟨x,hx,rfl⟩:=z3I hd
   obtain⟨hj,rfl⟩:=z2Q hx
   have hbd:i + j < found'.length:=by omega
   have hcj:co found' (i + j)=co found (i + j):=by rw[hc,if_neg (by omega)]
   refine⟨[.val ad,.val bd,.own (found'.map enc),.val (.int (i:Int)),.val (enc w),.val (.int (j:Int)),.val (enc (co b j))],[.val ad,.val bd,.own ((found'.set (i + j) (co found' (i + j) + w * co b j)).map enc),.val (.int (i:Int)),.val (enc w),.val (.int (j:Int)),.val (enc (co b j))],s',rfl,?_,rfl,_,_,_,rfl,by rw[List.length_set,hl],?_⟩
   ·exact z4I (v:=enc (co found' (i + j) + w * co b j)) (k:=.int ((i + j:Nat):Int)) (z9 (ds:=[enc (co found' (i + j)),enc (w * co b j)]) (z7 (zd (a:=.list (found'.map enc)) (b:=.int ((i + j:Nat):Int)) rfl (zd rfl rfl (add_int _ _)) (za4 hbd)) (z7 (FL:=aNil) (z9 (ds:=[enc w,enc (co b j)]) rfl (ltimes2 s' hw (hO j) h1)) rfl)) (lplus2 s' (by rw[hcj];exact hR _) (hP j) h2)) (zd rfl rfl (add_int _ _)) rfl (z6u hbd)
   ·intro k
    rw[z5B hbd]
    by_cases hk:k=i + j
    ·subst hk
     rw[if_pos rfl,if_pos (by omega),hcj,show i + j - i=j by omega]
    ·rw[if_neg hk,hc]
     by_cases h2:i<=k/\k < i + j
     ·rw[if_pos h2,if_pos (by omega)]
     ·rw[if_neg h2,if_neg (by omega)])
 subst hs hδ
 refine⟨found',x,y,?_,hl,fun k=>?_⟩
 ·unfold z0S sFor
  rw[show iEnumF (fVar 1) [.val ad,.val bd,.own (found.map enc),.val (.int (i:Int)),.val (enc w),c5,c6] s'=some (enumD (b.map enc),s') by show((seqOf bd).map fun xs=>(enumD xs,s'))=_;rw[hb];rfl]
  exact e
 ·rw[hc,z3J,List.length_map]
  unfold sh
  by_cases h1:i<=k
  ·rw[if_pos h1]
   by_cases h2:k < i + b.length
   ·rw[if_pos ⟨h1,h2⟩]
   ·rw[if_neg (by omega),z02 (l:=b) (by omega)];grind
  ·rw[if_neg (by omega),if_neg h1];grind
theorem z5Q(s:Sx)(ha:seqOf ad=some (a.map enc))(hb:seqOf bd=some (b.map enc))(hla:a.length<=400)(hlb:b.length<=400)(sa:∀ k,Sz P (co a k))(sb:∀ k,Sz Q (co b k))(sc:∀ i k,Sz R (cv i (co a) (co b) k))(sp:∀ i k,Sz R (co a i * co b k))(h1:P + Q<=9000)(h2:R + R<=9000) :
  ∃ p:List Rat,zp [ad,bd] s=some (.tuple (p.map enc),s)/\Trim p/\p.length<=a.length + b.length - 1/\(∀ k,co p k=cv a.length (co a) (co b) k):=by
 obtain⟨δ',s',e,hs,found,x3,x4,x5,x6,hδ,hl,hc⟩:=z2s (T:=.tup [3,4]) (G:=z1N) (fun i δ s'=>s'=s/\∃ (found:List Rat) (x3 x4 x5 x6:Ce),δ=[.val ad,.val bd,.own (found.map enc),x3,x4,x5,x6]/\found.length=a.length + b.length - 1/\∀ k,co found k=cv i (co a) (co b) k)
  (enumD (a.map enc)) [.val ad,.val bd,.own ((List.replicate (a.length + b.length - 1) (0:Rat)).map enc),.non,.non,.non,.non] s ⟨rfl,_,.non,.non,.non,.non,rfl,List.length_replicate,fun k=>z50 _ k⟩ (fun i d δ s' hd zew=>by
   obtain⟨hs,found,x3,x4,x5,x6,hδ,hl,hc⟩:=zew
   subst hs hδ
   obtain⟨x,hx,rfl⟩:=z3I hd
   obtain⟨hi,rfl⟩:=z2Q hx
   obtain⟨found',y5,y6,e1,l1,hc1⟩:=z6J (ad:=ad) (bd:=bd) (b:=b) s' (found:=found) (i:=i) (w:=co a i) (c5:=x5) (c6:=x6) hb (by omega) (fun k=>by rw[hc];exact sc i k) (sa i) sb (sp i) h1 h2
   exact⟨[.val ad,.val bd,.own (found.map enc),.val (.int (i:Int)),.val (enc (co a i)),x5,x6],_,s',rfl,e1,rfl,found',_,_,_,_,rfl,by rw[l1,hl],fun k=>by rw[hc1,hc,cv]⟩)
 subst hs hδ
 rw[z3J,List.length_map]at hc
 have t1:=z1j (n:=R) (row:=.list (found.map enc)) s' rfl (z4J fun k=>by rw[hc];exact sc _ k) (by rw[List.length_map];omega)
 rw[z3H]at t1
 refine⟨trR found,?_,z3w _,by rw[z4H,<- hl];exact z5D _ _,fun k=>by rw[z4g,hc]⟩
 refine z0u (n:=2) (m:=5) (G:=z0J) rfl ?_
 show z0J [.val ad,.val bd,.non,.non,.non,.non,.non] s'=_
 have v1:gMax (.int 0) (.int ((a.length:Int) + (b.length:Int) - 1))=some (.int ((a.length + b.length - 1:Nat):Int)):=by
  have:(if (a.length:Int) + (b.length:Int) - 1 > (0:Int) then (a.length:Int) + (b.length:Int) - 1 else (0:Int))=((a.length + b.length - 1:Nat):Int):=by split <;> omega
  simp only[gMax,gI,if_true,this]
 have a1:sSetO 2 (o2 lRep (eLst (aCons (eTup (aCons (fC (.int 0)) (aCons (fC (.int 1)) aNil))) aNil)) (f2 gMax (fC (.int 0)) (f2 gSubI (f2 gAdd (f1 gLen (fVar 0)) (f1 gLen (fVar 1))) (fC (.int 1))))) [.val ad,.val bd,.non,.non,.non,.non,.non] s'=some (.next [.val ad,.val bd,.own ((List.replicate (a.length + b.length - 1) (0:Rat)).map enc),.non,.non,.non,.non],s'):=by
  rw[List.map_replicate,z4F]
  exact z21 (zaQ (z0L (ds:=[zD]) (z7 (FL:=aNil) (zN (ds:=[.int 0,.int 1]) rfl (small2 _ _)) rfl) (by decide)) (zd (a:=.int 0) rfl (zd (a:=.int ((a.length:Int) + (b.length:Int))) (b:=.int 1) (zd (a:=.int (a.length:Int)) (b:=.int (b.length:Int)) (z0e (a:=ad) rfl (by rw[z0O ha,List.length_map])) (z0e (a:=bd) rfl (by rw[z0O hb,List.length_map])) (addI _ _)) rfl (subI _ _)) v1) (z6C (by omega)))
 have a2:z0T [.val ad,.val bd,.own ((List.replicate (a.length + b.length - 1) (0:Rat)).map enc),.non,.non,.non,.non] s'=some (.next [.val ad,.val bd,.own (found.map enc),x3,x4,x5,x6],s'):=by
  unfold z0T sFor
  rw[show iEnumF (fVar 0) [.val ad,.val bd,.own ((List.replicate (a.length + b.length - 1) (0:Rat)).map enc),.non,.non,.non,.non] s'=some (enumD (a.map enc),s') by show((seqOf ad).map fun xs=>(enumD xs,s'))=_;rw[ha];rfl]
  exact e
 unfold z0J
 exact zm a1 (zm a2 (zm (δ1:=[.val ad,.val bd,.val (.list (found.map enc)),x3,x4,x5,x6]) (s1:=s') rfl (z04 (z9 (ds:=[.list (found.map enc)]) rfl t1))))
def padR(l:List Rat)(m:Nat):List Rat:=l++List.replicate (m - l.length) 0
theorem z7w{l:List Rat}{m:Nat}(h:l.length<=m):(padR l m).length=m:=by unfold padR;rw[List.length_append,List.length_replicate];omega
theorem z51(l:List Rat)(m k:Nat):co (padR l m) k=co l k:=by
 unfold padR co
 rw[List.getD_eq_getElem?_getD,List.getD_eq_getElem?_getD]
 by_cases h:k < l.length
 ·rw[List.getElem?_append_left h]
 ·rw[List.getElem?_append_right (by omega),List.getElem?_replicate,List.getElem?_eq_none (by omega)]
  split <;> rfl
theorem zan(s:Sx)(ha:IsSeq ad (a.map enc))(hb:IsSeq bd (b.map enc))(hla:a.length<=400)(hlb:b.length<=400)(sa:∀ k,Sz P (co a k))(sb:∀ k,Sz Q (co b k))(h1:P + Q<=9000) :
  ∃ p:List Rat,z0b [ad,bd] s=some (.tuple (p.map enc),s)/\Trim p/\∀ k,co p k=co a k + co b k:=by
 generalize hm:max a.length b.length=m
 have la:=z7w (l:=a) (m:=m) (by omega)
 have lb:=z7w (l:=b) (m:=m) (by omega)
 have v1:gMax (.int (a.length:Int)) (.int (b.length:Int))=some (.int (m:Int)):=by
  have:(if (b.length:Int) > (a.length:Int) then (b.length:Int) else (a.length:Int))=(m:Int):=by split <;> omega
  simp only[gMax,gI,if_true,this]
 have one:∀ {xd:D} {x:List Rat} (δ':Ce),IsSeq xd (x.map enc)->x.length<=m->f2 gAdd (f1 gList (fVar 0)) (f2 gMulA (eLst (aCons (eTup (aCons (fC (.int 0)) (aCons (fC (.int 1)) aNil))) aNil)) (f2 gSubI (fVar 1) (f1 gLen (fVar 0)))) [.val xd,.val (.int (m:Int))] s=some (.list ((padR x m).map enc),s):=fun{xd x} _ hx hl=>by
  refine zd (a:=.list (x.map enc)) (b:=.list ((List.replicate (m - x.length) (0:Rat)).map enc)) (z0e (a:=xd) rfl hx.lst) (zd (a:=.list [zD]) (b:=.int ((m - x.length:Nat):Int)) (z0L (ds:=[zD]) (z7 (FL:=aNil) (zN (ds:=[.int 0,.int 1]) rfl (small2 _ _)) rfl) (by decide)) (zd (a:=.int (m:Int)) (b:=.int (x.length:Int)) rfl (z0e (a:=xd) rfl (by rw[z0O hx.seq,List.length_map])) (zc7 hl)) (by rw[List.map_replicate,z4F];exact zag (by omega))) ?_
  unfold padR
  rw[List.map_append]
  exact catL (by rw[List.length_map,List.length_map,List.length_replicate];omega)
 have c1:compD (.one 0) fTrue (f2 gAdd (f1 gList (fVar 0)) (f2 gMulA (eLst (aCons (eTup (aCons (fC (.int 0)) (aCons (fC (.int 1)) aNil))) aNil)) (f2 gSubI (fVar 1) (f1 gLen (fVar 0))))) [.non,.val (.int (m:Int))] [ad,bd] s=some ([.list ((padR a m).map enc),.list ((padR b m).map enc)],s):=by
  have o1:=one (.non) ha (by omega)
  have o2:=one (.non) hb (by omega)
  simp only[compD,Tgt.run,List.set_cons_zero,fTrue,Option.bind_some,o1,o2,Option.map_some,if_true]
 have hz:∀ (x y:List Rat),(((x.map enc).zip (y.map enc)).map fun z=>PyData.tuple [z.1,z.2])=(x.zip y).map fun z=>.tuple [enc z.1,enc z.2]:=fun x=>by
  induction x with
  | nil=>intro y;rfl
  | cons p x ih=>intro y;cases y with
   | nil=>rfl
   | cons q y=>simp[ih y]
 have c2:=z0c (T:=.tup [0,1]) (Ft:=fTrue) (F:=fCall z09 (aCons (fVar 0) (aCons (fVar 1) aNil))) (δc:=[.non,.non]) (f:=fun d=>match d with | .tuple [.tuple [.int p,.int q],.tuple [.int p',.int q']]=>enc (Rat.divInt p q + Rat.divInt p' q') | _=>.none) (s:=s) (((padR a m).zip (padR b m)).map fun z=>.tuple [enc z.1,enc z.2]) fun d hd=>by
  obtain⟨z,hz,rfl⟩:=List.mem_map.mp hd
  obtain⟨i,hi⟩:=List.getElem?_of_mem hz
  rw[List.getElem?_zip_eq_some]at hi
  have g1:z.1=co a i:=by rw[<- z51 a m];unfold co;rw[List.getD_eq_getElem?_getD,hi.1];rfl
  have g2:z.2=co b i:=by rw[<- z51 b m];unfold co;rw[List.getD_eq_getElem?_getD,hi.2];rfl
  refine⟨[.val (enc z.1),.val (enc z.2)],rfl,rfl,z9 (ds:=[enc z.1,enc z.2]) rfl ?_⟩
  rw[lplus2 s (g1 ▸ sa i) (g2 ▸ sb i) h1]
  show _=some (enc (Rat.divInt z.1.num z.1.den + Rat.divInt z.2.num z.2.den),s)
  rw[Rat.num_divInt_den,Rat.num_divInt_den]
 generalize hp:((padR a m).zip (padR b m)).map (fun z=>z.1 + z.2)=p at *
 have cp:∀ k,co p k=co a k + co b k:=fun k=>by
  rw[<- hp,<- z51 a m,<- z51 b m]
  unfold co
  rw[List.getD_eq_getElem?_getD,List.getD_eq_getElem?_getD,List.getD_eq_getElem?_getD,List.getElem?_map]
  by_cases hk:k < m
  ·rw[List.getElem?_eq_getElem (l:=padR a m) (by omega),List.getElem?_eq_getElem (l:=padR b m) (by omega),List.getElem?_eq_getElem (l:=(padR a m).zip (padR b m)) (by rw[List.length_zip];omega),List.getElem_zip];rfl
  ·rw[List.getElem?_eq_none (l:=padR a m) (by omega),List.getElem?_eq_none (l:=padR b m) (by omega),List.getElem?_eq_none (l:=(padR a m).zip (padR b m)) (by rw[List.length_zip];omega)]
   show(0:Rat)=0 + 0
   rw[Rat.add_zero]
 have lp:p.length=m:=by rw[<- hp,List.length_map,List.length_zip];omega
 have t1:=z1j (n:=P + Q + 1) (row:=.list (p.map enc)) s rfl (z4J fun k=>by rw[cp];exact zd7 (sa k) (sb k)) (by rw[List.length_map];omega)
 rw[z3H]at t1
 refine⟨trR p,?_,z3w _,fun k=>by rw[z4g,cp]⟩
 refine z0u (n:=2) (m:=2) (G:=z1i) rfl ?_
 show z1i [.val ad,.val bd,.non,.non] s=_
 have x1:sSet 2 (f2 gMax (f1 gLen (fVar 0)) (f1 gLen (fVar 1))) [.val ad,.val bd,.non,.non] s=some (.next [.val ad,.val bd,.val (.int (m:Int)),.non],s):=z00 (zd (a:=.int (a.length:Int)) (b:=.int (b.length:Int)) (z0e (a:=ad) rfl (by rw[z0O ha.seq,List.length_map])) (z0e (a:=bd) rfl (by rw[z0O hb.seq,List.length_map])) v1)
 have x2:sSetL 3 z0K [.val ad,.val bd,.val (.int (m:Int)),.non] s=some (.next [.val ad,.val bd,.val (.int (m:Int)),.val (.list [.list ((padR a m).map enc),.list ((padR b m).map enc)])],s):=by
  have:z0K [.val ad,.val bd,.val (.int (m:Int)),.non] s=some ([.list ((padR a m).map enc),.list ((padR b m).map enc)],s):=by
   unfold z0K fComp
   rw[show iSeq (eTup (aCons (fVar 0) (aCons (fVar 1) aNil))) [.val ad,.val bd,.val (.int (m:Int)),.non] s=some ([ad,bd],s) by unfold iSeq;rw[zN (ds:=[ad,bd]) rfl (small2 _ _)];rfl]
   simp only[Option.bind_some,small2,if_true]
   exact c1
  unfold sSetL
  rw[this];rfl
 have x3:asL z2l [.val ad,.val bd,.val (.int (m:Int)),.val (.list [.list ((padR a m).map enc),.list ((padR b m).map enc)])] s=some (.list (p.map enc),s):=by
  refine z38 (ds:=((padR a m).zip (padR b m)).map fun z=>.tuple [enc z.1,enc z.2]) (s1:=s) ?_ (by rw[List.length_map,List.length_zip];omega) ?_
  ·unfold iZipF
   rw[zd (a:=.list [.list ((padR a m).map enc),.list ((padR b m).map enc)]) (b:=.int 0) (d:=.list ((padR a m).map enc)) (s2:=s) rfl rfl rfl]
   simp only[Option.bind_some]
   rw[zd (a:=.list [.list ((padR a m).map enc),.list ((padR b m).map enc)]) (b:=.int 1) (d:=.list ((padR b m).map enc)) (s2:=s) rfl rfl rfl]
   show some ((((padR a m).map enc).zip ((padR b m).map enc)).map (fun z=>PyData.tuple [z.1,z.2]),s)=_
   rw[hz]
  ·rw[show ∀ δ,compDl 2 [] δ=[.non,.non] from fun _=>rfl,c2,<- hp,List.map_map,List.map_map]
   congr 2
   refine List.map_congr_left fun z _=>?_
   show enc (Rat.divInt z.1.num z.1.den + Rat.divInt z.2.num z.2.den)=enc (z.1 + z.2)
   rw[Rat.num_divInt_den,Rat.num_divInt_den]
 unfold z1i
 exact zm x1 (zm x2 (z04 (z9 (ds:=[.list (p.map enc)]) (z7 (FL:=aNil) x3 rfl) t1)))
end
def row(c:Rat)(l:List Int):List Rat:=l.map fun(z:Int)=>c * (z:Rat)
theorem zQ(c:Rat)(l:List Int):(row c l).length=l.length:=List.length_map ..
theorem z0l(c:Rat)(l:List Int)(k:Nat):co (row c l) k=c * (zc l k:Rat):=by
 unfold row co
 rw[List.getD_eq_getElem?_getD,List.getElem?_map]
 by_cases h:k < l.length
 ·rw[List.getElem?_eq_getElem h,z2d h];rfl
 ·rw[List.getElem?_eq_none (by omega),zY (by omega)]
  show(0:Rat)=c * ((0:Int):Rat)
  rw[show((0:Int):Rat)=0 from rfl,Rat.mul_zero]
theorem z4i{a b:Rat}(ha:a≠0)(hb:b≠0):a * b≠0:=fun z=>by rcases Rat.mul_eq_zero.mp z with y | y;exact ha y;exact hb y
theorem castN{z:Int}(h:z≠0):(z:Rat)≠0:=fun y=>h (Rat.intCast_eq_zero_iff.mp y)
theorem z52{c:Rat}{l:List Int}(hc:0 < l.length->c≠0)(h:0 < l.length->zc l (l.length - 1)≠0):Trim (row c l):=fun hl=>by
 rw[zQ]at hl ⊢
 rw[z0l]
 exact z4i (hc hl) (castN (h hl))
theorem szf{m:Nat}{z y:Int}(hz:Bt m z)(hy:Bt m y)(h0:y≠0):Sz m ((z:Rat) / (y:Rat)):=by
 rw[<- Rat.divInt_eq_div]
 exact zae (z2r h0) h0 hz hy
theorem szq{A m:Nat}{a:Rat}{z y:Int}(ha:Sz A a)(hz:Bt m z)(hy:Bt m y)(h0:y≠0):Sz (A + m) (a * ((z:Rat) / (y:Rat))):=z9b ha (szf hz hy h0)
theorem z5R{p q:Nat}{a b:Rat}(ha:Sz p a)(hb:Sz q b)(h0:b≠0):Sz (p + q) (a / b):=by
 have h:b.num≠0:=fun z=>h0 (Rat.num_eq_zero.mp z)
 exact zae (z6s a b h0) (Int.mul_ne_zero (zC a) h) (ha.1.mul hb.2) (ha.2.mul hb.1)
theorem bpow{n:Nat}{b:Int}(hb:Bt n b)(j:Nat):Bt (n * j + 1) (b ^ j):=by
 induction j with
 | zero=>show(b ^ 0).natAbs < _;rw[Int.pow_zero];exact Nat.one_lt_two_pow (by omega)
 | succ j ih=>rw[Int.pow_succ];exact(ih.mul hb).mono (by rw[Nat.mul_succ];omega)
theorem powN{b:Int}(h:b≠0)(j:Nat):b ^ j≠0:=by
 induction j with
 | zero=>rw[Int.pow_zero];decide
 | succ j ih=>rw[Int.pow_succ];exact Int.mul_ne_zero ih h
theorem zeV(b:Int)(j:Nat):Po.C (b:Rat) ^ j=Po.C ((b ^ j:Int):Rat):=by
 induction j with
 | zero=>rw[Int.pow_zero];rfl
 | succ j ih=>rw[Lean.Grind.Semiring.pow_succ,ih,<- Po.C_mul',<- Rat.intCast_mul,Int.pow_succ]
theorem CzL(c:Rat)(l:List Int)(k:Nat):(Po.C c * zL l).f k=co (row c l) k:=by rw[Po.C_mul,z0l];rfl
theorem nextQ(a x y l p:Rat)(hp:p≠0)(hl:l≠0):a * (x / p) - a * (y / (p * l))=a * ((l * x - y) / (p * l)):=by grind
structure Sg(high low:List Int)(α β:Rat)(n A B st:Nat):Prop where
 hst:st=high.length + 1 - low.length
 hn:0 < n
 bh:Bd n high
 bl:Bd n low
 lh:high.length<=14
 ll:low.length<=14
 th:0 < high.length->zc high (high.length - 1)≠0
 l0:0 < low.length
 tl:zc low (low.length - 1)≠0
 a0:0 < high.length->α≠0
 b0:β≠0
 sa:Sz A α
 sb:Sz B β
 m1:n + st * (n + 1) + (n * st + 1)<=2000
 m2:A + B + (n + st * (n + 1)) + n + 10<=4500
section
variable {high low:List Int} {α β:Rat} {n A B st:Nat} {od othd:D}
theorem Sg.st14(h:Sg high low α β n A B st):st<=14:=by have:=h.hst;have:=h.lh;have:=h.l0;omega
structure Wh(high low often rest:List Int)(n st:Nat):Prop where
 l1:often.length=st
 l2:rest.length < low.length
 tr:0 < rest.length->zc rest (rest.length - 1)≠0
 b1:Bd (n + st * (n + 1)) often
 b2:Bd (n + st * (n + 1)) rest
 eq:Po.C ((zc low (low.length - 1) ^ st:Int):Rat) * zL high=zL often * zL low + zL rest
theorem Wh.top{often rest:List Int}(w:Wh high low often rest n st)(h:Sg high low α β n A B st):0 < often.length->zc often (often.length - 1)≠0:=fun ho=>by
 have hs:=h.hst
 have h1:=w.l1
 have h2:=w.l2
 have ll:=h.l0
 have t:=zbY (one:=Po.C ((zc low (low.length - 1) ^ st:Int):Rat) * zL high) (other:=zL low) (q:=zL often) (r:=zL rest) (d:=high.length - 1) (e:=low.length - 1) (by omega)
  (by rw[Po.C_mul];exact z4i (castN (powN h.tl st)) (castN (h.th (by omega)))) (fun i hi=>by show((zc low i:Int):Rat)=0;rw[zY (by omega)];rfl) (fun i hi=>by show((zc often i:Int):Rat)=0;rw[zY (by omega)];rfl) (fun i hi=>by show((zc rest i:Int):Rat)=0;rw[zY (by omega)];rfl) w.eq
 rw[show high.length - 1 - (low.length - 1)=often.length - 1 by omega]at t
 exact fun z=>t (by show((zc often _:Int):Rat)=0;rw[z];rfl)
theorem zaX:zL []=0:=Po.of fun k=>by rw[Po.zero_f];rfl
theorem Wh.hr{often rest:List Int}(w:Wh high low often rest n st)(h:Sg high low α β n A B st)(hr:0 < rest.length):0 < high.length:=by
 rcases Nat.eq_zero_or_pos high.length with z | z
 ·have hh:high=[]:=List.length_eq_zero_iff.mp z
  have ho:often=[]:=List.length_eq_zero_iff.mp (by rw[w.l1];have:=h.hst;have:=h.l0;omega)
  have e:=w.eq
  rw[hh,ho,zaX]at e
  have e2:zL rest=0:=by grind
  have e3:(zL rest).f (rest.length - 1)=0:=by rw[e2,Po.zero_f]
  exact absurd (Rat.intCast_eq_zero_iff.mp e3) (w.tr hr)
 ·exact z
theorem Wh.rows{often rest:List Int}(w:Wh high low often rest n st)(h:Sg high low α β n A B st)(k:Nat):co (row α high) k=cv often.length (co (row (α / β / ((zc low (low.length - 1) ^ st:Int):Rat)) often)) (co (row β low)) k + co (row (α / ((zc low (low.length - 1) ^ st:Int):Rat)) rest) k:=by
 have g0:=castN (powN h.tl st)
 have e:=congrArg (fun p=>Po.f p k) w.eq
 have eq:=w.eq
 generalize ((zc low (low.length - 1) ^ st:Int):Rat)=g at *
 rw[z6F often.length _ (fun i hi=>by rw[z0l,zY hi];show _ * ((0:Int):Rat)=0;exact Rat.mul_zero _)]
 have e1:co (row (α / β / g) often)=(Po.C (α / β / g) * zL often).f:=funext fun i=>(CzL _ _ i).symm
 have e2:co (row β low)=(Po.C β * zL low).f:=funext fun i=>(CzL _ _ i).symm
 rw[e1,e2,<- Po.mul_f,<- CzL,<- CzL,<- Po.add_f]
 have ha:Po.C α=Po.C (α / g) * Po.C g:=by rw[<- Po.C_mul'];congr 1;grind
 have hb:Po.C (α / β / g) * Po.C β=Po.C (α / g):=by rw[<- Po.C_mul'];congr 1;have:=h.b0;grind
 have:Po.C α * zL high=Po.C (α / β / g) * zL often * (Po.C β * zL low) + Po.C (α / g) * zL rest:=by
  rw[ha]
  grind
 rw[this]
theorem zao{often rest:List Int}(s:Sx)(h:Sg high low α β n A B st)(w:Wh high low often rest n st)(hod:seqOf od=some ((row α high).map enc))(ho:seqOf othd=some ((row β low).map enc)) :
  z01 [od,othd] s=some (.tuple [.tuple ((row (α / β / ((zc low (low.length - 1) ^ st:Int):Rat)) often).map enc),.tuple ((row (α / ((zc low (low.length - 1) ^ st:Int):Rat)) rest).map enc)],s):=by
 have hld:=h.tl
 have hst:=h.hst
 have hl0:=h.l0
 have m1:=h.m1
 have m2:=h.m2
 have bld:=h.bl (low.length - 1)
 have rows:=w.rows h
 generalize hL:zc low (low.length - 1)=ld at *
 have hb:=h.b0
 have hO:∀ k,Sz (B + n) (co (row β low) k):=fun k=>by rw[z0l];exact z9b h.sb (szZ (h.bl k) h.hn)
 have last:co (row β low) ((row β low).length - 1)=β * (ld:Rat):=by rw[zQ,z0l,hL]
 have top:∀ j (z:Int),α * ((z:Rat) / ((ld ^ j:Int):Rat)) / (β * (ld:Rat))=α / β * ((z:Rat) / ((ld ^ (j + 1):Int):Rat)):=fun j z=>by
  have:=castN (powN hld j)
  have:=castN hld
  rw[Int.pow_succ,Rat.intCast_mul]
  grind
 have mulo:∀ j (z y:Int),α / β * ((z:Rat) / ((ld ^ j:Int):Rat)) * (β * (y:Rat))=α * (((z * y:Int):Rat) / ((ld ^ j:Int):Rat)):=fun j z y=>by
  have:=castN (powN hld j)
  rw[Rat.intCast_mul]
  grind
 have nst:∀ j,j<=st->n * j + 1<=n + st * (n + 1) + 1/\n + j * (n + 1)<=n + st * (n + 1):=fun j hj=>by
  have a:=Nat.mul_le_mul_right (n + 1) hj
  have b:n * j<=j * (n + 1):=by rw[Nat.mul_comm];exact Nat.mul_le_mul_left _ (by omega)
  omega
 have bS:∀ (t k:Nat),Bt n (shZ t (zc low) k):=fun t k=>by unfold shZ;split;exact h.bl _;exact bt0 _
 obtain⟨q0,r0,e,tq,tr,lr,id⟩:=z6I (od:=od) (othd:=othd) (one:=row α high) (other:=row β low) (P:=A + B + (n + st * (n + 1) + 1)) (Q:=B + n) (R:=A + (n + st * (n + 1) + 1)) s
  (fun j r=>j<=st/\∃ z:Nat->Int,(∀ k,Bt (n + j * (n + 1)) (z k))/\∀ k,r k=α * ((z k:Rat) / ((ld ^ j:Int):Rat))) hod ho (by rw[zQ];exact hl0) (by rw[last];exact z4i hb (castN hld)) (by rw[zQ];have:=h.lh;omega) (by rw[zQ];have:=h.ll;omega) hO (by omega) (by omega) (by omega)
  ⟨Nat.zero_le _,zc high,fun k=>by rw[Nat.zero_mul];exact h.bh k,fun k=>by rw[z0l,Int.pow_zero];show _=α * (_ / (1:Rat));grind⟩
  (fun j r zex k=>by
   obtain⟨hj,z,bz,er⟩:=zex
   rw[er]
   exact szq h.sa ((bz k).mono (by have:=(nst j hj).2;omega)) ((bpow bld j).mono (nst j hj).1) (powN hld j))
  (fun j r hj zey=>by
   obtain⟨_,z,bz,er⟩:=zey
   rw[zQ,zQ]at hj
   have hj1:j + 1<=st:=by omega
   rw[last,er,top]
   have b1:=(bpow bld (j + 1)).mono (nst (j + 1) hj1).1
   have exp:n + (j + 1) * (n + 1)=n + j * (n + 1) + (n + 1):=by rw[Nat.add_mul,Nat.one_mul];omega
   have le1:=(nst (j + 1) hj1).2
   refine⟨szq (z5R h.sa h.sb hb) ((bz _).mono (by omega)) b1 (powN hld _),fun k=>?_,hj1,fun k=>ld * z k - z ((row α high).length - 1 - j) * shZ ((row α high).length - (row β low).length - j) (zc low) k,fun k=>?_,fun k=>?_⟩
   ·rw[z0l,mulo]
    exact szq h.sa (((bz _).mul (h.bl k)).mono (by omega)) b1 (powN hld _)
   ·exact((bld.mul (bz k)).sub ((bz _).mul (bS _ k))).mono (by omega)
   ·have es:sh ((row α high).length - (row β low).length - j) (co (row β low)) k=β * ((shZ ((row α high).length - (row β low).length - j) (zc low) k:Int):Rat):=by
     unfold sh shZ
     split
     ·exact z0l _ _ _
     ·show(0:Rat)=β * ((0:Int):Rat)
      rw[show((0:Int):Rat)=0 from rfl,Rat.mul_zero]
    dsimp only
    rw[es,mulo,er,Rat.intCast_sub,Rat.intCast_mul ld,Int.pow_succ,Rat.intCast_mul _ ld]
    exact nextQ _ _ _ _ _ (castN (powN hld j)) (castN hld))
 rw[zQ]at lr
 have hk:0 < often.length->α / β / ((ld ^ st:Int):Rat)≠0:=fun ho=>by
  have:=castN (powN hld st)
  have:=h.a0 (by have:=w.l1;omega)
  grind
 have hk2:0 < rest.length->α / ((ld ^ st:Int):Rat)≠0:=fun hr=>by
  have:=castN (powN hld st)
  have:=h.a0 (w.hr h hr)
  grind
 have u:=za3 (N:=max q0.length often.length) (n:=low.length) (q:=co q0) (q':=co (row (α / β / ((ld ^ st:Int):Rat)) often)) (r:=co r0) (r':=co (row (α / ((ld ^ st:Int):Rat)) rest)) (g:=co (row β low)) hl0 (fun i hi=>z02 (by rw[zQ];exact hi)) (by rw[z0l,hL];exact z4i hb (castN hld)) (fun k hk=>z02 (by omega)) (fun k hk=>z02 (by rw[zQ];have:=w.l2;omega)) (fun k=>by
  rw[z5C (N:=q0.length) (M:=max q0.length often.length) (q:=co q0) (fun i hi=>z02 hi) (by omega),<- id k,rows k,z5C (N:=often.length) (M:=max q0.length often.length) (fun i hi=>z02 (by rw[zQ];exact hi)) (by omega)])
 have e1:q0=row (α / β / ((ld ^ st:Int):Rat)) often:=Trim.ext tq (z52 hk (w.top h)) fun i=>by
  by_cases hi:i < max q0.length often.length
  ·exact u.1 i hi
  ·rw[z02 (by omega),z02 (by rw[zQ];omega)]
 have e2:r0=row (α / ((ld ^ st:Int):Rat)) rest:=Trim.ext tr (z52 hk2 w.tr) u.2
 rw[e,e1,e2]
theorem zap{often rest:List Int}(s:Sx)(h:Sg high low α β n A B st)(w:Wh high low often rest n st) :
  ∃ p:List Rat,zp [.tuple ((row (α / β / ((zc low (low.length - 1) ^ st:Int):Rat)) often).map enc),.tuple ((row β low).map enc)] s=some (.tuple (p.map enc),s) /\
   z0b [.tuple (p.map enc),.tuple ((row (α / ((zc low (low.length - 1) ^ st:Int):Rat)) rest).map enc)] s=some (.tuple ((row α high).map enc),s):=by
 have hld:=h.tl
 have m2:=h.m2
 have bld:=h.bl (low.length - 1)
 have rows:=w.rows h
 have hb:=h.b0
 have st14:=h.st14
 have l1:=w.l1
 have l2:=w.l2
 have ll:=h.ll
 generalize hL:zc low (low.length - 1)=ld at *
 have g0:=powN hld st
 have bg:Bt (n + st * (n + 1) + 1) (ld ^ st):=(bpow bld st).mono (by have:n * st<=st * (n + 1):=by{rw[Nat.mul_comm];exact Nat.mul_le_mul_left _ (by omega)};omega)
 generalize ld ^ st=g at *
 have gq:=castN g0
 generalize hN:n + st * (n + 1)=N at *
 have term:∀ i k,co (row (α / β / (g:Rat)) often) i * (β * ((k:Int):Rat))=α * (((zc often i * k:Int):Rat) / (g:Rat)):=fun i k=>by rw[z0l,Rat.intCast_mul];grind
 have part:∀ k i,cv i (co (row (α / β / (g:Rat)) often)) (co (row β low)) k=α * (((sm (fun j=>shZ j (zc low) k * zc often j) i:Int):Rat) / (g:Rat)):=fun k i=>by
  induction i with
  | zero=>show(0:Rat)=α * (((0:Int):Rat) / _);rw[show((0:Int):Rat)=0 from rfl];grind
  | succ i ih =>
   have es:sh i (co (row β low)) k=β * ((shZ i (zc low) k:Int):Rat):=by
    unfold sh shZ
    split
    ·exact z0l _ _ _
    ·show(0:Rat)=β * ((0:Int):Rat)
     rw[show((0:Int):Rat)=0 from rfl,Rat.mul_zero]
   rw[cv,ih,es,term]
   show _=α * (((sm _ i + shZ i (zc low) k * zc often i:Int):Rat) / _)
   rw[Rat.intCast_add,Rat.intCast_mul,Rat.intCast_mul]
   grind
 have bS:∀ (t k:Nat),Bt n (shZ t (zc low) k):=fun t k=>by unfold shZ;split;exact h.bl _;exact bt0 _
 have bsum:∀ i k,i<=15->Bt (N + n + 4) (sm (fun j=>shZ j (zc low) k * zc often j) i):=fun i k hi=>by
  have:=zc0 (f:=fun j=>shZ j (zc low) k * zc often j) (B:=2 ^ (N + n)) (fun j=>Nat.le_of_lt (((bS j k).mul (w.b1 j)).mono (by omega))) i
  show _ < 2 ^ (N + n + 4)
  have e:2 ^ (N + n + 4)=16 * 2 ^ (N + n):=by rw[Nat.pow_add];omega
  have p:0 < 2 ^ (N + n):=Nat.pow_pos (by decide)
  have c:i * 2 ^ (N + n)<=15 * 2 ^ (N + n):=Nat.mul_le_mul_right _ hi
  omega
 have sc:∀ i k,Sz (A + (N + n + 4)) (cv i (co (row (α / β / (g:Rat)) often)) (co (row β low)) k):=fun i k=>by
  by_cases hi:i<=often.length
  ·rw[part];exact szq h.sa (bsum i k (by omega)) (bg.mono (by have:=h.hn;omega)) g0
  ·rw[z5C (N:=often.length) (fun i hi=>z02 (by rw[zQ];exact hi)) (by omega),part]
   exact szq h.sa (bsum _ k (by omega)) (bg.mono (by have:=h.hn;omega)) g0
 obtain⟨p,e1,tp,lp,cp⟩:=z5Q (ad:=.tuple ((row (α / β / (g:Rat)) often).map enc)) (bd:=.tuple ((row β low).map enc)) (P:=A + B + (N + 1)) (Q:=B + n) (R:=A + (N + n + 4)) s rfl rfl (by rw[zQ];omega) (by rw[zQ];omega)
  (fun k=>by
   rw[z0l,show α / β / (g:Rat) * (zc often k:Rat)=α / β * ((zc often k:Rat) / (g:Rat)) by grind]
   exact szq (z5R h.sa h.sb hb) ((w.b1 k).mono (by omega)) bg g0)
  (fun k=>by rw[z0l];exact z9b h.sb (szZ (h.bl k) h.hn)) sc
  (fun i k=>by rw[z0l β low k,term];exact szq h.sa (((w.b1 i).mul (h.bl k)).mono (by omega)) (bg.mono (by have:=h.hn;omega)) g0) (by omega) (by omega)
 rw[zQ,zQ]at lp
 rw[zQ]at cp
 obtain⟨t,e2,tt,ct⟩:=zan (ad:=.tuple (p.map enc)) (bd:=.tuple ((row (α / (g:Rat)) rest).map enc)) (P:=A + (N + n + 4)) (Q:=A + (N + 1)) s (.inr rfl) (.inr rfl) (by omega) (by rw[zQ];omega) (fun k=>by rw[cp];exact sc _ k)
  (fun k=>by
   rw[z0l,show α / (g:Rat) * (zc rest k:Rat)=α * ((zc rest k:Rat) / (g:Rat)) by grind]
   exact szq h.sa ((w.b2 k).mono (by omega)) bg g0) (by omega)
 refine⟨p,e1,?_⟩
 have:t=row α high:=Trim.ext tt (z52 h.a0 h.th) fun k=>by rw[ct,cp,rows k]
 rw[e2,this]
end
def lowN(rest:List Int):List Int:=rest.map fun x=>x.fdiv (gcdL rest 0:Int)
structure Prim(l:List Int):Prop where
 p:∀ q:Int,(∀ k,q∣zc l k)->q.natAbs=1
theorem z0v{rest:List Int}{N:Nat}(h0:0 < rest.length)(tr:zc rest (rest.length - 1)≠0)(b:Bd N rest):0 < gcdL rest 0/\Bt N (gcdL rest 0:Int)/\(∀ k,zc rest k=(gcdL rest 0:Int) * zc (lowN rest) k)/\(lowN rest).length=rest.length/\Prim (lowN rest)/\zc (lowN rest) (rest.length - 1)≠0:=by
 obtain⟨_,hd⟩:=z4Z rest 0
 have hdk:∀ k,(gcdL rest 0:Int)∣zc rest k:=fun k=>by
  by_cases hk:k < rest.length
  ·rw[z2d hk];exact hd _ (List.getElem_mem hk)
  ·rw[zY (by omega)];exact Int.dvd_zero _
 have gp:0 < gcdL rest 0:=by
  rcases Nat.eq_zero_or_pos (gcdL rest 0) with z | z
  ·have:=hdk (rest.length - 1)
   rw[z]at this
   exact absurd (Int.zero_dvd.mp this) tr
  ·exact z
 have mx:∀ q:Int,(∀ k,q∣zc rest k)->q∣(gcdL rest 0:Int):=fun q hq=>z7u rest 0 (Int.dvd_zero _) fun x hx=>by
  obtain⟨i,hi,rfl⟩:=List.mem_iff_getElem.mp hx
  rw[<- z2d hi];exact hq i
 have ll:(lowN rest).length=rest.length:=List.length_map ..
 have lk:∀ k,zc rest k=(gcdL rest 0:Int) * zc (lowN rest) k:=fun k=>by
  by_cases hk:k < rest.length
  ·have:zc (lowN rest) k=(zc rest k).fdiv (gcdL rest 0:Int):=by
    rw[z2d (by rw[ll];exact hk),z2d hk];unfold lowN;rw[List.getElem_map]
   rw[this,Int.fdiv_eq_ediv_of_nonneg _ (Int.natCast_nonneg _),Int.mul_ediv_cancel' (hdk k)]
  ·rw[zY (by omega),zY (by omega),Int.mul_zero]
 refine⟨gp,?_,lk,ll,⟨fun q hq=>?_⟩,fun z=>tr (by rw[lk,z,Int.mul_zero])⟩
 ·have:=Int.natAbs_dvd_natAbs.mpr (hdk (rest.length - 1))
  have:=Nat.le_of_dvd (by omega) this
  exact Nat.lt_of_le_of_lt this (b _)
 ·have h1:q * (gcdL rest 0:Int)∣(gcdL rest 0:Int):=mx _ fun k=>by rw[lk k,Int.mul_comm];exact Int.mul_dvd_mul_left _ (hq k)
  have h2:q∣1:=Int.dvd_of_mul_dvd_mul_right (a:=(gcdL rest 0:Int)) (by omega) (by rw[Int.one_mul];exact h1)
  have h3:=Int.natAbs_dvd_natAbs.mpr h2
  exact Nat.dvd_one.mp h3
section
variable {high low:List Int} {α β:Rat} {n A B st:Nat} {od othd highd:D}
theorem Sg.whole(s:Sx)(h:Sg high low α β n A B st)(hh:seqOf highd=some (high.map .int)):∃ often rest,zx [highd,.tuple (low.map .int)] s=some (.tuple [.tuple (often.map .int),.tuple (rest.map .int)],s)/\Wh high low often rest n st:=by
 obtain⟨often,rest,e,l1,l2,tr,b1,b2,eq⟩:=z9u (hd:=highd) (lowd:=.tuple (low.map .int)) (high:=high) (low:=low) s hh rfl h.l0 h.hst (by have:=h.ll;omega) (by have:=h.lh;omega) h.bh h.bl (by have:=h.m1;omega)
 exact⟨often,rest,e,l1,l2,tr,b1,b2,by rw[<- zeV];exact eq⟩
theorem bt1{n:Nat}(h:0 < n):Bt n 1:=Nat.one_lt_two_pow (by omega)
abbrev BodyP:GS:=(sSeq (sUnp (.tup [8,9]) (fCall zx (aCons (fVar 4) (aCons (fVar 6) aNil))))
 (sSeq (sSet 10 (eTup (aCons (fCall z0z (aCons (f2 gIx (fVar 6) (f1 gNeg (fC (.int 1)))) (aCons (f1 gLen (fVar 8)) aNil))) (aCons (fC (.int 1)) aNil))))
 (sSeq (sApp 2 (fCall z2A (aCons (fVar 8) (aCons (fCall z1u (aCons (fVar 7) (aCons (fVar 10) aNil))) aNil))))
 (sSeq (sSet 11 (fCall zT (aCons (fVar 9) aNil)))
 (sSeq (sIf (asT (fVar 9)) (sSet 7 (fCall z1u (aCons (fCall z1u (aCons (fVar 10) (aCons (eTup (aCons (fVar 11) (aCons (fC (.int 1)) aNil))) aNil))) (aCons (fVar 7) aNil)))) sNext)
 (sPar 4 6 (aCons (fVar 6) (aCons (f1 gTuple (asL z1h)) aNil))))))))
theorem z9x(s:Sx){told:List D}{c3 c5 c8 c9 c10 c11:Ce}{often rest:List Int}(h:Sg high low α β n A B st)(ew:zx [highd,.tuple (low.map .int)] s=some (.tuple [.tuple (often.map .int),.tuple (rest.map .int)],s))(w:Wh high low often rest n st)(ht:told.length < 500) :
  ∃ (ρ':Rat) (d8 d9 d10 d11:Ce),BodyP [.val od,.val othd,.own told,c3,.val highd,c5,.val (.tuple (low.map .int)),.val (enc (α / β)),c8,c9,c10,c11] s=some (.next [.val od,.val othd,.own (told++[.tuple ((row (α / β / ((zc low (low.length - 1) ^ st:Int):Rat)) often).map enc)]),c3,.val (.tuple (low.map .int)),c5,.val (.tuple ((lowN rest).map .int)),.val (enc ρ'),d8,d9,d10,d11],s) /\
   (0 < rest.length->ρ'=β / (α / ((zc low (low.length - 1) ^ st:Int):Rat) * ((gcdL rest 0:Int):Rat))):=by
 have hld:=h.tl
 have m1:=h.m1
 have m2:=h.m2
 have bld:=h.bl (low.length - 1)
 have l1:=w.l1
 have l2:=w.l2
 have ll:=h.ll
 have st14:=h.st14
 have a0:=h.a0
 have b0:=h.b0
 have hn:=h.hn
 have eix:gIx (.tuple (low.map .int)) (.int (-1))=some (.int (zc low (low.length - 1))):=z9j rfl h.l0
 have hnst:n * st<=st * (n + 1):=by rw[Nat.mul_comm];exact Nat.mul_le_mul_left _ (by omega)
 have epw:=z9v (b:=zc low (low.length - 1)) (n:=n) (e:=st) s bld (by omega) (by omega) (by omega)
 generalize zc low (low.length - 1)=ld at *
 have g0:=powN hld st
 have bg:Bt (n * st + 1) (ld ^ st):=bpow bld st
 generalize ld ^ st=g at *
 have gq:=castN g0
 have wb1:=w.b1
 have wb2:=w.b2
 have wtr:=w.tr
 generalize hN:n + st * (n + 1)=N at *
 have srho:=z5R h.sa h.sb b0
 have sg:Sz (n * st + 1) (g:Rat):=szZ bg (by omega)
 have sk:Sz 9000 (α / β / (g:Rat)):=(z5R srho sg gq).mono (by omega)
 have eov:=over2 (m:=9000) s (srho.mono (by omega)) (sg.mono (by omega)) (by decide) (.inr (bg.mono (by omega))) (.inl (bt1 (by decide))) gq
 have etk:=z9w (l:=often) (d:=.tuple (often.map .int)) (c:=α / β / (g:Rat)) (n:=N) (m:=9000) s rfl wb1 (by omega) (by omega) sk (by omega) (by decide) (by omega)
 have erow:(often.map fun(z:Int)=>(z:Rat) * (α / β / (g:Rat)))=row (α / β / (g:Rat)) often:=List.map_congr_left fun z _=>Rat.mul_comm _ _
 rw[erow]at etk
 have edv:=z3S (l:=rest) (d:=.tuple (rest.map .int)) s rfl wb2 (by omega)
 generalize hd2:row (α / β / (g:Rat)) often=qr at *
 have pre:∀ (k:GS) (r:Option (Out × Sx)),(∀ (d8 d9 d10 d11:Ce),d8=.val (.tuple (often.map .int))->d9=.val (.tuple (rest.map .int))->d10=.val (enc (g:Rat))->d11=.val (.int (gcdL rest 0:Int))->k [.val od,.val othd,.own (told++[.tuple (qr.map enc)]),c3,.val highd,c5,.val (.tuple (low.map .int)),.val (enc (α / β)),d8,d9,d10,d11] s=r) ->
   (sSeq (sUnp (.tup [8,9]) (fCall zx (aCons (fVar 4) (aCons (fVar 6) aNil))))
 (sSeq (sSet 10 (eTup (aCons (fCall z0z (aCons (f2 gIx (fVar 6) (f1 gNeg (fC (.int 1)))) (aCons (f1 gLen (fVar 8)) aNil))) (aCons (fC (.int 1)) aNil))))
 (sSeq (sApp 2 (fCall z2A (aCons (fVar 8) (aCons (fCall z1u (aCons (fVar 7) (aCons (fVar 10) aNil))) aNil))))
 (sSeq (sSet 11 (fCall zT (aCons (fVar 9) aNil))) k)))) [.val od,.val othd,.own told,c3,.val highd,c5,.val (.tuple (low.map .int)),.val (enc (α / β)),c8,c9,c10,c11] s=r:=fun k r hk=>by
  have u1:sUnp (.tup [8,9]) (fCall zx (aCons (fVar 4) (aCons (fVar 6) aNil))) [.val od,.val othd,.own told,c3,.val highd,c5,.val (.tuple (low.map .int)),.val (enc (α / β)),c8,c9,c10,c11] s=some (.next [.val od,.val othd,.own told,c3,.val highd,c5,.val (.tuple (low.map .int)),.val (enc (α / β)),.val (.tuple (often.map .int)),.val (.tuple (rest.map .int)),c10,c11],s):=by
   unfold sUnp
   rw[z9 (ds:=[highd,.tuple (low.map .int)]) rfl ew]
   rfl
  refine zm u1 (zm (z00 (zN (ds:=[.int g,.int 1]) (z7 (z9 (ds:=[.int ld,.int (st:Int)]) (z7 (zd (a:=.tuple (low.map .int)) (b:=.int (-1)) rfl rfl eix) (z7 (FL:=aNil) (z0e (a:=.tuple (often.map .int)) rfl (by show some (PyData.int (((often.map PyData.int).length:Nat):Int))=_;rw[List.length_map,l1])) rfl)) epw) (z7 (FL:=aNil) rfl rfl)) (small2 _ _))) (zm (z7j (v:=.tuple (qr.map enc)) (xs:=told) (z9 (ds:=[.tuple (often.map .int),enc (α / β / (g:Rat))]) (z7 rfl (z7 (FL:=aNil) (z9 (ds:=[enc (α / β),enc (g:Rat)]) rfl eov) rfl)) etk) rfl (by omega)) (zm (z00 (z9 (ds:=[.tuple (rest.map .int)]) rfl edv)) ?_)))
  exact hk _ _ _ _ rfl rfl rfl rfl
 have fin:∀ (ρ:Rat) (d8 d10:Ce),0 < rest.length\/rest=[]->sPar 4 6 (aCons (fVar 6) (aCons (f1 gTuple (asL z1h)) aNil)) [.val od,.val othd,.own (told++[.tuple (qr.map enc)]),c3,.val highd,c5,.val (.tuple (low.map .int)),.val (enc ρ),d8,.val (.tuple (rest.map .int)),d10,.val (.int (gcdL rest 0:Int))] s=some (.next [.val od,.val othd,.own (told++[.tuple (qr.map enc)]),c3,.val (.tuple (low.map .int)),c5,.val (.tuple ((lowN rest).map .int)),.val (enc ρ),d8,.val (.tuple (rest.map .int)),d10,.val (.int (gcdL rest 0:Int))],s):=fun ρ d8 d10 hor=>by
  have hc:=z0c (T:=.one 0) (Ft:=fTrue) (F:=f2 gDivI (fVar 0) (fVar 1)) (δc:=[.non,.val (.int (gcdL rest 0:Int))]) (f:=fun d=>match d with | .int x=>.int (x.fdiv (gcdL rest 0:Int)) | _=>.none) (s:=s) (rest.map .int) fun d hd=>by
   obtain⟨x,hx,rfl⟩:=List.mem_map.mp hd
   have hp:0 < rest.length:=List.length_pos_of_mem hx
   obtain⟨gp,bgc,_⟩:=z0v hp (wtr hp) wb2
   exact⟨[.val (.int x),.val (.int (gcdL rest 0:Int))],rfl,rfl,zd (a:=.int x) (b:=.int (gcdL rest 0:Int)) rfl rfl (divI (bgc.div (by omega) (by omega)))⟩
  have hr:asL z1h [.val od,.val othd,.own (told++[.tuple (qr.map enc)]),c3,.val highd,c5,.val (.tuple (low.map .int)),.val (enc ρ),d8,.val (.tuple (rest.map .int)),d10,.val (.int (gcdL rest 0:Int))] s=some (.list ((lowN rest).map .int),s):=by
   refine z38 (ds:=rest.map .int) (s1:=s) rfl (by rw[List.length_map];omega) (hc.trans ?_)
   unfold lowN
   rw[List.map_map,List.map_map];rfl
  unfold sPar
  rw[z7 (d:=.tuple (low.map .int)) (s1:=s) rfl (z7 (FL:=aNil) (z0e (d:=.tuple ((lowN rest).map .int)) hr rfl) rfl)]
  rfl
 by_cases hr:0 < rest.length
 ·obtain⟨gp,bgc,_⟩:=z0v hr (wtr hr) wb2
  have gcn:((gcdL rest 0:Int):Rat)≠0:=castN (by omega)
  have a1:=a0 (w.hr h hr)
  have rq:α / β≠0:=by grind
  have sgc:Sz N ((gcdL rest 0:Int):Rat):=szZ bgc (by omega)
  have s3:Sz 2000 ((g:Rat) / ((gcdL rest 0:Int):Rat)):=(z5R sg sgc gcn).mono (by omega)
  have e3:=over2 (m:=9000) s (sg.mono (by omega)) (sgc.mono (by omega)) (by decide) (.inl (bg.mono (by omega))) (.inl (bt1 (by decide))) gcn
  have e4:=over2 (m:=9000) s (s3.mono (by decide)) (srho.mono (by omega)) (by decide) (.inl s3.1) (.inr s3.2) rq
  refine⟨(g:Rat) / ((gcdL rest 0:Int):Rat) / (α / β),.val (.tuple (often.map .int)),.val (.tuple (rest.map .int)),.val (enc (g:Rat)),.val (.int (gcdL rest 0:Int)),pre _ _ fun d8 d9 d10 d11 h8 h9 h10 h11=>?_,fun _=>?_⟩
  ·subst h8 h9 h10 h11
   refine zm (zd9 (s':=s) ?_ (z00 (z9 (ds:=[enc ((g:Rat) / ((gcdL rest 0:Int):Rat)),enc (α / β)]) (z7 (z9 (ds:=[enc (g:Rat),enc ((gcdL rest 0:Int):Rat)]) (z7 rfl (z7 (FL:=aNil) (zN (ds:=[.int (gcdL rest 0:Int),.int 1]) rfl (small2 _ _)) rfl)) e3) rfl) e4))) (fin _ _ _ (.inl hr))
   obtain⟨x,l,rfl⟩:∃ x l,rest=x::l:=by cases rest with | nil=>exact absurd hr (by decide) | cons x l=>exact⟨x,l,rfl⟩
   rfl
  ·grind
 ·obtain rfl:rest=[]:=List.length_eq_zero_iff.mp (by omega)
  refine⟨α / β,.val (.tuple (often.map .int)),.val (.tuple ([].map .int)),.val (enc (g:Rat)),.val (.int (gcdL [] 0:Int)),pre _ _ fun d8 d9 d10 d11 h8 h9 h10 h11=>?_,fun z=>absurd z (by decide)⟩
  subst h8 h9 h10 h11
  exact zm (δ1:=[.val od,.val othd,.own (told++[.tuple (qr.map enc)]),c3,.val highd,c5,.val (.tuple (low.map .int)),.val (enc (α / β)),.val (.tuple (often.map .int)),.val (.tuple ([].map .int)),.val (enc (g:Rat)),.val (.int (gcdL [] 0:Int))]) (s1:=s) (z9c (s':=s) rfl rfl) (fin _ _ _ (.inr rfl))
end
def tupE(q:List Rat):D:=.tuple (q.map enc)
theorem z6K:∀ l:List Rat,∃ n,AllN n (l.map enc)
 | []=>⟨0,fun d hd=>nomatch hd⟩
 | r::l=>by
  obtain⟨n,h⟩:=z6K l
  have p1:r.num.natAbs < 2 ^ (r.num.natAbs):=Nat.lt_two_pow_self
  have p2:r.den < 2 ^ r.den:=Nat.lt_two_pow_self
  refine⟨max n (r.num.natAbs + r.den),fun d hd=>?_⟩
  rcases List.mem_cons.mp hd with rfl | hd
  ·refine Sz.isN (r:=r) ⟨Bt.mono (n:=r.num.natAbs) p1 (by omega),Bt.mono (n:=r.den) (by show(r.den:Int).natAbs < _;rw[Int.natAbs_natCast];exact p2) (by omega)⟩
  ·obtain⟨p,q,e,h1,h2,h3,h4⟩:=h d hd
   exact⟨p,q,e,h1,h2,h3.mono (by omega),h4.mono (by omega)⟩
theorem z5S(l:List Rat):gNe (.tuple (l.map enc)) (.tuple [])=some (.bool (!l.isEmpty)):=by
 obtain⟨n,h⟩:=z6K l
 have e:(l.map enc).isEmpty=l.isEmpty:=by cases l <;> rfl
 simp[gNe,z5A h,z6p,PyData.eqv,z4f]
abbrev TestP:FT:=asT (fVar 6)
abbrev TestD:FT:=asB (f2 gNe (fVar 1) (eTup aNil))
abbrev BodyD:GS:=(sSeq (sUnp (.tup [3,4]) (fCall z01 (aCons (fVar 0) (aCons (fVar 1) aNil)))) (sSeq (sApp 2 (fVar 3)) (sPar 0 1 (aCons (fVar 1) (aCons (fVar 4) aNil)))))
abbrev FLb:FA:=(aCons (fCall z0b (aCons (fCall zp (aCons (fVar 10) (aCons (fVar 8) aNil))) (aCons (fVar 9) aNil))) (aCons (fVar 8) aNil))
structure FinA(s:Sx)(α β:Rat)(high low:List Int)(qs:List (List Rat))(last:List Rat):Prop where
 ln:qs.length<=low.length
 lq:∀ q∈qs,q.length<=14
 P:∀ (m:Nat) (told:List D) (od othd:D) (c3 c5 c8 c9 c10 c11:Ce) (ρ:Rat),low.length<=m->told.length + low.length < 400->(0 < low.length->ρ=α / β)->∃ δ,δ[2]?=some (.own (told++qs.map tupE))/\whileN TestP BodyP (m + 1) [.val od,.val othd,.own told,c3,.val (.tuple (high.map .int)),c5,.val (.tuple (low.map .int)),.val (enc ρ),c8,c9,c10,c11] s=some (.next δ,s)
 L:∀ (m:Nat) (found:List D) (c3 c4:Ce),low.length<=m->found.length + low.length < 400->∃ c3' c4',whileN TestD BodyD (m + 1) [.val (tupE (row α high)),.val (tupE (row β low)),.own found,c3,c4] s=some (.next [.val (tupE last),.val (.tuple []),.own (found++qs.map tupE),c3',c4'],s)
 R:∀ (ys:List D) (r:Option (Out × Sx)->Prop) (c0 c1 c2 c3 c4 c5 c6 c7:Ce),(∀ c10,r (forD (.one 10) (sPar 8 9 FLb) ys [c0,c1,c2,c3,c4,c5,c6,c7,.val (tupE (row α high)),.val (tupE (row β low)),c10] s))->∀ c10,r (forD (.one 10) (sPar 8 9 FLb) ((qs.map tupE).reverse++ys) [c0,c1,c2,c3,c4,c5,c6,c7,.val (tupE last),.val (.tuple []),c10] s)
def Fin(s:Sx)(α β:Rat)(high low:List Int):Prop:=∃ qs last,FinA s α β high low qs last
theorem z3a(s:Sx)(α β:Rat)(high:List Int):Fin s α β high []:=⟨[],row α high,Nat.le_refl _,(fun q hq=>nomatch hq),
 fun m told od othd c3 c5 c8 c9 c10 c11 ρ _ _ _=>⟨_,by show _=some (Ce.own (told++[]));rw[List.append_nil];rfl,z2b rfl⟩,
 fun m found c3 c4 _ _=>⟨c3,c4,by
  rw[List.map_nil,List.append_nil]
  exact z2b (z9f (b:=false) (zd (a:=.tuple []) (b:=.tuple []) rfl (zN (ds:=[]) rfl (by decide)) (z5S [])))⟩,
 fun ys r c0 c1 c2 c3 c4 c5 c6 c7 h c10=>h c10⟩
section
variable {high low:List Int} {α β:Rat} {n A B st:Nat}
theorem z7x{g:Rat}{rest:List Int}(h:∀ k,zc rest k=(gcdL rest 0:Int) * zc (lowN rest) k):row (α / g) rest=row (α / g * ((gcdL rest 0:Int):Rat)) (lowN rest):=z8S (by rw[zQ,zQ];exact(List.length_map ..).symm) fun k=>by
 rw[z0l,z0l,h k,Rat.intCast_mul];grind
theorem z53{often rest:List Int}(s:Sx)(h:Sg high low α β n A B st)(w:Wh high low often rest n st)(ew:zx [.tuple (high.map .int),.tuple (low.map .int)] s=some (.tuple [.tuple (often.map .int),.tuple (rest.map .int)],s))
  (hf:Fin s β (α / ((zc low (low.length - 1) ^ st:Int):Rat) * ((gcdL rest 0:Int):Rat)) low (lowN rest)):Fin s α β high low:=by
 have lr:(lowN rest).length=rest.length:=List.length_map ..
 have l2:=w.l2
 have hl0:=h.l0
 have rn:row (α / ((zc low (low.length - 1) ^ st:Int):Rat)) rest=row (α / ((zc low (low.length - 1) ^ st:Int):Rat) * ((gcdL rest 0:Int):Rat)) (lowN rest):=by
  by_cases hr:0 < rest.length
  ·exact z7x (z0v hr (w.tr hr) w.b2).2.2.1
  ·obtain rfl:rest=[]:=List.length_eq_zero_iff.mp (by omega)
   rfl
 obtain⟨qs,last,F⟩:=hf
 have lp:=zao (od:=tupE (row α high)) (othd:=tupE (row β low)) s h w rfl rfl
 obtain⟨p,b1,b2⟩:=zap s h w
 have ps:=fun(told:List D) (od othd:D) (c3 c5 c8 c9 c10 c11:Ce) (ht:told.length < 500)=>z9x (od:=od) (othd:=othd) (highd:=.tuple (high.map .int)) (c3:=c3) (c5:=c5) (c8:=c8) (c9:=c9) (c10:=c10) (c11:=c11) s h ew w ht
 have lq:(row (α / β / ((zc low (low.length - 1) ^ st:Int):Rat)) often).length<=14:=by rw[zQ,w.l1];exact h.st14
 rw[rn]at lp b2
 generalize row (α / β / ((zc low (low.length - 1) ^ st:Int):Rat)) often=q at *
 generalize α / ((zc low (low.length - 1) ^ st:Int):Rat) * ((gcdL rest 0:Int):Rat)=β' at *
 refine⟨q::qs,last,?_,?_,?_,?_,?_⟩
 ·have:=F.ln
  rw[List.length_cons]
  omega
 ·intro x hx
  rcases List.mem_cons.mp hx with rfl | hx
  ·exact lq
  ·exact F.lq x hx
 ·intro m told od othd c3 c5 c8 c9 c10 c11 ρ hm hto hρ
  obtain⟨m',rfl⟩:∃ m',m=m' + 1:=⟨m - 1,by omega⟩
  obtain⟨ρ',d8,d9,d10,d11,e,eρ⟩:=ps told od othd c3 c5 c8 c9 c10 c11 (by omega)
  obtain⟨δ,hδ,e2⟩:=F.P m' (told++[.tuple (q.map enc)]) od othd c3 c5 d8 d9 d10 d11 ρ' (by omega) (by rw[List.length_append];show _ + 1 + _ < _;omega) (fun z=>eρ (by omega))
  refine⟨δ,?_,?_⟩
  ·rw[hδ,List.append_assoc];rfl
  ·rw[hρ hl0]
   refine z2B ?_ e e2
   obtain⟨x,l,rfl⟩:∃ x l,low=x::l:=by cases low with | nil=>exact absurd hl0 (by decide) | cons x l=>exact⟨x,l,rfl⟩
   rfl
 ·intro m found c3 c4 hm hfo
  obtain⟨m',rfl⟩:∃ m',m=m' + 1:=⟨m - 1,by omega⟩
  obtain⟨c3',c4',e2⟩:=F.L m' (found++[tupE q]) (.val (tupE q)) (.val (tupE (row β' (lowN rest)))) (by omega) (by rw[List.length_append];show _ + 1 + _ < _;omega)
  refine⟨c3',c4',?_⟩
  rw[List.map_cons,show found++tupE q::qs.map tupE=found++[tupE q]++qs.map tupE by rw[List.append_assoc];rfl]
  refine z2B (z9f (b:=true) (zd (a:=tupE (row β low)) (b:=.tuple []) rfl (zN (ds:=[]) rfl (by decide)) ?_)) (zm (δ1:=[.val (tupE (row α high)),.val (tupE (row β low)),.own found,.val (tupE q),.val (tupE (row β' (lowN rest)))]) (s1:=s) ?_ (zm (z7j (v:=tupE q) (xs:=found) rfl rfl (by omega)) rfl)) e2
  ·have:=z5S (row β low)
   rw[show(row β low).isEmpty=false by cases low with | nil=>exact absurd hl0 (by decide) | cons x l=>rfl]at this
   exact this
  ·unfold sUnp
   rw[z9 (ds:=[tupE (row α high),tupE (row β low)]) rfl lp]
   rfl
 ·intro ys r c0 c1 c2 c3 c4 c5 c6 c7 hy c10
  rw[List.map_cons,List.reverse_cons,List.append_assoc]
  refine F.R _ r c0 c1 c2 c3 c4 c5 c6 c7 (fun c10'=>?_) c10
  have fe:=z22 (T:=.one 10) (G:=sPar 8 9 FLb) (d:=tupE q) (ds:=ys) (δ:=[c0,c1,c2,c3,c4,c5,c6,c7,.val (tupE (row β low)),.val (tupE (row β' (lowN rest))),c10']) (δ1:=[c0,c1,c2,c3,c4,c5,c6,c7,.val (tupE (row β low)),.val (tupE (row β' (lowN rest))),.val (tupE q)]) (δ2:=[c0,c1,c2,c3,c4,c5,c6,c7,.val (tupE (row α high)),.val (tupE (row β low)),.val (tupE q)]) (s:=s) (s1:=s) (r:=forD (.one 10) (sPar 8 9 FLb) ys [c0,c1,c2,c3,c4,c5,c6,c7,.val (tupE (row α high)),.val (tupE (row β low)),.val (tupE q)] s) rfl (by
   unfold sPar FLb
   rw[z7 (d:=tupE (row α high)) (s1:=s) (ds:=[tupE (row β low)]) (s2:=s) (z9 (ds:=[tupE p,tupE (row β' (lowN rest))]) (z7 (z9 (ds:=[tupE q,tupE (row β low)]) rfl b1) rfl) b2) rfl]
   rfl) rfl
  show r (forD (.one 10) (sPar 8 9 FLb) (tupE q::ys) _ s)
  rw[fe]
  exact hy _
end
def wd(d:Nat):Nat:=15 * (12 - d)
def Ps(d:Nat):Nat:=45 * ((12 - d) * (13 - d) / 2) + 2 * (12 - d) + 20
theorem lim:∀ d,d < 12->∀ e,e < d->wd d + (d - e + 1) * (wd d + 1) + (wd d * (d - e + 1) + 1)<=2000/\Ps d + (wd d + (d - e + 1) * (wd d + 1)) + wd d + 10<=4500/\Ps d + (wd d + (d - e + 1) * (wd d + 1)) + 1<=Ps e/\wd d<=wd e:=by decide
theorem lim0:∀ d,d < 12->∀ e,e<=d->8 + (8 + (7 + (d - e + 1) * 8 + 1))<=Ps e/\7<=wd e/\0 < wd e:=by decide
section
variable {high low often rest:List Int} {α β:Rat} {n A B st:Nat}
theorem Wh.po(w:Wh high low often rest n st)(h:Sg high low α β n A B st):Po.C α * zL high=Po.C (α / β / ((zc low (low.length - 1) ^ st:Int):Rat)) * zL often * (Po.C β * zL low) + Po.C (α / ((zc low (low.length - 1) ^ st:Int):Rat) * ((gcdL rest 0:Int):Rat)) * zL (lowN rest):=Po.of fun k=>by
 rw[CzL,w.rows h k,Po.add_f,CzL]
 have rn:row (α / ((zc low (low.length - 1) ^ st:Int):Rat)) rest=row (α / ((zc low (low.length - 1) ^ st:Int):Rat) * ((gcdL rest 0:Int):Rat)) (lowN rest):=by
  by_cases hr:0 < rest.length
  ·exact z7x (z0v hr (w.tr hr) w.b2).2.2.1
  ·obtain rfl:rest=[]:=List.length_eq_zero_iff.mp (by omega)
   rfl
 rw[rn,z6F often.length _ (fun i hi=>by rw[z0l,zY hi];show _ * ((0:Int):Rat)=0;exact Rat.mul_zero _)]
 congr 1
 rw[Po.mul_f]
 congr 1
 ·exact funext fun i=>(CzL _ _ i).symm
 ·exact funext fun i=>(CzL _ _ i).symm
theorem dgL{c:Rat}{l:List Int}{m:Nat}(h:l.length<=m):Dg m (Po.C c * zL l):=fun i hi=>by
 rw[CzL];exact z02 (by rw[zQ];omega)
theorem topL{c:Rat}{l:List Int}{k:Nat}(hc:c≠0)(h:zc l k≠0):(Po.C c * zL l).f k≠0:=by
 rw[CzL,z0l];exact z4i hc (castN h)
theorem z9y(w:Wh high low often rest n st)(h:Sg high low α β n A B st)(hr:0 < rest.length):α / ((zc low (low.length - 1) ^ st:Int):Rat) * ((gcdL rest 0:Int):Rat)≠0/\Sz (A + (n + st * (n + 1) + 1)) (α / ((zc low (low.length - 1) ^ st:Int):Rat) * ((gcdL rest 0:Int):Rat)):=by
 obtain⟨gp,bg,_⟩:=z0v hr (w.tr hr) w.b2
 have a0:=h.a0 (w.hr h hr)
 have g0:=powN h.tl st
 have gq:=castN g0
 have gc:((gcdL rest 0:Int):Rat)≠0:=castN (by omega)
 have bp:=bpow (h.bl (low.length - 1)) st
 have:n * st<=st * (n + 1):=by rw[Nat.mul_comm];exact Nat.mul_le_mul_left _ (by omega)
 refine⟨by grind,?_⟩
 rw[show α / ((zc low (low.length - 1) ^ st:Int):Rat) * ((gcdL rest 0:Int):Rat)=α * (((gcdL rest 0:Int):Rat) / ((zc low (low.length - 1) ^ st:Int):Rat)) by grind]
 exact szq h.sa (bg.mono (by omega)) (bp.mono (by omega)) g0
end
structure Bg(a b:Nat->Int)(ka kb:Rat)(da db B0:Nat):Prop where
 hka:ka≠0
 hkb:kb≠0
 h0:a da≠0
 ha:∀ i,da < i->a i=0
 hb:∀ i,db < i->b i=0
 hB:0 < B0
 bA:∀ i,(a i).natAbs<=B0
 bB:∀ i,(b i).natAbs<=B0
 hW:∀ e,e<=db->e<=da->((da - e + 1 + (db - e + 1)) * B0) ^ (da - e + 1 + (db - e + 1)) < 2 ^ wd e
structure Iv(a b:Nat->Int)(ka kb:Rat)(da db:Nat)(d:Nat)(high low:List Int)(α β:Rat)(A B:Nat):Prop where
 ch:Ch (Po.C ka * zP a) (Po.C kb * zP b) da db (Po.C α * zL high) (Po.C β * zL low) d
 lh:high.length=d + 1
 d11:d < 12
 bh:Bd (wd d) high
 bl:Bd (wd d) low
 th:zc high d≠0
 tl:0 < low.length->zc low (low.length - 1)≠0
 a0:α≠0
 b0:β≠0
 sa:Sz A α
 sb:Sz B β
 ab:A + B<=Ps d
section
variable {a b:Nat->Int} {ka kb:Rat} {da db B0:Nat}
theorem z5T(G:Bg a b ka kb da db B0){one:Po}{β:Rat}{l:List Int}{e:Nat}(h:Ch (Po.C ka * zP a) (Po.C kb * zP b) da db one (Po.C β * zL l) e)(hb:β≠0)(p:Prim l):Bd (wd e) l:=fun k=>by
 have hd:e<=db/\e<=da:=by obtain⟨s,t,u,v,_,_,_,_,_,_,k4,k5,_⟩:=h;exact⟨k4,k5⟩
 obtain⟨c,W,hc,eW,bW⟩:=zal h G.hka G.hkb G.h0 G.ha G.hb G.hB G.bA G.bB
 have:=zc1 (other:=(Po.C β * zL l).f) (W:=W) (low:=zc l) hc hb eW (fun k=>Po.C_mul _ _ _) p.p k
 exact Nat.lt_of_le_of_lt (Nat.le_trans this (bW k)) (G.hW e hd.1 hd.2)
theorem zaY(s:Sx)(G:Bg a b ka kb da db B0):∀ (m d:Nat) (high low:List Int) (α β:Rat) (A B:Nat),low.length<=m->Iv a b ka kb da db d high low α β A B->Fin s α β high low
 | 0,d,high,low,α,β,A,B,hm,I=>by
  obtain rfl:low=[]:=List.length_eq_zero_iff.mp (by omega)
  exact z3a s α β high
 | m + 1,d,high,low,α,β,A,B,hm,I=>by
  by_cases hl:0 < low.length
  ·generalize he:low.length - 1=e
   have tl:=I.tl hl
   rw[he]at tl
   have hed:e < d:=by
    have ch:=I.ch
    have dg:Dg d (Po.C β * zL low):=by obtain⟨s,t,u,v,_,_,_,_,_,k3,_⟩:=ch;exact k3
    rcases Nat.lt_or_ge e d with z | z
    ·exact z
    ·exact absurd (dg e z) (topL I.b0 tl)
   obtain⟨m1,m2,m3,m4⟩:=lim d I.d11 e hed
   have lh:=I.lh
   have d11:=I.d11
   have g:Sg high low α β (wd d) A B (d - e + 1):=⟨by omega,by unfold wd;omega,I.bh,I.bl,by omega,by omega,fun _=>by rw[show high.length - 1=d by omega];exact I.th,hl,by rw[he];exact tl,fun _=>I.a0,I.b0,I.sa,I.sb,m1,by have:=I.ab;omega⟩
   obtain⟨often,rest,ew,w⟩:=g.whole (highd:=.tuple (high.map .int)) s rfl
   refine z53 s g w ew ?_
   by_cases hr:0 < rest.length
   ·obtain⟨gp,bg,lk,ll,pr,lt⟩:=z0v hr (w.tr hr) w.b2
    obtain⟨nz,sz⟩:=z9y w g hr
    have po:=w.po g
    have wl2:=w.l2
    have wl1:=w.l1
    rw[he]at nz sz po ⊢
    have ch:=zbZ I.ch hed (dgL (by omega)) (topL I.b0 tl) (dgL (by omega)) (dgL (by omega)) po
    exact zaY s G m e low (lowN rest) β _ B _ (by omega) ⟨ch,by omega,by omega,I.bl.mono m4,z5T G ch nz pr,tl,fun _=>by rw[ll];exact lt,I.b0,nz,I.sb,sz,by have:=I.ab;omega⟩
   ·obtain rfl:rest=[]:=List.length_eq_zero_iff.mp (by omega)
    exact z3a s _ _ _
  ·obtain rfl:low=[]:=List.length_eq_zero_iff.mp (by omega)
   exact z3a s α β high
theorem z5U(s:Sx){high low:List Int}{α β:Rat}(G:Bg (zc high) (zc low) α β da db B0)(lh:high.length=da + 1)(ll:low.length=db + 1)(hda:da < 12)(hab:db<=da)(tl:zc low db≠0)(bh:Bd 7 high)(bl:Bd 7 low)(sa:Sz 8 α)(sb:Sz 8 β):Fin s α β high low:=by
 obtain⟨k1,k2,k3⟩:=lim0 da hda db hab
 have g:Sg high low α β 7 8 8 (da - db + 1):=⟨by omega,by decide,bh,bl,by omega,by omega,fun _=>by rw[show high.length - 1=da by omega];exact G.h0,by omega,by rw[show low.length - 1=db by omega];exact tl,fun _=>G.hka,G.hkb,sa,sb,by omega,by omega⟩
 obtain⟨often,rest,ew,w⟩:=g.whole (highd:=.tuple (high.map .int)) s rfl
 refine z53 s g w ew ?_
 by_cases hr:0 < rest.length
 ·obtain⟨gp,bg,lk,lll,pr,lt⟩:=z0v hr (w.tr hr) w.b2
  obtain⟨nz,sz⟩:=z9y w g hr
  have po:=w.po g
  have wl2:=w.l2
  have wl1:=w.l1
  have he:low.length - 1=db:=by omega
  rw[he]at nz sz po ⊢
  have ch:=zak (a0:=Po.C α * zP (zc high)) (b0:=Po.C β * zP (zc low)) (da:=da) (db:=db) hab (topL (l:=high) G.hka G.h0) (dgL (l:=low) (by omega)) (topL (l:=low) G.hkb tl) (dgL (by omega)) (dgL (by omega)) po
  exact zaY s G _ db low (lowN rest) β _ 8 _ (Nat.le_refl _) ⟨ch,by omega,by omega,bl.mono k2,z5T G ch nz pr,tl,fun _=>by rw[lll];exact lt,G.hkb,nz,sb,sz,by omega⟩
 ·obtain rfl:rest=[]:=List.length_eq_zero_iff.mp (by omega)
  exact z3a s _ _ _
end
theorem zaq{l:List Int}(p:Prim l):gcdL l 0=1:=by
 have:=p.p (gcdL l 0:Int) fun k=>by
  by_cases hk:k < l.length
  ·rw[z2d hk];exact(z4Z l 0).2 _ (List.getElem_mem hk)
  ·rw[zY (by omega)];exact Int.dvd_zero _
 omega
theorem z7y(s:Sx){high low:List Int}{α β:Rat}(hlt:high.length < low.length)(lll:low.length<=14)(th:0 < high.length->zc high (high.length - 1)≠0)(tl:zc low (low.length - 1)≠0)(bh:Bd 7 high)(bl:Bd 7 low)(sa:Sz 8 α)(sb:Sz 8 β)(a0:0 < high.length->α≠0)(b0:β≠0)(p:0 < high.length->Prim high)(hf:Fin s β α low high):Fin s α β high low:=by
 have g:Sg high low α β 7 8 8 0:=⟨by omega,by decide,bh,bl,by omega,by omega,th,by omega,tl,a0,b0,sa,sb,by decide,by decide⟩
 obtain⟨often,rest,ew,w⟩:=g.whole (highd:=.tuple (high.map .int)) s rfl
 refine z53 s g w ew ?_
 obtain rfl:often=[]:=List.length_eq_zero_iff.mp w.l1
 have e:=w.eq
 rw[Int.pow_zero,zaX,show Po.C ((1:Int):Rat)=(1:Po) from rfl]at e
 have e2:zL rest=zL high:=by grind
 have ek:∀ k,zc rest k=zc high k:=fun k=>by
  have:(zL rest).f k=(zL high).f k:=by rw[e2]
  exact Rat.intCast_inj.mp this
 have el:rest.length=high.length:=by
  rcases Nat.lt_trichotomy rest.length high.length with z | z | z
  ·exact absurd (by rw[<- ek];exact zY (by omega)) (th (by omega))
  ·exact z
  ·exact absurd (by rw[ek];exact zY (by omega)) (w.tr (by omega))
 obtain rfl:rest=high:=zaW el ek
 by_cases hr:0 < rest.length
 ·have g1:=zaq (p hr)
  have lo:lowN rest=rest:=by
   refine zaW (List.length_map ..) fun k=>?_
   have:=(z0v hr (w.tr hr) w.b2).2.2.1 k
   rw[g1]at this
   omega
  rw[g1,lo,Int.pow_zero,show α / ((1:Int):Rat) * ((1:Nat):Int)=α by show α / (1:Rat) * (1:Rat)=α;grind]
  exact hf
 ·obtain rfl:rest=[]:=List.length_eq_zero_iff.mp (by omega)
  exact z3a s _ _ _
theorem zc8{M B:Nat}{r:Rat}(h:Fit M B r):r.den∣M:=by
 obtain⟨z,e,l⟩:=h
 have h1:r.num * (M:Int)=z * (r.den:Int):=by
  apply Rat.intCast_inj.mp
  rw[Rat.intCast_mul,Rat.intCast_mul,Rat.intCast_natCast,Rat.intCast_natCast,<- z4G r,<- e]
  grind
 have hd:(r.den:Int)∣(M:Int):=z1t (b:=r.num) ⟨z,by rw[h1,Int.mul_comm]⟩ (by rw[Int.gcd_comm];exact r.reduced)
 exact Int.ofNat_dvd.mp hd
theorem zc9{M B:Nat}{r:Rat}(h:Fit M B r){S:Nat}(hS:S∣M)(h0:0 < M){z:Int}(hz:(z:Rat)=r * (S:Rat)):z.natAbs<=B:=by
 obtain⟨y,e,l⟩:=h
 obtain⟨c,rfl⟩:=hS
 have c0:0 < c:=by rcases Nat.eq_zero_or_pos c with q | q;rw[q,Nat.mul_zero]at h0;omega;exact q
 have:z * (c:Int)=y:=by
  apply Rat.intCast_inj.mp
  rw[Rat.intCast_mul,hz,Rat.intCast_natCast,<- e,Rat.natCast_mul]
  grind
 rw[<- this,Int.natAbs_mul,Int.natAbs_natCast]at l
 exact Nat.le_trans (Nat.le_mul_of_pos_right _ c0) l
structure Dr(M B:Nat)(l:List Rat):Prop where
 m0:0 < M
 m4:M<=4
 b0:0 < B
 b7:B<=108
 f:∀ r∈l,Fit M B r
 t:Trim l
 ln:l.length<=12
theorem sz4{M B:Nat}{l:List Rat}(h:Dr M B l){r:Rat}(hr:r∈l):Sz 8 r:=(h.f r hr).sz h.m0 (Nat.lt_of_le_of_lt h.m4 (by decide)) (Nat.lt_of_le_of_lt h.b7 (by decide))
theorem z9z(S:Nat)(l:List Rat)(k:Nat):zc (l.map (zt S)) k=if k < l.length then zt S (co l k) else 0:=by
 by_cases h:k < l.length
 ·rw[if_pos h,z2d (by simpa using h),List.getElem_map]
  congr 1
  unfold co
  rw[List.getD_eq_getElem?_getD,List.getElem?_eq_getElem h];rfl
 ·rw[if_neg h,zY (by simpa using h)]
theorem zdi{l:List Rat}{k:Nat}(h:k < l.length):co l k∈l:=by
 unfold co
 rw[List.getD_eq_getElem?_getD,List.getElem?_eq_getElem h]
 exact List.getElem_mem h
theorem z5V{M B:Nat}{l:List Rat}(s:Sx)(h:Dr M B l) :
  ∃ (α:Rat) (z:List Int),(∀ d,seqOf d=some (l.map enc)->z08 [d] s=some (.tuple [enc α,.tuple (z.map .int)],s))/\row α z=l/\z.length=l.length/\Bd 7 z/\(∀ k,(zc z k).natAbs<=B)/\Sz 8 α/\(0 < l.length->α≠0/\Prim z/\zc z (z.length - 1)≠0):=by
 have lb:=fun(d:D) (hd:seqOf d=some (l.map enc))=>zdd (l:=l) (nd:=d) (n:=8) s (by decide) hd (fun r hr=>sz4 h hr) (by have:=h.ln;omega)
 obtain⟨S,_,S0,S1,dv,mi⟩:=lb (.list (l.map enc)) rfl
 have e1:∀ d,seqOf d=some (l.map enc)->z0d [d] s=some (.int (S:Int),s):=fun d hd=>by
  obtain⟨S',e,_,_,dv',mi'⟩:=lb d hd
  rw[e,Nat.dvd_antisymm (mi' S dv) (mi S' dv')]
 have SM:S∣M:=mi M fun r hr=>zc8 (h.f r hr)
 have S4:S<=4:=Nat.le_trans (Nat.le_of_dvd h.m0 SM) h.m4
 have e2:=fun(d:D) (hd:seqOf d=some (l.map enc))=>zaj (l:=l) (nd:=d) (S:=S) (n:=8) s hd (fun r hr=>sz4 h hr) (Nat.lt_of_le_of_lt S4 (Nat.lt_of_lt_of_le (show 4 < 2 ^ 3 by decide) (Nat.pow_le_pow_right (by decide) (by decide)))) (by have:=h.ln;omega)
 generalize hz:l.map (zt S)=z at *
 have ezd:(l.map fun r=>PyData.int (zt S r))=z.map .int:=by rw[<- hz,List.map_map];rfl
 simp only[ezd]at e2
 have lz:z.length=l.length:=by rw[<- hz,List.length_map]
 have zr:∀ k,((zc z k:Int):Rat)=co l k * (S:Rat):=fun k=>by
  rw[<- hz,z9z]
  by_cases hk:k < l.length
  ·rw[if_pos hk];exact zde (dv _ (zdi hk))
  ·rw[if_neg hk,z02 (by omega)]
   show(0:Rat)=0 * _
   grind
 have zB:∀ k,(zc z k).natAbs<=B:=fun k=>by
  by_cases hk:k < l.length
  ·exact zc9 (h.f _ (zdi hk)) SM h.m0 (zr k)
  ·rw[zY (by omega)];exact Nat.zero_le _
 have bz:Bd 7 z:=fun k=>Nat.lt_of_le_of_lt (zB k) (Nat.lt_of_le_of_lt h.b7 (by decide))
 have e3:=z3S (l:=z) (d:=.list (z.map .int)) s rfl bz (by decide)
 have bS:Bt 3 (S:Int):=by show(S:Int).natAbs < 8;omega
 have Sq:(S:Rat)≠0:=fun y=>by have:=Rat.natCast_eq_zero_iff.mp y;omega
 have run:∀ (g:Nat),Bt 7 (g:Int)->(∀ x∈z,divOk x (g:Int)=true)->gcdL z 0=g->∀ d,seqOf d=some (l.map enc)->z08 [d] s=some (.tuple [enc ((g:Int) / (S:Int):Rat),.tuple ((lowN z).map .int)],s):=fun g bg dk eg d hd=>by
  have e4:=z1a (k:=7) (m:=3) (t:=(g:Int)) (b:=(S:Int)) s (.inl bg) (by decide) bS (by decide) (by omega)
  rw[z2r (by omega),Rat.divInt_eq_div]at e4
  rw[eg]at e3
  have hc:=z0c (T:=.one 0) (Ft:=fTrue) (F:=f2 gDivI (fVar 0) (fVar 1)) (δc:=[.non,.val (.int (g:Int))]) (f:=fun d=>match d with | .int x=>.int (x.fdiv (g:Int)) | _=>.none) (s:=s) (z.map .int) fun d hd=>by
   obtain⟨x,hx,rfl⟩:=List.mem_map.mp hd
   exact⟨[.val (.int x),.val (.int (g:Int))],rfl,rfl,zd (a:=.int x) (b:=.int (g:Int)) rfl rfl (divI (dk x hx))⟩
  have hr:asL z2k [.val d,.val (.int (S:Int)),.val (.list (z.map .int)),.val (.int (g:Int))] s=some (.list ((lowN z).map .int),s):=by
   refine z38 (ds:=z.map .int) (s1:=s) rfl (by rw[List.length_map];have:=h.ln;omega) (hc.trans ?_)
   unfold lowN
   rw[eg,List.map_map,List.map_map];rfl
  refine z0u (n:=1) (m:=3) (G:=z1Z) rfl ?_
  unfold z1Z
  exact zm (z00 (z9 (ds:=[d]) rfl (e1 d hd))) (zm (z00 (z9 (ds:=[.int (S:Int),d]) rfl (e2 d hd))) (zm (z00 (z9 (ds:=[.list (z.map .int)]) rfl e3)) (z04 (zN (ds:=[enc ((g:Int) / (S:Int):Rat),.tuple ((lowN z).map .int)]) (z7 (z9 (ds:=[.int (g:Int),.int (S:Int)]) rfl e4) (z7 (FL:=aNil) (z0e hr rfl) rfl)) (small2 _ _)))))
 by_cases hl:0 < l.length
 ·have tz0:zc z (z.length - 1)≠0:=fun y=>by
   have:=zr (z.length - 1)
   rw[y,lz]at this
   rcases Rat.mul_eq_zero.mp this.symm with q | q
   ·exact h.t hl q
   ·exact Sq q
  obtain⟨gp,bg,lk,ll,pr,lt⟩:=z0v (by omega) tz0 bz
  have bl:∀ k,(zc (lowN z) k).natAbs<=(zc z k).natAbs:=fun k=>by rw[lk k,Int.natAbs_mul];exact Nat.le_mul_of_pos_left _ (by omega)
  refine⟨_,lowN z,run (gcdL z 0) bg (fun x hx=>bg.div (by omega) (by decide)) rfl,?_,by rw[ll,lz],fun k=>Nat.lt_of_le_of_lt (bl k) (bz k),fun k=>Nat.le_trans (bl k) (zB k),(szf (m:=7) bg (bS.mono (by decide)) (by omega)).mono (by decide),fun _=>⟨?_,pr,by rw[ll];exact lt⟩⟩
  ·refine z8S (by rw[zQ,ll,lz]) fun k=>?_
   have e:=zr k
   rw[lk k,Rat.intCast_mul]at e
   rw[z0l]
   show(((gcdL z 0:Nat):Int):Rat) / (((S:Nat):Int):Rat) * _=_
   rw[Rat.intCast_natCast S]
   grind
  ·have g1:(((gcdL z 0:Nat):Int):Rat)≠0:=castN (by omega)
   show(((gcdL z 0:Nat):Int):Rat) / (((S:Nat):Int):Rat)≠0
   rw[Rat.intCast_natCast S]
   grind
 ·obtain rfl:l=[]:=List.length_eq_zero_iff.mp (by omega)
  obtain rfl:z=[]:=List.length_eq_zero_iff.mp (by rw[lz];rfl)
  refine⟨_,[],run 0 (bt0 7) (fun x hx=>nomatch hx) rfl,rfl,rfl,fun k=>bt0 7,fun k=>Nat.zero_le _,(szf (m:=3) (bt0 3) bS (by omega)).mono (by decide),fun y=>absurd y (by decide)⟩
theorem z7z{n m B:Nat}(h:n<=m)(hm:0 < m * B):(n * B) ^ n<=(m * B) ^ m:=Nat.le_trans (Nat.pow_le_pow_left (Nat.mul_le_mul_right _ h) n) (Nat.pow_le_pow_right hm h)
theorem lim6:∀ e,e < 12->((24 - 2 * e) * 6) ^ (24 - 2 * e) < 2 ^ wd e:=by decide +kernel
theorem lim108:∀ e,e < 8->((16 - 2 * e) * 108) ^ (16 - 2 * e) < 2 ^ wd e:=by decide +kernel
def Cs(B L:Nat):Prop:=(B=6/\L=12)\/(B=108/\L=8)
theorem cs_w{B L:Nat}(h:Cs B L){da db e:Nat}(h1:da < L)(h2:db < L)(h3:e<=db)(h4:e<=da):((da - e + 1 + (db - e + 1)) * B) ^ (da - e + 1 + (db - e + 1)) < 2 ^ wd e:=by
 rcases h with ⟨rfl,rfl⟩ | ⟨rfl,rfl⟩
 ·exact Nat.lt_of_le_of_lt (z7z (m:=24 - 2 * e) (by omega) (by omega)) (lim6 e (by omega))
 ·exact Nat.lt_of_le_of_lt (z7z (m:=16 - 2 * e) (by omega) (by omega)) (lim108 e (by omega))
theorem zca(s:Sx){B L:Nat}(hc:Cs B L){high low:List Int}{α β:Rat}(lh:high.length<=L)(ll:low.length<=L)(l0:0 < low.length)(bh:Bd 7 high)(bl:Bd 7 low)(Bh:∀ k,(zc high k).natAbs<=B)(Bl:∀ k,(zc low k).natAbs<=B)(sa:Sz 8 α)(sb:Sz 8 β)
  (fh:0 < high.length->α≠0/\Prim high/\zc high (high.length - 1)≠0) (fl:β≠0/\Prim low/\zc low (low.length - 1)≠0):Fin s α β high low:=by
 have hL:L<=12/\0 < B:=by rcases hc with ⟨rfl,rfl⟩ | ⟨rfl,rfl⟩ <;> decide
 by_cases hh:0 < high.length
 ·obtain⟨a0,ph,th⟩:=fh hh
  have G:Bg (zc high) (zc low) α β (high.length - 1) (low.length - 1) B:=⟨a0,fl.1,th,fun i hi=>zY (by omega),fun i hi=>zY (by omega),hL.2,Bh,Bl,fun e h1 h2=>cs_w hc (by omega) (by omega) h1 h2⟩
  have G':Bg (zc low) (zc high) β α (low.length - 1) (high.length - 1) B:=⟨fl.1,a0,fl.2.2,fun i hi=>zY (by omega),fun i hi=>zY (by omega),hL.2,Bl,Bh,fun e h1 h2=>cs_w hc (by omega) (by omega) h1 h2⟩
  by_cases hlt:high.length < low.length
  ·exact z7y s hlt (by omega) (fun _=>th) fl.2.2 bh bl sa sb (fun _=>a0) fl.1 (fun _=>ph) (z5U s G' (by omega) (by omega) (by omega) (by omega) th bl bh sb sa)
  ·exact z5U s G (by omega) (by omega) (by omega) (by omega) fl.2.2 bh bl sa sb
 ·exact z7y s (by omega) (by omega) (fun z=>absurd z hh) fl.2.2 bh bl sa sb (fun z=>absurd z hh) fl.1 (fun z=>absurd z hh) (by
   obtain rfl:high=[]:=List.length_eq_zero_iff.mp (by omega)
   exact z3a s β α low)
structure Two(s:Sx)(l1 l2:List Rat)(qs:List (List Rat))(last:List Rat):Prop where
 ln:qs.length<=12
 lq:∀ q∈qs,q.length<=14
 P:∀ (od othd:D),seqOf od=some (l1.map enc)->seqOf othd=some (l2.map enc)->z0A [od,othd] s=some (.own (qs.map tupE),s)
 L:z1v [tupE l1,tupE l2] s=some (.tuple [.list (qs.map tupE),tupE last],s)
 R:∀ (c0 c1 c2 c3 c4 c5 c6 c10:Ce),∃ c10',z95 [c0,c1,c2,c3,c4,c5,c6,.own (qs.map tupE),.val (tupE last),.val (.tuple []),c10] s=some (.next [c0,c1,c2,c3,c4,c5,c6,.own (qs.map tupE),.val (tupE l1),.val (tupE l2),c10'],s)
theorem zcb(s:Sx){M B L:Nat}{l1 l2:List Rat}(hc:Cs B L)(h1:Dr M B l1)(h2:Dr M B l2)(n1:l1.length<=L)(n2:l2.length<=L)(n0:0 < l2.length):∃ qs last,Two s l1 l2 qs last:=by
 obtain⟨α,high,w1,r1,ll1,bh,Bh,sa,fh⟩:=z5V s h1
 obtain⟨β,low,w2,r2,ll2,bl,Bl,sb,fl⟩:=z5V s h2
 have fl':=fl n0
 have n12:L<=12:=by rcases hc with ⟨rfl,rfl⟩ | ⟨rfl,rfl⟩ <;> decide
 obtain⟨qs,last,F⟩:=zca s hc (by omega) (by omega) (by omega) bh bl Bh Bl sa sb (fun z=>fh (by omega)) fl'
 refine⟨qs,last,by have:=F.ln;omega,F.lq,fun od othd ho ho2=>?_,?_,fun c0 c1 c2 c3 c4 c5 c6 c10=>?_⟩
 ·have eo:=over2 (m:=8) s sa sb (by decide) (.inl (sa.1.mono (by decide))) (.inl (sb.2.mono (by decide))) fl'.1
  obtain⟨δ,hδ,e⟩:=F.P 400 [] od othd (.val (enc α)) (.val (enc β)) .non .non .non .non (α / β) (by omega) (by show 0 + _ < _;omega) (fun _=>rfl)
  refine zbT (n:=2) (m:=10) (G:=z35) rfl ?_
  unfold z35
  refine zm (δ1:=[.val od,.val othd,.own [],.non,.non,.non,.non,.non,.non,.non,.non,.non]) (s1:=s) (z21 (z7k (ds:=[]) rfl (by decide))) (zm (δ1:=[.val od,.val othd,.own [],.val (enc α),.val (.tuple (high.map .int)),.non,.non,.non,.non,.non,.non,.non]) (s1:=s) ?_ (zm (δ1:=[.val od,.val othd,.own [],.val (enc α),.val (.tuple (high.map .int)),.val (enc β),.val (.tuple (low.map .int)),.non,.non,.non,.non,.non]) (s1:=s) ?_ (zm (z00 (z9 (ds:=[enc α,enc β]) rfl eo)) (zm (δ1:=δ) (s1:=s) (z06 e (by unfold fuel;omega)) ?_))))
  ·unfold sUnp
   rw[z9 (ds:=[od]) rfl (w1 od ho)]
   rfl
  ·unfold sUnp
   rw[z9 (ds:=[othd]) rfl (w2 othd ho2)]
   rfl
  ·unfold sRetO
   rw[hδ]
   rfl
 ·obtain⟨c3,c4,e⟩:=F.L 400 [] .non .non (by omega) (by show 0 + _ < _;omega)
  rw[r1,r2]at e
  refine z0u (n:=2) (m:=3) (G:=z36) rfl ?_
  unfold z36
  exact zm (δ1:=[.val (tupE l1),.val (tupE l2),.own [],.non,.non]) (s1:=s) (z21 (z7k (ds:=[]) rfl (by decide))) (zm (z06 e (by unfold fuel;omega)) (zm (δ1:=[.val (tupE last),.val (.tuple []),.val (.list (qs.map tupE)),c3,c4]) (s1:=s) rfl (z04 (zN (ds:=[.list (qs.map tupE),tupE last]) rfl (small2 _ _)))))
 ·have e:=F.R [] (fun o=>∃ c10',o=some (.next [c0,c1,c2,c3,c4,c5,c6,.own (qs.map tupE),.val (tupE l1),.val (tupE l2),c10'],s)) c0 c1 c2 c3 c4 c5 c6 (.own (qs.map tupE)) (fun c=>⟨c,by rw[r1,r2];rfl⟩) c10
  rw[List.append_nil]at e
  exact e
theorem zar{n k:Nat}{d:D}(s:Sx)(h:IsN n d):zw (k + 2) [d,d] s=some (.bool true,s):=by
 obtain⟨p,q,rfl,_⟩:=h
 exact z98 k p q s
theorem z9A{n k:Nat}{l:List D}(s:Sx)(h:AllN n l)(hb:l.length<=1000):zw (k + 3) [.tuple l,.tuple l] s=some (.bool true,s):=by
 have hz:(l.zip l).map (fun z=>PyData.tuple [z.1,z.2])=l.map fun d=>.tuple [d,d]:=by
  clear hb h
  induction l with
  | nil=>rfl
  | cons a r ih=>simp[ih]
 have hc:compD (.tup [0,1]) fTrue (fCall (zw (k + 2)) (aCons (fVar 0) (aCons (fVar 1) aNil))) [.non,.non] (l.map fun d=>PyData.tuple [d,d]) s=some ((l.map fun d=>PyData.tuple [d,d]).map (fun _=>PyData.bool true),s):=by
  refine z0c _ fun d hd=>?_
  obtain⟨x,hx,rfl⟩:=List.mem_map.mp hd
  exact⟨[.val x,.val x],rfl,rfl,by simp[fCall,aCons,aNil,fVar,zar s (h x hx)]⟩
 have hsm:small (l.map fun d=>PyData.tuple [d,d])=true:=z0r (by simpa using hb)
 have hb2:=z5z (l.map fun d=>PyData.tuple [d,d]) (fun _=>true)
 have ht:(List.map (fun _=>true) (l.map fun d=>PyData.tuple [d,d])).all (fun b=>b)=true:=by simp
 rw[zw]
 simp[mkFn,z15,sSeq,sIf,asB,asT,tOrF,f1,f2,fVar,fC,gIs,sNext,gInst,tyN,tru,sRet,z4C,z6l,gLen,asL,fComp,iZipF,seqOf,compDl]
 rw[hz]
 simp only[hsm,if_true]
 rw[hc]
 simp only[Option.map_some,Option.bind_some,Function.comp,gAll,hb2,ht]
theorem z9B{k:Nat}{l:List D}(h:∀ d∈l,∀ s,zw k [d,d] s=some (.bool true,s))(hb:l.length<=1000)(s:Sx):zw (k + 1) [.list l,.list l] s=some (.bool true,s):=by
 have hz:(l.zip l).map (fun z=>PyData.tuple [z.1,z.2])=l.map fun d=>.tuple [d,d]:=by
  clear hb h
  induction l with
  | nil=>rfl
  | cons a r ih=>simp[ih]
 have hc:compD (.tup [0,1]) fTrue (fCall (zw k) (aCons (fVar 0) (aCons (fVar 1) aNil))) [.non,.non] (l.map fun d=>PyData.tuple [d,d]) s=some ((l.map fun d=>PyData.tuple [d,d]).map (fun _=>PyData.bool true),s):=by
  refine z0c _ fun d hd=>?_
  obtain⟨x,hx,rfl⟩:=List.mem_map.mp hd
  exact⟨[.val x,.val x],rfl,rfl,by simp[fCall,aCons,aNil,fVar,h x hx s]⟩
 have hsm:small (l.map fun d=>PyData.tuple [d,d])=true:=z0r (by simpa using hb)
 have hb2:=z5z (l.map fun d=>PyData.tuple [d,d]) (fun _=>true)
 have ht:(List.map (fun _=>true) (l.map fun d=>PyData.tuple [d,d])).all (fun b=>b)=true:=by simp
 rw[zw]
 simp[mkFn,z15,sSeq,sIf,asB,asT,tOrF,f1,f2,fVar,fC,gIs,sNext,gInst,tyN,tru,sRet,z4C,z6l,gLen,asL,fComp,iZipF,seqOf,compDl]
 rw[hz]
 simp only[hsm,if_true]
 rw[hc]
 simp only[Option.map_some,Option.bind_some,Function.comp,gAll,hb2,ht]
theorem z9C{z:Int}(h:z.natAbs<=3):Fit 2 6 (z:Rat):=⟨z * 2,by rw[Rat.intCast_mul];rfl,by rw[Int.natAbs_mul];show z.natAbs * 2<=6;omega⟩
theorem z3T{n most:Nat}{s:Sx}(h:Good (n + most + 3) s)(hm:most<=20):∃ (l:List Rat) (s':Sx),zX [.dict [],.int (most:Int)] s=some (tupE l,s')/\0 < l.length/\l.length<=most + 1/\(∀ r∈l,Fit 2 6 r)/\co l (l.length - 1)≠0/\Good n s':=by
 obtain⟨j,s1,e1,hj,g1⟩:=zah (n:=n + most + 2) (m:=most + 1) h (by omega) (by omega)
 obtain⟨xs,s2,e2,hx,lx,g2⟩:=z5y (T:=.one 0) (Ft:=fTrue) (F:=eTup (aCons (f2 gSubI (fCall zf (aCons (fVar 1) (aCons (fC (.int 7)) aNil))) (fC (.int 3))) (aCons (fC (.int 1)) aNil))) (δc:=[.non,.val (.dict [])]) (fun d=>∃ r,d=enc r/\Fit 2 6 r) 1 (fun n s d g=>by
  obtain⟨r,s',e,r0,r1,g'⟩:=draw (n:=n) g 7 (by decide) (by decide)
  exact⟨[.val d,.val (.dict [])],enc ((r - 3:Int):Rat),s',rfl,rfl,zN (ds:=[.int (r - 3),.int 1]) (z7 (zd (a:=.int r) (b:=.int 3) (z9 (ds:=[.dict [],.int 7]) rfl e) rfl (subI _ _)) (z7 (FL:=aNil) rfl rfl)) (small2 _ _),⟨_,rfl,z9C (by omega)⟩,g'⟩) (rng 0 j) (n + 2) s1 (g1.mono (by rw[z3R];omega))
 obtain⟨m,rfl,hmf⟩:=rats hx
 rw[List.length_map,z3R]at lx
 obtain⟨r,s3,e3,lr,g3⟩:=z7W (n:=n) g2
 have lm:(m++[r]).length=m.length + 1:=by rw[List.length_append];rfl
 refine⟨m++[r],s3,?_,by omega,by omega,fun x hx=>?_,?_,g3⟩
 ·have e4:asL z2m [.val (.dict []),.val (.int (most:Int))] s=some (.list (m.map enc),s2):=by
   refine z38 (ds:=rng 0 j) (s1:=s1) (z1E (z9 (ds:=[.dict [],.int ((most + 1:Nat):Int)]) (z7 rfl (z7 (FL:=aNil) (zd (a:=.int (most:Int)) (b:=.int 1) rfl rfl (zbR _)) rfl)) e1) (by omega)) (by rw[z3R];omega) e2
  refine z0u (n:=2) (m:=0) (G:=z3o) rfl (z04 (z0e (a:=.list ((m++[r]).map enc)) (zd e4 (z0L (ds:=[enc r]) (z7 (FL:=aNil) (z9 (ds:=[.dict []]) rfl e3) rfl) (z0r (by show 1<=1000;decide))) ?_) rfl))
  rw[List.map_append]
  exact catL (by rw[List.length_map];show m.length + 1<=1000;omega)
 ·rcases List.mem_append.mp hx with hx | hx
  ·exact hmf x hx
  ·rw[List.mem_singleton.mp hx];exact lr.2.1
 ·rw[lm,Nat.add_sub_cancel,zaR,if_neg (by omega),if_pos rfl]
  exact lr.1
theorem z7A{M B M' B':Nat}{q g:Nat->Rat}(hq:∀ i,Fit M B (q i))(hg:∀ i,Fit M' B' (g i))(k:Nat):∀ N,Fit (M * M') (N * (B * B')) (cv N q g k)
 | 0=>Fit.zero _ _
 | N + 1=>by
  rw[cv,Nat.add_mul,Nat.one_mul]
  refine(z7A hq hg k N).add ?_
  unfold sh
  split
  ·exact(hq N).mul (hg _)
  ·rw[Rat.mul_zero];exact Fit.zero _ _
theorem z2n{M B:Nat}{l:List Rat}(h:∀ r∈l,Fit M B r)(k:Nat):Fit M B (co l k):=zd8 (P:=fun r=>Fit M B r) h (Fit.zero _ _) k
theorem zcc{M B:Nat}{l:List Rat}(h:∀ k,Fit M B (co l k)):∀ r∈l,Fit M B r:=fun r hr=>by
 obtain⟨i,hi,rfl⟩:=List.mem_iff_getElem.mp hr
 have:=h i
 unfold co at this
 rwa [List.getD_eq_getElem?_getD,List.getElem?_eq_getElem hi]at this
theorem sz3{r:Rat}(h:Fit 2 6 r):Sz 3 r:=h.sz (by decide) (by decide) (by decide)
theorem sz8{B:Nat}{r:Rat}(h:Fit (2 * 2) B r)(hB:B<=250):Sz 8 r:=h.sz (by decide) (by decide) (Nat.lt_of_le_of_lt hB (by decide))
theorem z9D(s:Sx){a b:List Rat}(la:a.length<=6)(lb:b.length<=3)(a0:0 < a.length)(b0:0 < b.length)(fa:∀ r∈a,Fit 2 6 r)(fb:∀ r∈b,Fit 2 6 r)(ta:co a (a.length - 1)≠0)(tb:co b (b.length - 1)≠0) :
  ∃ p:List Rat,zp [tupE a,tupE b] s=some (tupE p,s)/\Dr 4 108 p/\p.length<=8/\0 < p.length:=by
 have sc:∀ i k,Sz 8 (cv i (co a) (co b) k):=fun i k=>by
  by_cases hi:i<=a.length
  ·exact sz8 (z7A (z2n fa) (z2n fb) k i) (by have:i * (6 * 6)<=6 * (6 * 6):=Nat.mul_le_mul_right _ (by omega);omega)
  ·rw[z5C (N:=a.length) (fun i hi=>z02 hi) (by omega)]
   exact sz8 (z7A (z2n fa) (z2n fb) k _) (by have:a.length * (6 * 6)<=6 * (6 * 6):=Nat.mul_le_mul_right _ la;omega)
 obtain⟨p,e,tp,lp,cp⟩:=z5Q (ad:=tupE a) (bd:=tupE b) (P:=3) (Q:=3) (R:=8) s rfl rfl (by omega) (by omega) (fun k=>sz3 (z2n fa k)) (fun k=>sz3 (z2n fb k)) sc (fun i k=>sz8 ((z2n fa i).mul (z2n fb k)) (by decide)) (by decide) (by decide)
 have cm:∀ k,co p k=ml (co a) (co b) k:=fun k=>by rw[cp,z6F _ _ fun i hi=>z02 hi]
 have fp:∀ k,Fit 4 108 (co p k):=fun k=>by
  rw[cm,z39,<- z6F b.length _ fun i hi=>z02 hi]
  exact(z7A (z2n fb) (z2n fa) k b.length).mono (by have:b.length * (6 * 6)<=3 * (6 * 6):=Nat.mul_le_mul_right _ lb;omega)
 refine⟨p,e,⟨by decide,by decide,by decide,by decide,zcc fp,tp,by omega⟩,by omega,?_⟩
 rcases Nat.eq_zero_or_pos p.length with z | z
 ·have t:=z9p (b:=co b) (n:=b.length - 1) (a.length - 1) (co a) fun i j e ne=>by
   by_cases y:i < a.length - 1
   ·rw[z02 (l:=b) (by omega),Rat.mul_zero]
   ·rw[z02 (l:=a) (by omega),Rat.zero_mul]
  rw[<- cm,z02 (by omega)]at t
  exact absurd t.symm (z4i ta tb)
 ·exact z
theorem z9E{l:List Rat}{δ:Sl}{s:Sx}{i:Nat}(hi:fVar i δ s=some (tupE l,s)):f2 gAddA (fSl (fVar i) pNo (pInt (fC (.int 5)))) (eTup (aCons (eTup (aCons (fC (.int 1)) (aCons (fC (.int 1)) aNil))) aNil)) δ s=some (tupE (l.take 5++[1]),s):=by
 have e1:fSl (fVar i) pNo (pInt (fC (.int 5))) δ s=some (tupE (l.take 5),s):=by
  unfold fSl
  rw[hi]
  show some (PyData.tuple (L3.cutD (l.map enc) none (some ((5:Nat):Int))),s)=_
  rw[z7v,<- List.map_take];rfl
 refine zd e1 (zN (ds:=[enc 1]) (z7 (FL:=aNil) (zN (ds:=[.int 1,.int 1]) rfl (small2 _ _)) rfl) (z0r (by show 1<=1000;decide))) ?_
 have sm:small ((l.take 5).map enc++[enc 1])=true:=z0r (by rw[List.length_append,List.length_map,List.length_take];show _ + 1<=1000;omega)
 show(if small ((l.take 5).map enc++[enc 1])=true then some (PyData.tuple ((l.take 5).map enc++[enc 1])) else none)=_
 rw[if_pos sm]
 unfold tupE
 rw[List.map_append];rfl
theorem dr0{M B:Nat}{l:List Rat}(h:Dr M B l):Dr M B []:=⟨h.m0,h.m4,h.b0,h.b7,(fun r hr=>nomatch hr),(fun z=>absurd z (by decide)),by decide⟩
theorem z5W{l:List Rat}(fl:∀ r∈l,Fit 2 6 r):(l.take 5++[1]).length<=6/\0 < (l.take 5++[1]).length/\(∀ r∈l.take 5++[(1:Rat)],Fit 2 6 r)/\co (l.take 5++[1]) ((l.take 5++[(1:Rat)]).length - 1)≠0:=by
 have ll:(l.take 5++[(1:Rat)]).length=(l.take 5).length + 1:=by rw[List.length_append];rfl
 have l5:(l.take 5).length<=5:=by rw[List.length_take];omega
 refine⟨by omega,by omega,fun r hr=>?_,?_⟩
 ·rcases List.mem_append.mp hr with hr | hr
  ·exact fl r (List.mem_of_mem_take hr)
  ·rw[List.mem_singleton.mp hr];exact z9C (z:=1) (by decide)
 ·rw[ll,Nat.add_sub_cancel,zaR,if_neg (by omega),if_pos rfl];decide
theorem zas{n:Nat}{s:Sx}(h:Good (n + 40) s):∃ (l1 l2:List Rat) (M B L:Nat) (s':Sx),z1w [.dict []] s=some (.tuple [tupE l1,tupE l2],s')/\Cs B L/\Dr M B l1/\Dr M B l2/\l1.length<=L/\l2.length<=L/\0 < l2.length/\Good n s':=by
 obtain⟨x,s1,e1,x0,x1,g1⟩:=draw (n:=n + 39) h 8 (by decide) (by decide)
 obtain⟨most,hm,em⟩:∃ most:Nat,most<=11/\f2 gIx (eLst (aCons (fC (.int 6)) (aCons (fC (.int 11)) aNil))) (f1 gInt (f2 gEq (fCall zf (aCons (fVar 0) (aCons (fC (.int 8)) aNil))) (fC (.int 0)))) [.val (.dict []),.non,.non,.non,.non] s=some (.int (most:Int),s1):=by
  have e2:∀ k:Int,gInt (.bool (decide (x=0)))=some (.int k)->∀ d,gIx (.list [.int 6,.int 11]) (.int k)=some d->f2 gIx (eLst (aCons (fC (.int 6)) (aCons (fC (.int 11)) aNil))) (f1 gInt (f2 gEq (fCall zf (aCons (fVar 0) (aCons (fC (.int 8)) aNil))) (fC (.int 0)))) [.val (.dict []),.non,.non,.non,.non] s=some (d,s1):=fun k hk d hd =>
   zd (a:=.list [.int 6,.int 11]) (b:=.int k) (z0L (ds:=[.int 6,.int 11]) rfl (small2 _ _)) (z0e (a:=.bool (decide (x=0))) (zd (a:=.int x) (b:=.int 0) (z9 (ds:=[.dict [],.int 8]) rfl e1) rfl (z3F _ _)) hk) hd
  by_cases hx:x=0
  ·exact⟨11,by decide,e2 1 (by rw[decide_eq_true hx];rfl) _ rfl⟩
  ·exact⟨6,by decide,e2 0 (by rw[decide_eq_false hx];rfl) _ rfl⟩
 obtain⟨l1,s2,e2,p1,q1,f1',t1,g2⟩:=z3T (n:=n + 39 - most - 3) (most:=most) (s:=s1) (g1.mono (by omega)) (by omega)
 obtain⟨l2,s3,e3,p2,q2,f2',t2,g3⟩:=z3T (n:=n + 39 - most - 3 - most - 3) (most:=most) (s:=s2) (g2.mono (by omega)) (by omega)
 obtain⟨y,s4,e4,y0,y1,g4⟩:=draw (n:=n + 10) (g3.mono (by omega)) 3 (by decide) (by decide)
 obtain⟨r1,r2,M,B,L,s5,c4,e5,hc,d1,d2,n1,n2,n0,g5⟩:∃ (r1 r2:List Rat) (M B L:Nat) (s5:Sx) (c4:Ce),sIf (asB (f2 gEq (fCall zf (aCons (fVar 0) (aCons (fC (.int 3)) aNil))) (fC (.int 0)))) (sSeq (sSet 4 (fCall zX (aCons (fVar 0) (aCons (fC (.int 2)) aNil))))
 (sPar 2 3 (aCons (fCall zp (aCons (f2 gAddA (fSl (fVar 2) pNo (pInt (fC (.int 5)))) (eTup (aCons (eTup (aCons (fC (.int 1)) (aCons (fC (.int 1)) aNil))) aNil))) (aCons (fVar 4) aNil))) (aCons (fCall zp (aCons (f2 gAddA (fSl (fVar 3) pNo (pInt (fC (.int 5)))) (eTup (aCons (eTup (aCons (fC (.int 1)) (aCons (fC (.int 1)) aNil))) aNil))) (aCons (fVar 4) aNil))) aNil)))) sNext [.val (.dict []),.val (.int (most:Int)),.val (tupE l1),.val (tupE l2),.non] s3=some (.next [.val (.dict []),.val (.int (most:Int)),.val (tupE r1),.val (tupE r2),c4],s5)/\Cs B L/\Dr M B r1/\Dr M B r2/\r1.length<=L/\r2.length<=L/\0 < r2.length/\Good (n + 1) s5:=by
  have ec:asB (f2 gEq (fCall zf (aCons (fVar 0) (aCons (fC (.int 3)) aNil))) (fC (.int 0))) [.val (.dict []),.val (.int (most:Int)),.val (tupE l1),.val (tupE l2),.non] s3=some (decide (y=0),s4):=z9f (zd (a:=.int y) (b:=.int 0) (z9 (ds:=[.dict [],.int 3]) rfl e4) rfl (z3F _ _))
  by_cases hy:y=0
  ·rw[decide_eq_true hy]at ec
   obtain⟨fa,s5,e6,p3,q3,f3',t3,g5⟩:=z3T (n:=n + 1) (most:=2) (s:=s4) (g4.mono (by omega)) (by decide)
   obtain⟨a1,a2,a3,a4⟩:=z5W f1'
   obtain⟨b1,b2,b3,b4⟩:=z5W f2'
   obtain⟨u,eu,du,nu,_⟩:=z9D s5 a1 q3 a2 p3 a3 f3' a4 t3
   obtain⟨v,ev,dv,nv,n0⟩:=z9D s5 b1 q3 b2 p3 b3 f3' b4 t3
   refine⟨u,v,4,108,8,s5,.val (tupE fa),zd9 ec (zm (z00 (z9 (ds:=[.dict [],.int ((2:Nat):Int)]) rfl e6)) ?_),.inr ⟨rfl,rfl⟩,du,dv,nu,nv,n0,g5⟩
   unfold sPar
   rw[z7 (d:=tupE u) (s1:=s5) (ds:=[tupE v]) (s2:=s5) (z9 (ds:=[tupE (l1.take 5++[1]),tupE fa]) (z7 (z9E rfl) rfl) eu) (z7 (FL:=aNil) (z9 (ds:=[tupE (l2.take 5++[1]),tupE fa]) (z7 (z9E rfl) rfl) ev) rfl)]
   rfl
  ·rw[decide_eq_false hy]at ec
   exact⟨l1,l2,2,6,12,s4,.non,z9c ec rfl,.inl ⟨rfl,rfl⟩,⟨by decide,by decide,by decide,by decide,f1',fun _=>t1,by omega⟩,⟨by decide,by decide,by decide,by decide,f2',fun _=>t2,by omega⟩,by omega,by omega,p2,g4.mono (by omega)⟩
 obtain⟨w,s6,e6,w0,w1,g6⟩:=draw (n:=n) g5 5 (by decide) (by decide)
 obtain⟨k1,ek,hk⟩:∃ k1:List Rat,gIx (.list [.tuple [tupE r1,tupE r2],.tuple [tupE r1,tupE r2],.tuple [tupE r1,tupE r2],.tuple [.tuple [],tupE r2],.tuple [tupE r2,tupE r2]]) (.int w)=some (.tuple [tupE k1,tupE r2])/\(k1=r1\/k1=[]\/k1=r2):=by
  have cs:w=0\/w=1\/w=2\/w=3\/w=4:=by omega
  rcases cs with rfl | rfl | rfl | rfl | rfl
  ·exact⟨r1,rfl,.inl rfl⟩
  ·exact⟨r1,rfl,.inl rfl⟩
  ·exact⟨r1,rfl,.inl rfl⟩
  ·exact⟨[],rfl,.inr (.inl rfl)⟩
  ·exact⟨r2,rfl,.inr (.inr rfl)⟩
 refine⟨k1,r2,M,B,L,s6,?_,hc,?_,d2,?_,n2,n0,g6⟩
 ·refine z0u (n:=1) (m:=4) (G:=z37) rfl ?_
  unfold z37
  refine zm (z00 em) (zm (δ1:=[.val (.dict []),.val (.int (most:Int)),.val (tupE l1),.val (tupE l2),.non]) (s1:=s3) ?_ (zm e5 (z04 (zd (a:=.list [.tuple [tupE r1,tupE r2],.tuple [tupE r1,tupE r2],.tuple [tupE r1,tupE r2],.tuple [.tuple [],tupE r2],.tuple [tupE r2,tupE r2]]) (b:=.int w) (z0L (ds:=[.tuple [tupE r1,tupE r2],.tuple [tupE r1,tupE r2],.tuple [tupE r1,tupE r2],.tuple [.tuple [],tupE r2],.tuple [tupE r2,tupE r2]]) ?_ (z0r (by show 5<=1000;decide))) (z9 (ds:=[.dict [],.int 5]) rfl e6) ek))))
  ·unfold sPar
   rw[z7 (d:=tupE l1) (s1:=s2) (ds:=[tupE l2]) (s2:=s3) (z9 (ds:=[.dict [],.int (most:Int)]) rfl e2) (z7 (FL:=aNil) (z9 (ds:=[.dict [],.int (most:Int)]) rfl e3) rfl)]
   rfl
  ·have tp:∀ (Fa Fb:FE) (a b:D),Fa [.val (.dict []),.val (.int (most:Int)),.val (tupE r1),.val (tupE r2),c4] s5=some (a,s5)->Fb [.val (.dict []),.val (.int (most:Int)),.val (tupE r1),.val (tupE r2),c4] s5=some (b,s5)->eTup (aCons Fa (aCons Fb aNil)) [.val (.dict []),.val (.int (most:Int)),.val (tupE r1),.val (tupE r2),c4] s5=some (.tuple [a,b],s5):=fun Fa Fb a b h1 h2=>zN (ds:=[a,b]) (z7 h1 (z7 (FL:=aNil) h2 rfl)) (small2 _ _)
   exact z7 (tp _ _ _ _ rfl rfl) (z7 (tp _ _ _ _ rfl rfl) (z7 (tp _ _ _ _ rfl rfl) (z7 (tp _ _ _ _ (zN (ds:=[]) rfl (by decide)) rfl) (z7 (FL:=aNil) (tp _ _ _ _ rfl rfl) rfl))))
 ·rcases hk with rfl | rfl | rfl
  ·exact d1
  ·exact dr0 d1
  ·exact d2
 ·rcases hk with rfl | rfl | rfl
  ·exact n1
  ·exact Nat.zero_le _
  ·exact n2
theorem z54(k:Nat){q:List Rat}(h:q.length<=1000)(s:Sx):zw (k + 3) [tupE q,tupE q] s=some (.bool true,s):=by
 obtain⟨n,hn⟩:=z6K q
 exact z9A s hn (by rw[List.length_map];exact h)
theorem z9F{qs:List (List Rat)}(h:∀ q∈qs,q.length<=14)(hl:qs.length<=12)(s:Sx):g__law_same [.list (qs.map tupE),.list (qs.map tupE)] s=some (.bool true,s) :=
 z9B (k:=5) (fun d hd s=>by
  obtain⟨q,hq,rfl⟩:=List.mem_map.mp hd
  exact z54 2 (by have:=h q hq;omega) s) (by rw[List.length_map];omega) s
theorem z7B{n:Nat}{s:Sx}{c0 c2 c3 c4 c5 c6 c7 c8 c9 c10:Ce}(h:Good (n + 40) s):∃ (s':Sx) (d3 d4 d5 d6 d7 d8 d9 d10:Ce),z4W [c0,.val (.dict []),c2,c3,c4,c5,c6,c7,c8,c9,c10] s=some (.next [c0,.val (.dict []),c2,d3,d4,d5,d6,d7,d8,d9,d10],s')/\Good n s':=by
 obtain⟨l1,l2,M,B,L,s1,e1,hc,d1,d2,n1,n2,n0,g1⟩:=zas h
 obtain⟨qs,last,T⟩:=zcb s1 hc d1 d2 n1 n2 n0
 have sl:=z9F T.lq T.ln s1
 have ps:=T.P (tupE l1) (tupE l2) rfl rfl
 have pl:=T.P (.list (l1.map enc)) (.list (l2.map enc)) rfl rfl
 obtain⟨c10',er⟩:=T.R c0 (.val (.dict [])) c2 (.val (tupE l1)) (.val (tupE l2)) (.val (.list (qs.map tupE))) (.val (tupE last)) c10
 have s2:g__law_same [.list [tupE l1,tupE l2],.list [tupE l1,tupE l2]] s1=some (.bool true,s1):=by
  have z1:=d1.ln
  have z2:=d2.ln
  refine z9B (k:=5) (fun d hd s=>?_) (by show 2<=1000;decide) s1
  rcases List.mem_cons.mp hd with rfl | hd
  ·exact z54 2 (by omega) s
  ·rw[List.mem_singleton.mp hd];exact z54 2 (by omega) s
 refine⟨s1,.val (tupE l1),.val (tupE l2),.val (.list (qs.map tupE)),.val (tupE last),.own [],.val (tupE l1),.val (tupE l2),c10',?_,g1⟩
 unfold z4W
 refine zm (δ1:=[c0,.val (.dict []),c2,.val (tupE l1),.val (tupE l2),c5,c6,c7,c8,c9,c10]) (s1:=s1) ?_ (zm (δ1:=[c0,.val (.dict []),c2,.val (tupE l1),.val (tupE l2),.val (.list (qs.map tupE)),.val (tupE last),c7,c8,c9,c10]) (s1:=s1) ?_ (zm (z9d (z7X (ds:=[tupE l1,tupE l2]) rfl ps)) (zm (z9c (s':=s1) (zda (s1:=s1) (z4X (b:=true) (zai ?_)) (z4X (b:=true) (zai (z9 (ds:=[.list (qs.map tupE),.list (qs.map tupE)]) (z7 (z9 (ds:=[.list (l1.map enc),.list (l2.map enc)]) rfl (z9e pl)) rfl) sl)))) rfl) (zm (δ1:=[c0,.val (.dict []),c2,.val (tupE l1),.val (tupE l2),.val (.list (qs.map tupE)),.val (tupE last),.own (qs.map tupE),.val (tupE last),.val (.tuple []),c10]) (s1:=s1) ?_ (zm er (zm (z9c (s':=s1) (z4X (b:=true) (zai (z9 (ds:=[.list [tupE l1,tupE l2],.list [tupE l1,tupE l2]]) (z7 (z0L (ds:=[tupE l1,tupE l2]) rfl (small2 _ _)) (z7 (FL:=aNil) (z0L (ds:=[tupE l1,tupE l2]) rfl (small2 _ _)) rfl)) s2))) rfl) (zm (δ1:=[c0,.val (.dict []),c2,.val (tupE l1),.val (tupE l2),.val (.list (qs.map tupE)),.val (tupE last),.own [],.val (tupE l1),.val (tupE l2),c10']) (s1:=s1) rfl (z9c (s':=s1) (z4X (b:=true) (zai (z9 (ds:=[.list (qs.map tupE),.list (qs.map tupE)]) (z7 (z9 (ds:=[tupE l1,tupE l2]) rfl (z9e ps)) rfl) sl))) rfl))))))))
 ·unfold sUnp
  rw[z9 (ds:=[.dict []]) rfl e1]
  rfl
 ·unfold sUnp
  rw[z9 (ds:=[tupE l1,tupE l2]) rfl T.L]
  rfl
 ·unfold fCallB
  show((g__law_same [.list (qs.map tupE),.list (qs.map tupE)] s1).bind _)=_
  rw[sl]
  rfl
 ·unfold sPar
  rw[z7 (d:=tupE last) (s1:=s1) (ds:=[.tuple []]) (s2:=s1) rfl (z7 (FL:=aNil) (zN (ds:=[]) rfl (by decide)) rfl)]
  rfl
theorem zcd:∀ cells:List Int,0 < cells.length->cells.length<=63->∃ s',zab zaa (cells,0)=some (.ret (.bool true),s'):=fun cells h0 h1=>by
 have g0:Good (0 + 40 + 40) ((cells,0):Sx):=⟨h0,h1,(by show(0:Int)<=0;decide),(by show(0:Int) + ((0 + 40 + 40:Nat):Int) < 1000000;decide)⟩
 obtain⟨s1,a3,a4,a5,a6,a7,a8,a9,a10,e1,g1⟩:=z7B (n:=0 + 40) (c0:=.non) (c2:=.val (.int (0 + ((0:Nat):Int)))) (c3:=.non) (c4:=.non) (c5:=.non) (c6:=.non) (c7:=.non) (c8:=.non) (c9:=.non) (c10:=.non) g0
 obtain⟨s2,b3,b4,b5,b6,b7,b8,b9,b10,e2,g2⟩:=z7B (n:=0) (c0:=.non) (c2:=.val (.int (0 + ((1:Nat):Int)))) (c3:=a3) (c4:=a4) (c5:=a5) (c6:=a6) (c7:=a7) (c8:=a8) (c9:=a9) (c10:=a10) g1
 refine⟨s2,?_⟩
 unfold zab
 refine zm (δ1:=[.non,.val (.dict []),.val (.int (0 + ((1:Nat):Int))),b3,b4,b5,b6,b7,b8,b9,b10]) (s1:=s2) ?_ rfl
 unfold z96 sFor
 rw[z1E (n:=2) (s':=(cells,0)) rfl (by decide)]
 show forD (.one 2) z4W [.int (0 + ((0:Nat):Int)),.int (0 + ((1:Nat):Int))] zaa (cells,0)=_
 refine z22 (δ1:=[.non,.val (.dict []),.val (.int (0 + ((0:Nat):Int))),.non,.non,.non,.non,.non,.non,.non,.non]) (δ2:=[.non,.val (.dict []),.val (.int (0 + ((0:Nat):Int))),a3,a4,a5,a6,a7,a8,a9,a10]) (s1:=s1) rfl e1 ?_
 exact z22 (δ1:=[.non,.val (.dict []),.val (.int (0 + ((1:Nat):Int))),a3,a4,a5,a6,a7,a8,a9,a10]) (δ2:=[.non,.val (.dict []),.val (.int (0 + ((1:Nat):Int))),b3,b4,b5,b6,b7,b8,b9,b10]) (s1:=s2) rfl e2 rfl
theorem zdj{f:Addr}{fd:FuncData}(F:Fun K "law" "law" z6x f fd)(hb:∃ f fd,FnOk P w K mg base CX0 1 f fd ["_law_script"] (spBegin K)/\mg "_law_begin"=some (.ref f)/\PySem.W.keepIn K (.ref f)=true/\Binds K fd ["_law_script"] [])(z2c:Cal P w K mg base "partings" ["one","other"] 6 z2a)(z0D:Cal P w K mg base "_law_same" ["_law_found","_law_due_here"] 7 g__law_same)(zW:Cal P w K mg base "_law_product" ["_law_one","_law_other"] 3 zp)(z23:Cal P w K mg base "_law_added" ["_law_one","_law_other"] 3 z0b)(z3b:Cal P w K mg base "_law_due" ["_law_one","_law_other"] 4 z1v)(z3c:Cal P w K mg base "_law_two" ["_law_state"] 4 z1w)(hC_partings:CalC P w K mg base "partings" ["one","other"] 6 z0A)(z03:mg "list"=none)(z0f:mg "range"=none)(z0Z:mg "reversed"=none)
  (run:∀ cells:List Int,0 < cells.length->cells.length<=63->∃ s',zab zaa (cells,0)=some (.ret (.bool true),s')):FnOk P w K mg base CX0 8 f fd ["_law_script"] (spLaw K):=by
 obtain⟨fb,fdb,Gb,mb,kb,bb⟩:=hb
 have nd:=sc_law.nd
 refine F.ok sc_law (fun vs H Q E zez=>by obtain⟨a,ns,e,_⟩:=zez;subst e;rfl) (fun cdv A outer s H vs Q E hr zeA=>?_)
 obtain⟨a,ns,e,sq,hl,q⟩:=zeA
 subst e
 refine⟨_,z0E (z2F (i:=1) nd rfl (by first | exact Or.inl rfl | exact Or.inr rfl) (z4m Gb (hr.mono (by decide)) rfl mb kb bb .nil pass0 (zK (pv 0) z0o)))
  (DSs.any ((dss_cons (z2g (z2P z0f de_int) (z0p (i:=2) nd) (dss_cons (z3C (zh z3c hr (z3 (dv 1) z8)) (z1c (zu (i:=3) nd (zu (i:=4) nd z0q))))
   (dss_cons (z3C (zh z3b hr (z3 (dv 3) (z3 (dv 4) z8))) (z1c (zu (i:=5) nd (zu (i:=6) nd z0q))))
   (dss_cons (zbF (i:=7) nd (zd2 hC_partings hr (z3 (dv 3) (z3 (dv 4) z8))))
   (dss_cons (z2Y (zbj (z71 (z2h (zbx z0D hr (z7e (dvv 7) (z7e (dv 5).v zbw))).w (fun _=>rfl))) (z8A (z71 (z2h (zh z0D hr (z3 (zh z2c hr (z3 (z3q z6h rfl z03 (dv 3).w) (z3 (z3q z6h rfl z03 (dv 4).w) z8))) (z3 (dv 5) z8))).w (fun _=>rfl))))).t (ze (zJ z6g)) z0y)
   (dss_cons (z1I (i:=8) (j:=9) nd (by decide) (z3 (dv 6) (z3 (zR z8) z8)) (by rfl))
   (dss_cons (zbK (i:=7) (u:=8) (v:=9) (pv 7) z0Z (z0p (i:=10) nd) nd (by decide) (z3 (zh z23 hr (z3 (zh zW hr (z3 (dv 10) (z3 (dv 8) z8))) (z3 (dv 9) z8))) (z3 (dv 8) z8)) (by rfl))
   (dss_cons (z2Y (z71 (z2h (zh z0D hr (z3 (z1b (z3 (dv 8) (z3 (dv 9) z8))) (z3 (z1b (z3 (dv 3) (z3 (dv 4) z8))) z8))).w (fun _=>rfl))) (ze (zJ z6g)) z0y)
   (dss_cons (zd3 (i:=7) (pv 7))
   (ze (z2Y (z71 (z2h (zh z0D hr (z3 (zh z2c hr (z3 (dv 3) (z3 (dv 4) z8))) (z3 (dv 5) z8))).w (fun _=>rfl))) (ze (zJ z6g)) z0y)))))))))))
   (ze (zJ z6g))):DSs _ _ zab)),?_⟩
 refine⟨_,rfl,a,ns,rfl,sq,hl,fun st c H' same h1 h2=>?_⟩
 obtain⟨s',hrun⟩:=run (beginCells ns) (z5u ns hl).1 (z5u ns hl).2
 refine⟨some (st,c),[],[],zaa,(beginCells ns,0),_,s',Al.repS (.non (.val (.st rfl) (.non (.non (.non (.non (.non (.non (.non (.non (.non .nil))))))))))) (fun q hq=>nomatch hq) (fun b o eb _=>same b o eb),(fun a c h=>by cases h;exact⟨h1,h2⟩),hrun,fun v H2 x S r=>by cases r;exact q H2⟩
end
theorem all_mk{l:PySem.W.OpenLaw}{w:World}{K:PySem.W.Frag}{h:Heap}{mg:Str->Option Value}{fa:Addr}(X:K.In h)(G:h.Ns mainGlobals mg)(hfa:mg "law"=some (.ref fa))
  {t_GREAT_BITS:Nat}
  (d0:FD K "greatest_divisor" z0s)
  (d1:FD K "leapt" z8Z)
  (d2:FD K "number" z4K)
  (d3:FD K "times" z6w)
  (d4:FD K "over" z90)
  (d5:FD K "least_below" z1A)
  (d6:FD K "tops_over" z1B)
  (d7:FD K "divisor_of" z1Q)
  (d8:FD K "to_power" z31)
  (d9:FD K "trimmed" z3K)
  (d10:FD K "whole_parted" z0g)
  (d11:FD K "partings" z29)
  (d12:FD K "with_share" z1e)
  (d13:FD K "taken" z4L)
  (d14:FD K "_law_begin" z1R)
  (d15:FD K "_law_take" z2t)
  (d16:FD K "_law_same" z2u)
  (d17:FD K "_law_part" z2v)
  (d18:FD K "_law_plus" z2w)
  (d19:FD K "_law_minus" z1S)
  (d20:FD K "_law_times" z1T)
  (d21:FD K "_law_over" z2x)
  (d22:FD K "_law_small" z1U)
  (d23:FD K "_law_trimmed" z1n)
  (d24:FD K "_law_product" z1o)
  (d25:FD K "_law_parted" z1C)
  (d26:FD K "_law_added" z1f)
  (d27:FD K "_law_drawn" z1g)
  (d28:FD K "_law_due" z32)
  (d29:FD K "_law_two" z33)
  (d30:FD K "law" z6x)
  (z_abs:PySem.W.nsIn K mainGlobals "abs"=some none)
  (z_all:PySem.W.nsIn K mainGlobals "all"=some none)
  (z_bool:PySem.W.nsIn K mainGlobals "bool"=some none)
  (z_divmod:PySem.W.nsIn K mainGlobals "divmod"=some none)
  (z_enumerate:PySem.W.nsIn K mainGlobals "enumerate"=some none)
  (z_int:PySem.W.nsIn K mainGlobals "int"=some none)
  (z_isinstance:PySem.W.nsIn K mainGlobals "isinstance"=some none)
  (z_len:PySem.W.nsIn K mainGlobals "len"=some none)
  (z_list:PySem.W.nsIn K mainGlobals "list"=some none)
  (z_max:PySem.W.nsIn K mainGlobals "max"=some none)
  (z_range:PySem.W.nsIn K mainGlobals "range"=some none)
  (z_reversed:PySem.W.nsIn K mainGlobals "reversed"=some none)
  (z_str:PySem.W.nsIn K mainGlobals "str"=some none)
  (z_tuple:PySem.W.nsIn K mainGlobals "tuple"=some none)
  (z_zip:PySem.W.nsIn K mainGlobals "zip"=some none)
  (y_GREAT_BITS:PySem.W.nsIn K mainGlobals "GREAT_BITS"=some (some (.int 2000 t_GREAT_BITS))) :
  ∃ fd:FuncData,(∀ (s:Shared) (v:Value),BindsTo s fd ⟨[v],[]⟩ [("_law_script",v)])/\∀ base:Heap,K.In base->base.Ns mainGlobals mg->FnOk l.prog w K mg base CX0 8 fa fd ["_law_script"] (spLaw K):=by
 cases d30 with
 | @mk fL od an sl oc kV dc pm cd ct aL lL cL kL =>
 have e:=hfa.symm.trans (PySem.W.mg_of X G aL)
 cases e
 have z66:=PySem.W.mg_none_of X G z_abs
 have zau:=PySem.W.mg_none_of X G z_all
 have z7C:=PySem.W.mg_none_of X G z_bool
 have z57:=PySem.W.mg_none_of X G z_divmod
 have z0j:=PySem.W.mg_none_of X G z_enumerate
 have z42:=PySem.W.mg_none_of X G z_int
 have zA:=PySem.W.mg_none_of X G z_isinstance
 have z05:=PySem.W.mg_none_of X G z_len
 have z03:=PySem.W.mg_none_of X G z_list
 have z58:=PySem.W.mg_none_of X G z_max
 have z0f:=PySem.W.mg_none_of X G z_range
 have z0Z:=PySem.W.mg_none_of X G z_reversed
 have z9H:=PySem.W.mg_none_of X G z_str
 have zI:=PySem.W.mg_none_of X G z_tuple
 have z6U:=PySem.W.mg_none_of X G z_zip
 have c_GREAT_BITS:Cst K mg "GREAT_BITS" (.int 2000):=⟨fun hK hm hg=>zbs (by rw[hm];exact PySem.W.mg_of X G y_GREAT_BITS) hg (by decide +kernel)⟩
 have z2V:=FD.is X G d0
 have zce:=FD.is X G d1
 have zat:=FD.is X G d2
 have zcg:=FD.is X G d3
 have zdk:=FD.is X G d4
 have z56:=FD.is X G d5
 have z6T:=FD.is X G d6
 have z64:=FD.is X G d7
 have z81:=FD.is X G d8
 have z9G:=FD.is X G d9
 have z41:=FD.is X G d10
 have z80:=FD.is X G d11
 have z65:=FD.is X G d12
 have zcf:=FD.is X G d13
 have z5Z:=FD.is X G d14
 have z6S:=FD.is X G d15
 have z6R:=FD.is X G d16
 have z6P:=FD.is X G d17
 have z6Q:=FD.is X G d18
 have z61:=FD.is X G d19
 have z63:=FD.is X G d20
 have z6O:=FD.is X G d21
 have z62:=FD.is X G d22
 have z40:=FD.is X G d23
 have z3Z:=FD.is X G d24
 have z55:=FD.is X G d25
 have z5Y:=FD.is X G d26
 have z60:=FD.is X G d27
 have z7Y:=FD.is X G d28
 have z7Z:=FD.is X G d29
 refine⟨PySem.W.fnOf "law" "law" (defArgs z6x) (defBody z6x) (defScope z6x) .none kV dc pm an cd ct,fun s v=>.of_eq rfl,fun base _ _=>?_⟩
 have z6L:Cal l.prog w K mg base "leapt" ["one","other"] 1 z4M:=za5 zce
 have zq:Cal l.prog w K mg base "greatest_divisor" ["one","other"] 2 zn:=z2y z2V z6L z66 c_GREAT_BITS
 have z0w:Cal l.prog w K mg base "number" ["top","below"] 3 zS:=z91 zat zq
 have z6N:Cal l.prog w K mg base "times" ["one","other"] 4 z2z:=za6 zcg z0w
 have z4j:Cal l.prog w K mg base "over" ["one","other"] 4 z1u:=zbL zdk z0w
 have z1G:Cal l.prog w K mg base "least_below" ["numbers"] 3 z0d:=z3X z56 zq
 have z2D:Cal l.prog w K mg base "tops_over" ["share","numbers"] 1 z14:=z5F z6T
 have z0n:Cal l.prog w K mg base "divisor_of" ["wholes"] 3 zT:=z4O z64 zq
 have z3d:Cal l.prog w K mg base "to_power" ["base","exponent"] 1 z0z:=z6y z81 z0f
 have z3U:Cal l.prog w K mg base "trimmed" ["nought","row"] 1 z1Y:=z7V z9G z05 zI
 have z1q:Cal l.prog w K mg base "whole_parted" ["high","low"] 2 zx:=z3M z41 z3U z05 z03 z0f z0Z zI
 have z1k:Cal l.prog w K mg base "with_share" ["one"] 4 z08:=z4P z65 z0w z1G z2D z0n zI
 have z6M:Cal l.prog w K mg base "taken" ["wholes","share"] 5 z2A:=za7 zcf z6N zI
 have hC_partings:CalC l.prog w K mg base "partings" ["one","other"] 6 z0A:=z6z z80 z4j z0n z3d z1q z1k z6M z05 zI
 have z2c:Cal l.prog w K mg base "partings" ["one","other"] 6 z2a:=hC_partings.cal
 have z5X:=z4Q (P:=l.prog) (w:=w) (base:=base) z5Z z03
 have zH:Cal l.prog w K mg base "_law_take" ["_law_state","_law_many"] 1 zf:=z5H z6S z05 z57
 have z0D:Cal l.prog w K mg base "_law_same" ["_law_found","_law_due_here"] 7 g__law_same:=z2T z6R zau z7C z42 zA z05 z03 z9H zI z6U 6
 have zy:Cal l.prog w K mg base "_law_part" ["_law_top","_law_below"] 1 zG:=z5I z6P z66 z42
 have z0C:Cal l.prog w K mg base "_law_plus" ["_law_one","_law_other"] 2 z09:=z5J z6Q zy
 have z24:Cal l.prog w K mg base "_law_minus" ["_law_one","_law_other"] 2 z0M:=z4R z61 zy
 have z0m:Cal l.prog w K mg base "_law_times" ["_law_one","_law_other"] 2 z0a:=z4S z63 zy
 have z2C:Cal l.prog w K mg base "_law_over" ["_law_one","_law_other"] 2 z16:=z5K z6O zy
 have z25:Cal l.prog w K mg base "_law_small" ["_law_state"] 2 z0k:=z4T z62 zH zy
 have zF:Cal l.prog w K mg base "_law_trimmed" ["_law_numbers"] 1 zE:=z3P z40 z03 zI
 have zW:Cal l.prog w K mg base "_law_product" ["_law_one","_law_other"] 3 zp:=z3Q z3Z z0C z0m zF z0j z05 z58
 have z1F:Cal l.prog w K mg base "_law_parted" ["_law_one","_law_other"] 3 z01:=z3Y z55 z24 z0m z2C zF z0j z05 z03 z58 z0f
 have z23:Cal l.prog w K mg base "_law_added" ["_law_one","_law_other"] 3 z0b:=z4U z5Y z0C zF z05 z03 z58 z6U
 have z0N:Cal l.prog w K mg base "_law_drawn" ["_law_state","_law_most"] 3 zX:=z4V z60 zH z25 z0f zI
 have z3b:Cal l.prog w K mg base "_law_due" ["_law_one","_law_other"] 4 z1v:=z6A z7Y z1F
 have z3c:Cal l.prog w K mg base "_law_two" ["_law_state"] 4 z1w:=z6B z7Z zH zW z0N z42
 exact zdj (zaE (st:=z6x) lL cL kL) z5X z2c z0D zW z23 z3b z3c hC_partings z03 z0f z0Z zcd
theorem walk{l:PySem.W.OpenLaw}{q:Program}{loose:List Str}{XP:(Str->Option Value)->Heap->Prop}{YP:World->Heap->Prop}{d:DefRec}{K:Params->PySem.W.Frag}(hn:l.most=some 63)(hdf:d.params.defaults=[])
  (hY:∀ (w:World) (h:Heap),YP w h->(K w.params).In h)
  (F:∀ (w:World) (mg:Str->Option Value) (fa:Addr) (h:Heap),(K w.params).In h->h.Ns mainGlobals mg->mg d.name=some (.ref fa) ->
   ∃ fd:FuncData,(∀ (s:Shared) (u:Value),BindsTo s fd ⟨[u],[]⟩ [("_law_script",u)])/\∀ base:Heap,(K w.params).In base->base.Ns mainGlobals mg->FnOk l.prog w (K w.params) mg base CX0 8 fa fd ["_law_script"] (spLaw (K w.params))) :
  PySem.W.WalkO q loose XP YP l.row.toRowW d [] (fun f vs=>PySem.call f vs) :=
 L2.walk_ofK (n:=63) (k:=8) (x:="_law_script") (CX:=CX0) (sp:=spLaw) hn (by decide) hdf ⟨rfl,by decide,by decide⟩ hY F (fun _ H a ns hl _ hS=>⟨a,ns,rfl,hS,hl,fun _=>rfl⟩) fun _ _ _ _ z=>z
end Law
namespace PySem.W.Fast
theorem tw14334332587064580873:True:=⟨⟩
theorem tw1950576001147867464:True:=⟨⟩
theorem tw18256941134357434897:True:=⟨⟩
theorem tw16062135089976926081:True:=⟨⟩
theorem tw6269491435430785720:True:=⟨⟩
theorem tw8978113228835143821:True:=⟨⟩
theorem tw5102256890353522039:True:=⟨⟩
theorem tw9548991462878007991:True:=⟨⟩
theorem tw10311887667496889420:True:=⟨⟩
theorem tw16571728945572759325:True:=⟨⟩
theorem tw5052488642044716153:True:=⟨⟩
theorem tw1211622420218076504:True:=⟨⟩
end PySem.W.Fast
open PySem PySem.W PyProof.Rows
set_option maxRecDepth 100000 in
set_option maxHeartbeats 0 in
theorem PySem.Challenge.cw_farquotient_k21_partings_holds : PySem.Challenge.rw_farquotient_k21_partings.Holds := by
 w_on;o_law;k_head;(case hw=>w_witness2)
 k_fill
 refine Law.walk (l:=PySem.Challenge.rw_farquotient_k21_partings) rfl rfl (fun w h Y=>PySem.W.kIn_of Y) ?F
 case F =>
  intro w mg fa h KX G hmg
  refine' Law.all_mk KX G hmg (.mk ?a0 ?l0 ?c0 ?k0) (.mk ?a1 ?l1 ?c1 ?k1) (.mk ?a2 ?l2 ?c2 ?k2) (.mk ?a3 ?l3 ?c3 ?k3) (.mk ?a4 ?l4 ?c4 ?k4) (.mk ?a5 ?l5 ?c5 ?k5) (.mk ?a6 ?l6 ?c6 ?k6) (.mk ?a7 ?l7 ?c7 ?k7) (.mk ?a8 ?l8 ?c8 ?k8) (.mk ?a9 ?l9 ?c9 ?k9) (.mk ?a10 ?l10 ?c10 ?k10) (.mk ?a11 ?l11 ?c11 ?k11) (.mk ?a12 ?l12 ?c12 ?k12) (.mk ?a13 ?l13 ?c13 ?k13) (.mk ?a14 ?l14 ?c14 ?k14) (.mk ?a15 ?l15 ?c15 ?k15) (.mk ?a16 ?l16 ?c16 ?k16) (.mk ?a17 ?l17 ?c17 ?k17) (.mk ?a18 ?l18 ?c18 ?k18) (.mk ?a19 ?l19 ?c19 ?k19) (.mk ?a20 ?l20 ?c20 ?k20) (.mk ?a21 ?l21 ?c21 ?k21) (.mk ?a22 ?l22 ?c22 ?k22) (.mk ?a23 ?l23 ?c23 ?k23) (.mk ?a24 ?l24 ?c24 ?k24) (.mk ?a25 ?l25 ?c25 ?k25) (.mk ?a26 ?l26 ?c26 ?k26) (.mk ?a27 ?l27 ?c27 ?k27) (.mk ?a28 ?l28 ?c28 ?k28) (.mk ?a29 ?l29 ?c29 ?k29) (.mk ?a30 ?l30 ?c30 ?k30) ?z_abs ?z_all ?z_bool ?z_divmod ?z_enumerate ?z_int ?z_isinstance ?z_len ?z_list ?z_max ?z_range ?z_reversed ?z_str ?z_tuple ?z_zip ?y_GREAT_BITS
  (case a0=>k_is)
  (case l0=>k_is)
  (case c0=>k_is)
  (case k0=>k_is)
  (case a1=>k_is)
  (case l1=>k_is)
  (case c1=>k_is)
  (case k1=>k_is)
  (case a2=>k_is)
  (case l2=>k_is)
  (case c2=>k_is)
  (case k2=>k_is)
  (case a3=>k_is)
  (case l3=>k_is)
  (case c3=>k_is)
  (case k3=>k_is)
  (case a4=>k_is)
  (case l4=>k_is)
  (case c4=>k_is)
  (case k4=>k_is)
  (case a5=>k_is)
  (case l5=>k_is)
  (case c5=>k_is)
  (case k5=>k_is)
  (case a6=>k_is)
  (case l6=>k_is)
  (case c6=>k_is)
  (case k6=>k_is)
  (case a7=>k_is)
  (case l7=>k_is)
  (case c7=>k_is)
  (case k7=>k_is)
  (case a8=>k_is)
  (case l8=>k_is)
  (case c8=>k_is)
  (case k8=>k_is)
  (case a9=>k_is)
  (case l9=>k_is)
  (case c9=>k_is)
  (case k9=>k_is)
  (case a10=>k_is)
  (case l10=>k_is)
  (case c10=>k_is)
  (case k10=>k_is)
  (case a11=>k_is)
  (case l11=>k_is)
  (case c11=>k_is)
  (case k11=>k_is)
  (case a12=>k_is)
  (case l12=>k_is)
  (case c12=>k_is)
  (case k12=>k_is)
  (case a13=>k_is)
  (case l13=>k_is)
  (case c13=>k_is)
  (case k13=>k_is)
  (case a14=>k_is)
  (case l14=>k_is)
  (case c14=>k_is)
  (case k14=>k_is)
  (case a15=>k_is)
  (case l15=>k_is)
  (case c15=>k_is)
  (case k15=>k_is)
  (case a16=>k_is)
  (case l16=>k_is)
  (case c16=>k_is)
  (case k16=>k_is)
  (case a17=>k_is)
  (case l17=>k_is)
  (case c17=>k_is)
  (case k17=>k_is)
  (case a18=>k_is)
  (case l18=>k_is)
  (case c18=>k_is)
  (case k18=>k_is)
  (case a19=>k_is)
  (case l19=>k_is)
  (case c19=>k_is)
  (case k19=>k_is)
  (case a20=>k_is)
  (case l20=>k_is)
  (case c20=>k_is)
  (case k20=>k_is)
  (case a21=>k_is)
  (case l21=>k_is)
  (case c21=>k_is)
  (case k21=>k_is)
  (case a22=>k_is)
  (case l22=>k_is)
  (case c22=>k_is)
  (case k22=>k_is)
  (case a23=>k_is)
  (case l23=>k_is)
  (case c23=>k_is)
  (case k23=>k_is)
  (case a24=>k_is)
  (case l24=>k_is)
  (case c24=>k_is)
  (case k24=>k_is)
  (case a25=>k_is)
  (case l25=>k_is)
  (case c25=>k_is)
  (case k25=>k_is)
  (case a26=>k_is)
  (case l26=>k_is)
  (case c26=>k_is)
  (case k26=>k_is)
  (case a27=>k_is)
  (case l27=>k_is)
  (case c27=>k_is)
  (case k27=>k_is)
  (case a28=>k_is)
  (case l28=>k_is)
  (case c28=>k_is)
  (case k28=>k_is)
  (case a29=>k_is)
  (case l29=>k_is)
  (case c29=>k_is)
  (case k29=>k_is)
  (case a30=>k_is)
  (case l30=>k_is)
  (case c30=>k_is)
  (case k30=>k_is)
  (case z_abs=>k_is)
  (case z_all=>k_is)
  (case z_bool=>k_is)
  (case z_divmod=>k_is)
  (case z_enumerate=>k_is)
  (case z_int=>k_is)
  (case z_isinstance=>k_is)
  (case z_len=>k_is)
  (case z_list=>k_is)
  (case z_max=>k_is)
  (case z_range=>k_is)
  (case z_reversed=>k_is)
  (case z_str=>k_is)
  (case z_tuple=>k_is)
  (case z_zip=>k_is)
  (case y_GREAT_BITS=>k_is)
