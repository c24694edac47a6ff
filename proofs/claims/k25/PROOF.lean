import PyProof.Rows.All
import Wide.All
import OpenK.AllK
import Wide.FinOn
import Lean
import PyProof.EqAt
import PyProof.EqKinds
import PyProof.TupleCall
import PyProof.NeKinds
import KE.KSortTup
import PyProof.TableCode
import PySem.Challenge.RW_lotheads_k25_deeds_paid
set_option Elab.async false
set_option linter.all false
set_option maxRecDepth 100000
namespace L2
open PySem PySem.Spec PyProof.Rows
noncomputable abbrev jI:=Sum Int Str
noncomputable def rK:jI->Value->Bool
 |.inl k,v=>Value.isInt k v
 |.inr x,v=>Value.isStrOf x v
noncomputable def QE (w:World):jI->Int
 |.inl k=>hashInt k
 |.inr x=>hashStr w x
theorem ci:∀{k:jI} {v:Value},rK k v=true->(∃i t,k=Sum.inl i/\v=Value.int i t)\/(∃x t,k=Sum.inr x/\v=Value.str x t)
 |.inl i,v,h=>by
  obtain⟨t,e⟩:=Value.isInt_shape (k:=i) (v:=v) h
  exact .inl ⟨i,t,rfl,e⟩
 |.inr x,v,h=>by
  obtain⟨t,e⟩:=Value.isStrOf_shape (x:=x) (v:=v) h
  exact .inr ⟨x,t,rfl,e⟩
theorem Az (i:Int)(t:Tok):rK (.inl i) (.int i t)=true:=by simp[rK,Value.isInt]
theorem zw (x:Str)(t:Tok):rK (.inr x) (.str x t)=true:=by simp[rK,Value.isStrOf]
theorem Kx (a b:Int):decide ((Sum.inl a:jI)=Sum.inl b)=(a==b):=by
 by_cases e:a=b
 ·subst e;simp
 ·have h:¬(Sum.inl a:jI)=Sum.inl b:=fun q=>e (Sum.inl.inj q)
  rw[decide_eq_false h]
  exact (beq_eq_false_iff_ne.mpr e).symm
theorem LR (a b:Str):decide ((Sum.inr a:jI)=Sum.inr b)=decide (a=b):=by
 by_cases e:a=b
 ·subst e;simp
 ·have h:¬(Sum.inr a:jI)=Sum.inr b:=fun q=>e (Sum.inr.inj q)
  rw[decide_eq_false h,decide_eq_false e]
theorem LC (a:Int)(b:Str):decide ((Sum.inl a:jI)=Sum.inr b)=false:=decide_eq_false (fun q=>nomatch q)
theorem Ma (a:Str)(b:Int):decide ((Sum.inr a:jI)=Sum.inl b)=false:=decide_eq_false (fun q=>nomatch q)
noncomputable def dv (prog:Program)(w:World):PySem.KeyKind prog w jI where
 is:=rK
 hash:=QE w
 inj:=fun v a b ha hb=>by
  rcases ci ha with ⟨i,t,rfl,rfl⟩|⟨x,t,rfl,rfl⟩
  ·rcases ci hb with ⟨j,u,rfl,e⟩|⟨y,u,rfl,e⟩
   ·injection e with e1 _;rw[e1]
   ·exact nomatch e
  ·rcases ci hb with ⟨j,u,rfl,e⟩|⟨y,u,rfl,e⟩
   ·exact nomatch e
   ·injection e with e1 _;rw[e1]
 byValue:=fun k v h=>by
  rcases ci h with ⟨i,t,rfl,rfl⟩|⟨x,t,rfl,rfl⟩<;>rfl
 pyHash:=fun hv h=>by
  rcases ci hv with ⟨i,t,rfl,rfl⟩|⟨x,t,rfl,rfl⟩
  ·exact wpAny_pyHash_int h
  ·exact wpAny_pyHash_str h
 eqBool:=fun hu hv h=>by
  rcases ci hu with ⟨i,t,rfl,rfl⟩|⟨x,t,rfl,rfl⟩
  ·rcases ci hv with ⟨j,u,rfl,rfl⟩|⟨y,u,rfl,rfl⟩
   ·rw[Kx] at h;exact wpAny_eqBool_int h
   ·rw[LC] at h;exact SeqAt.EqAt.int_str i t y u _ _ _ _ h
  ·rcases ci hv with ⟨j,u,rfl,rfl⟩|⟨y,u,rfl,rfl⟩
   ·rw[Ma] at h;exact SeqAt.EqAt.str_int x t j u _ _ _ _ h
   ·rw[LR] at h;exact wpAny_eqBool_str h
 «strs»:=fun k x t v h=>by
  rcases ci h with ⟨i,u,rfl,e⟩|⟨y,u,rfl,e⟩
  ·exact nomatch e
  ·injection e with e1 _
   subst e1
   cases v<;>rfl
theorem vt (prog:Program)(w:World)(i:Int)(t:Tok):(dv prog w).is (.inl i) (.int i t)=true:=Az i t
theorem gL (prog:Program)(w:World)(x:Str)(t:Tok):(dv prog w).is (.inr x) (.str x t)=true:=zw x t
end L2
namespace L2
open PySem PySem.Spec PyProof.Rows
inductive V where
 |non|bl (b:Bool)|int (i:Int)|str (x:Str)|byt (b:Array UInt8)|flt (b:UInt64)|ref (a:Addr)|ty (n:String)
 deriving DecidableEq
noncomputable def RelV:V->Value->Prop
 |.non,u=>u=Value.none
 |.bl b,u=>u=Value.bool b
 |.int i,u=>∃t,u=Value.int i t
 |.str x,u=>∃t,u=Value.str x t
 |.byt b,u=>∃t,u=Value.bytes b t
 |.flt b,u=>∃t,u=Value.float b t
 |.ref a,u=>u=Value.ref a
 |.ty n,u=>u=Value.type n
noncomputable abbrev Vals:List V->List Value->Prop:=Paired RelV
theorem Vals.length {xs:List V}{us:List Value}(r:Vals xs us):xs.length=us.length:=Paired.length r
theorem Vals.get:∀{xs:List V} {us:List Value} {i:Nat} {x:V},Vals xs us->xs[i]?=some x->∃u,us[i]?=some u/\RelV x u
 |_,_,_,_,.nil,e=>by simp at e
 |_,_,0,_,.cons r _,e=>by simp at e;subst e;exact⟨_,rfl,r⟩
 |_,_,i+1,x,.cons _ t,e=>by
  obtain⟨u,h1,h2⟩:=Vals.get (i:=i) (x:=x) t (by simpa using e)
  exact⟨u,by simpa using h1,h2⟩
theorem Vals.set {x:V}{u:Value}(r:RelV x u):∀{xs:List V} {us:List Value} (i:Nat),Vals xs us->Vals (xs.set i x) (us.set i u)
 |_,_,_,.nil=>.nil
 |_,_,0,.cons _ t=>.cons r t
 |_,_,i+1,.cons q t=>.cons q (Vals.set r i t)
theorem Vals.append:∀{xs ys:List V} {us ws:List Value},Vals xs us->Vals ys ws->Vals (xs++ys) (us++ws)
 |_,_,_,_,.nil,s=>s
 |_,_,_,_,.cons r t,s=>.cons r (Vals.append t s)
theorem Vals.take:∀{xs:List V} {us:List Value} (n:Nat),Vals xs us->Vals (xs.take n) (us.take n)
 |_,_,0,_=>.nil
 |_,_,_+1,.nil=>.nil
 |_,_,n+1,.cons r t=>.cons r (Vals.take n t)
theorem Vals.drop:∀{xs:List V} {us:List Value} (n:Nat),Vals xs us->Vals (xs.drop n) (us.drop n)
 |_,_,0,r=>r
 |_,_,_+1,.nil=>.nil
 |_,_,n+1,.cons _ t=>Vals.drop n t
noncomputable def J8:Option V->Option Value->Prop
 |some v,some u=>RelV v u
 |none,none=>True
 |_,_=>False
noncomputable def KV {κ:Type}:List (κ×V)->List (κ×Value)->Prop:=Paired fun (p:κ×V) (q:κ×Value)=>p.1=q.1/\RelV p.2 q.2
noncomputable def kV:jI->V
 |.inl i=>.int i
 |.inr x=>.str x
inductive HO where
 |lst (xs:List V)
 |tup (xs:List V)
 |dK (kvs:List (jI×V))|dT (kvs:List (List jI×V))
 |set (S:Int->Bool) (n:Nat)
 |ins (C dx:Addr) (fs:List (Str×V))
 |own (x:Addr)
 |xd (fs:List (Str×V))
 |met (f x:Addr)
 |rng (lo hi:Int)
 |frz (o:Obj) (u:HO)
 |tbl (ps:Array Value)
 |ext (φ:Heap->Prop)
noncomputable abbrev Hp:=Addr->Option HO
noncomputable def upd (H:Hp)(a:Addr)(o:HO):Hp:=fun b=>if b=a then some o else H b
theorem af {H:Hp}{a:Addr}{o:HO}:upd H a o a=some o:=by unfold upd;rw[if_pos rfl]
theorem au {H:Hp}{a b:Addr}{o:HO}(h:b≠a):upd H a o b=H b:=by unfold upd;rw[if_neg h]
theorem aS {H:Hp}{a b:Addr}{o:HO}(h:H a=some o)(h':H b=none):a≠b:=by
 intro e;subst e;rw[h] at h';cases h'
section
variable (P:Program)(w:World)
noncomputable def ObjOk (H:Hp)(h:Heap)(a:Addr):HO->Prop
 |.lst xs=>xs.length≤sizeLine/\∃(its:List Value) (n:Nat),Vals xs its/\h.get? a=some { cls:=.type "list",data:=.seq its.toArray n }
 |.tup xs=>xs.length≤sizeLine/\∃its:List Value,Vals xs its/\IsTup h a its.toArray
 |.dK kvs=>kvs.length≤sizeLine/\(a==sysModules)=false/\∃vs,KV kvs vs/\h.DictOf (dv P w) a vs
 |.dT kvs=>kvs.length≤sizeLine/\(a==sysModules)=false/\∃xs:List (List jI×Addr×Value),
   Paired (fun (p:List jI×V) (q:List jI×Addr×Value)=>p.1=q.1/\H q.2.1=some (.tup (p.1.map kV))/\RelV p.2 q.2.2) kvs xs ∧
   ∃o es ep,h.get? a=some o/\o.ExactDict/\o.data=.dict es ep/\es.toList=xs.map (entryOfKey (tupleKind (dv P w)))/\(xs.map (·.1)).Nodup
 |.set S n=>h.SetOf (intKind P w) a S n
 |.ins C dx fs=>H dx=some (.own a)/\fs.length≤1000/\dx≠a/\h.get? a=some (PySem.W.instObj C dx) ∧
   ∃mA,h.Ns1 dx mA/\(∀f,J8 (fs.lookup f) (mA f))/\PySem.Within mA (fs.map (·.1))
 |.own _=>∃o,h.get? a=some o
 |.xd fs=>∃mA,h.Ns1 a mA/\∀f,J8 (fs.lookup f) (mA f)
 |.rng lo hi=>∃t u v,h.get? a=some { cls:=.type "range",data:=.fields #[.int lo t,.int hi u,.int 1 v] }
 |.frz o u=>h.get? a=some o/\ObjOk H h a u
 |.tbl ps=>h.get? a=some { cls:=.none,data:=.fields ps }
 |.met f x=>h.get? a=some (PySem.W.methodObj (.ref f) (.ref x))
 |.ext φ=>φ h/\(∃o,h.get? a=some o)/\∀h1 h2:Heap,φ h1->(∀o,h1.get? a=some o->h2.get? a=some o)->φ h2
noncomputable def HOk (H:Hp)(h:Heap):Prop:=∀a o,H a=some o->ObjOk P w H h a o
end
section
variable {P:Program}{w:World}{H H':Hp}{h h':Heap}{a:Addr}{o:HO}
theorem ObjOk.lt (x:ObjOk P w H h a o):a<h.objs.size:=by
 cases o with
 |lst xs=>obtain⟨_,_,_,_,e⟩:=x;exact Heap.lt_size e
 |tup xs=>obtain⟨_,_,_,p⟩:=x;exact p.lt
 |dK kvs=>obtain⟨_,_,_,_,o,_,_,e,_⟩:=x;exact Heap.lt_size e
 |dT kvs=>obtain⟨_,_,_,_,o,_,_,e,_⟩:=x;exact Heap.lt_size e
 |set S n=>obtain⟨o,_,_,_,e,_⟩:=x;exact Heap.lt_size e
 |ins C dx fs=>obtain⟨_,_,_,e,_⟩:=x;exact Heap.lt_size e
 |own y=>obtain⟨_,e⟩:=x;exact Heap.lt_size e
 |xd fs=>obtain⟨_,⟨_,_,_,e,_⟩,_⟩:=x;exact Heap.lt_size e
 |rng lo hi=>obtain⟨_,_,_,e⟩:=x;exact Heap.lt_size e
 |frz ob u=>obtain⟨e,_⟩:=x;exact Heap.lt_size e
 |tbl ps=>exact Heap.lt_size (show h.get? a=some _ from x)
 |met f y=>exact Heap.lt_size (show h.get? a=some _ from x)
 |ext φ=>obtain⟨_,⟨_,e⟩,_⟩:=x;exact Heap.lt_size e
theorem Paired.mapP {α β:Type}{F G:α->β->Prop}:∀{l₁:List α} {l₂:List β},Paired F l₁ l₂->(∀a b,F a b->G a b)->Paired G l₁ l₂
 |_,_,.nil,_=>.nil
 |_,_,.cons r t,f=>.cons (f _ _ r) (Paired.mapP t f)
theorem ObjOk.stay (x:ObjOk P w H h a o)(k:∀b u,(b=a\/H b=some (.own a))->h.get? b=some u->h'.get? b=some u)
  (ho:∀b,H b=some (.own a)->H' b=some (.own a)) (ht:∀b xs,H b=some (.tup xs)->H' b=some (.tup xs)):ObjOk P w H' h' a o:=by
 induction o with
 |lst xs=>obtain⟨z,its,n,r,e⟩:=x;exact⟨z,its,n,r,k _ _ (.inl rfl) e⟩
 |tup xs=>obtain⟨z,its,r,ob,e,c⟩:=x;exact⟨z,its,r,ob,k _ _ (.inl rfl) e,c⟩
 |dK kvs=>obtain⟨z,y,vs,r,ob,es,ep,e,c⟩:=x;exact⟨z,y,vs,r,ob,es,ep,k _ _ (.inl rfl) e,c⟩
 |dT kvs=>
  obtain⟨z,y,xs,r,ob,es,ep,e,c⟩:=x
  exact⟨z,y,xs,Paired.mapP r fun p q z=>⟨z.1,ht _ _ z.2.1,z.2.2⟩,ob,es,ep,k _ _ (.inl rfl) e,c⟩
 |set S n=>obtain⟨ob,es,ep,t,e,c⟩:=x;exact⟨ob,es,ep,t,k _ _ (.inl rfl) e,c⟩
 |ins C dx fs=>
  obtain⟨d,z,ne,e,mA,⟨od,es,ep,e2,c⟩,r⟩:=x
  exact⟨ho _ d,z,ne,k _ _ (.inl rfl) e,mA,⟨od,es,ep,k _ _ (.inr d) e2,c⟩,r⟩
 |own y=>obtain⟨ob,e⟩:=x;exact⟨ob,k _ _ (.inl rfl) e⟩
 |xd fs=>obtain⟨mA,⟨od,es,ep,e,c⟩,r⟩:=x;exact⟨mA,⟨od,es,ep,k _ _ (.inl rfl) e,c⟩,r⟩
 |rng lo hi=>obtain⟨t,u,v,e⟩:=x;exact⟨t,u,v,k _ _ (.inl rfl) e⟩
 |frz ob u ih=>obtain⟨e,q⟩:=x;exact⟨k _ _ (.inl rfl) e,ih q⟩
 |tbl ps=>
  have e:h.get? a=some { cls:=.none,data:=.fields ps }:=x
  show h'.get? a=some { cls:=.none,data:=.fields ps }
  exact k a _ (.inl rfl) e
 |met f y=>
  have e:h.get? a=some (PySem.W.methodObj (.ref f) (.ref y)):=x
  show h'.get? a=some (PySem.W.methodObj (.ref f) (.ref y))
  exact k a _ (.inl rfl) e
 |ext φ=>obtain⟨p,⟨o,e⟩,st⟩:=x;exact⟨st _ _ p fun o q=>k _ _ (.inl rfl) q,⟨o,k _ _ (.inl rfl) e⟩,st⟩
theorem HOk.lt (x:HOk P w H h)(e:H a=some o):a<h.objs.size:=(x a o e).lt
theorem HOk.fresh (x:HOk P w H h)(e:h.objs.size≤a):H a=none:=by
 cases q:H a with
 |none=>rfl
 |some u=>exact absurd (Nat.lt_of_lt_of_le (x.lt q) e) (Nat.lt_irrefl _)
theorem HOk.kept (x:HOk P w H h)(k:∀b u,h.get? b=some u->h'.get? b=some u):HOk P w H h':=fun a o e=>
 (x a o e).stay (fun b u _ q=>k b u q) (fun _ q=>q) fun _ _ q=>q
theorem HOk.laid (x:HOk P w H h)(k:∀b u,h.get? b=some u->h'.get? b=some u)(hp:h.objs.size≤a)(new:ObjOk P w (upd H a o) h' a o):HOk P w (upd H a o) h':=fun b u e=>by
 have hn:=x.fresh hp
 by_cases hb:b=a
 ·subst hb;rw[af] at e;cases e;exact new
 ·rw[au hb] at e
  exact (x b u e).stay (fun c v _ q=>k c v q) (fun c q=>by rw[au (aS q hn)];exact q) fun c xs q=>by rw[au (aS q hn)];exact q
end
noncomputable def Rd (H:Hp)(a:Addr)(u:HO):Prop:=H a=some u\/∃o,H a=some (.frz o u)
theorem Rd.ok {P:Program}{w:World}{H:Hp}{h:Heap}{a:Addr}{u:HO}(r:Rd H a u)(x:HOk P w H h):ObjOk P w H h a u:=by
 rcases r with r|⟨o,r⟩
 ·exact x a u r
 ·obtain⟨_,q⟩:=x a _ r
  exact q
noncomputable def P1:Option HO->Prop
 |some (.lst _)=>True
 |some (.dK _)=>True
 |some (.dT _)=>True
 |some (.set _ _)=>True
 |some (.ins _ _ _)=>True
 |some (.ext _)=>True
 |_=>False
section
variable {P:Program}{w:World}{H:Hp}{h h':Heap}{x e:Addr}{o':HO}
theorem HOk.write (ok:HOk P w H h)(mu:P1 (H x))(he:e=x\/H e=some (.own x))(k:∀b u,b≠e->h.get? b=some u->h'.get? b=some u)(heo:∃u,h'.get? e=some u)
  (new:ObjOk P w (upd H x o') h' x o'):HOk P w (upd H x o') h':=fun b u q=>by
 have nown:∀c y,H c=some (.own y)->c≠x:=fun c y r z=>by subst z;rw[r] at mu;exact mu
 have ntup:∀c xs,H c=some (.tup xs)->c≠x:=fun c xs r z=>by subst z;rw[r] at mu;exact mu
 by_cases hb:b=x
 ·subst hb;rw[af] at q;cases q;exact new
 ·rw[au hb] at q
  by_cases hbe:b=e
  ·have q':H b=some (.own x):=by
    rcases he with z|z
    ·exact absurd (hbe.trans z) hb
    ·rw[hbe];exact z
   rw[q] at q';cases q'
   obtain⟨v,hv⟩:=heo
   exact⟨v,by rw[hbe];exact hv⟩
  ·refine (ok b u q).stay (fun c v hc r=>k c v ?_ r) (fun c r=>by rw[au (nown c b r)];exact r) fun c xs r=>by rw[au (ntup c xs r)];exact r
   rcases hc with rfl|hc
   ·exact hbe
   ·rintro rfl
    rcases he with z|z
    ·exact nown c b hc z
    ·rw[hc] at z;cases z;exact hb rfl
end
structure Un (fs ex:List Addr)(H H':Hp)(h h':Heap):Prop where
 keep:∀b o,h.get? b=some o->H b=none->b∉fs->b∉ex->h'.get? b=some o
 slot:∀b o,h.get? b=some o->H b=none->b∈fs->b∉ex->∃sl,h'.get? b=some { o with slots:=sl }
 free:∀b o,h.get? b=some o->H b=none->b∉ex->H' b=none
 there:∀b o,h.get? b=some o->b∉ex->∃o',h'.get? b=some o'
 tups:∀b xs,H b=some (.tup xs)->H' b=some (.tup xs)
 frzs:∀b o u,H b=some (.frz o u)->H' b=some (.frz o u)
 tbls:∀b ps,H b=some (.tbl ps)->∃more,H' b=some (.tbl (ps++more))
section
variable {fs fs' ex ex':List Addr}{H H1 H2:Hp}{h h1 h2 h':Heap}{a x e:Addr}{o:HO}
theorem Un.any (u:Un fs ex H H1 h h1){b:Addr}{ob:Obj}(q:h.get? b=some ob)(n:H b=none)(hx:b∉ex):∃sl,h1.get? b=some { ob with slots:=sl }:=by
 by_cases hb:b∈fs
 ·exact u.slot b ob q n hb hx
 ·exact⟨ob.slots,u.keep b ob q n hb hx⟩
theorem Un.kept (k:∀b u,h.get? b=some u->h'.get? b=some u):Un fs ex H H h h':=
 ⟨fun b ob q _ _ _=>k b ob q,fun b ob q _ _ _=>⟨ob.slots,k b ob q⟩,fun _ _ _ n _=>n,fun b ob q _=>⟨ob,k b ob q⟩,fun _ _ q=>q,fun _ _ _ q=>q,fun _ ps q=>⟨#[],by rw[q];simp⟩⟩
theorem Un.refl:Un fs ex H H h h:=Un.kept fun _ _ q=>q
theorem Un.laid (k:∀b u,h.get? b=some u->h'.get? b=some u)(hp:h.objs.size≤a)(hn:H a=none):Un fs ex H (upd H a o) h h' where
 keep:=fun b u q _ _ _=>k b u q
 slot:=fun b u q _ _ _=>⟨u.slots,k b u q⟩
 free:=fun b u q n _=>by rw[au (Nat.ne_of_lt (Nat.lt_of_lt_of_le (Heap.lt_size q) hp))];exact n
 there:=fun b u q _=>⟨u,k b u q⟩
 tups:=fun b xs q=>by rw[au (aS q hn)];exact q
 frzs:=fun b u xs q=>by rw[au (aS q hn)];exact q
 tbls:=fun b ps q=>⟨#[],by rw[au (aS q hn),q];simp⟩
theorem Un.write (mu:P1 (H x))(he:e=x\/H e=some (.own x))(k:∀b u,b≠e->h.get? b=some u->h'.get? b=some u)(heo:∃u,h'.get? e=some u):Un fs ex H (upd H x o) h h':=by
 have hx:∀b,H b=none->b≠x:=fun b n z=>by subst z;rw[n] at mu;exact mu
 have hb:∀b,H b=none->b≠e:=fun b n z=>by
  subst z
  rcases he with r|r
  ·exact hx b n r
  ·rw[n] at r;cases r
 have hm:∀b u,H b=some u->¬P1 (some u)->b≠x:=fun b u q nm z=>by subst z;rw[q] at mu;exact nm mu
 refine⟨fun b u q n _ _=>k b u (hb b n) q,fun b u q n _ _=>⟨u.slots,k b u (hb b n) q⟩,fun b u q n _=>by rw[au (hx b n)];exact n,fun b u q _=>?_,
  fun b xs q=>by rw[au (hm b _ q fun z=>z)];exact q,fun b u xs q=>by rw[au (hm b _ q fun z=>z)];exact q,fun b ps q=>⟨#[],by rw[au (hm b _ q fun z=>z),q];simp⟩⟩
 by_cases hbe:b=e
 ·subst hbe;exact heo
 ·exact⟨u,k b u hbe q⟩
end
noncomputable def PQ (h:Heap)(H:Hp):List Addr:=(List.range h.objs.size).filter fun a=>(H a).isSome
noncomputable def sH (h:Heap)(H:Hp):Heap:=PySem.W.hideAll h (PQ h H)
theorem zk (h:Heap)(H:Hp):(sH h H).objs.size=h.objs.size:=PySem.W.hideAll_size _ _
theorem AR {h:Heap}{H:Hp}{b:Addr}{o:Obj}(e:h.get? b=some o)(n:H b=none):(sH h H).get? b=some o:=
 PySem.W.hideAll_get _ e fun hm=>by
  have q:(H b).isSome=true:=(List.mem_filter.mp hm).2
  rw[n] at q;simp at q
theorem GL {h:Heap}{H:Hp}{b:Addr}{o:Obj}(e:(sH h H).get? b=some o):h.get? b=some o/\H b=none:=by
 have e':h.get? b=some o:=PySem.W.of_hideAll (PQ h H) e
 refine⟨e',?_⟩
 cases q:H b with
 |none=>rfl
 |some x=>
  have hm:b∈PQ h H:=List.mem_filter.mpr ⟨List.mem_range.mpr (Heap.lt_size e'),by simp[q]⟩
  have z:(sH h H).get? b=none:=PySem.W.hideAll_none (PQ h H) hm
  rw[z] at e;cases e
noncomputable def md (g h:Heap)(L:Addr):List (Addr×Obj):=(List.range h.objs.size).filterMap fun a=>if a=L\/(g.get? a).isSome=true then none else (h.get? a).map fun o=>(a,o)
theorem kg {g h:Heap}{L a:Addr}{o:Obj}(h1:a≠L)(h2:g.get? a=none)(h3:h.get? a=some o):(a,o)∈md g h L:=
 List.mem_filterMap.mpr ⟨a,List.mem_range.mpr (Heap.lt_size h3),by simp[h1,h2,h3]⟩
theorem pZ {g h:Heap}{L:Addr}{p:Addr×Obj}(hp:p∈md g h L):p.1≠L/\g.get? p.1=none/\h.get? p.1=some p.2:=by
 obtain⟨b,_,e⟩:=List.mem_filterMap.mp hp
 split at e
 ·cases e
 ·rename_i hn
  cases q:h.get? b with
  |none=>rw[q] at e;simp at e
  |some u=>
   rw[q] at e
   simp only[Option.map_some,Option.some.injEq] at e
   subst e
   refine⟨fun z=>hn (.inl z),?_,q⟩
   show g.get? b=none
   cases r:g.get? b with
   |none=>rfl
   |some v=>exact (hn (.inr (by simp[r]))).elim
noncomputable def cC (g h:Heap)(L d:Addr):List (Addr×Obj):=(md g h L).filter fun p=>decide (p.1≠d)
theorem CO {g h:Heap}{L:Addr}:News g L h (md g h L):=fun p hp=>let ⟨a,b,c⟩:=pZ hp;⟨c,a,b⟩
end L2
namespace L2
open PySem PySem.Spec PyProof.Rows
structure Mod (K:PySem.W.Frag)(mg:Str->Option Value)(base:Heap):Prop where
 kin:K.In base
 glob:base.Ns mainGlobals mg
 blt:∃mb,base.Ns builtinsNs mb/\∀x:Str,x ≠ "__name__"->mb x=bootBuiltins x
 nolimit:base.NoLimit
structure Cx where
 prog:Program
 w:World
 K:PySem.W.Frag
 mg:Str->Option Value
 base:Heap
 A:Around
 N:List Str
 s₀:Shared
 H₀:Hp
 env:Env
 outer:List Env
 stack:List Env
 ex:List Addr
 fn:Str->Bool
 calm:Bool
 pn:List (Addr×Obj)
 xe:Value->Shared->Prop
noncomputable def wR (l:List Env):List Addr:=l.filterMap (·.frame)
noncomputable abbrev Cx.fs (X:Cx):List Addr:=wR X.outer
noncomputable def Ij (sc:Scope)(x:Str):Prop:=sc.names.lookup x=some .local\/sc.names.lookup x=some .cell\/sc.names.lookup x=some .free
noncomputable def Kp (sc:Scope)(x:Str):Prop:=sc.names.lookup x=some .local\/sc.names.lookup x=some .cell
noncomputable def Ru (env:Env)(h:Heap)(m:Str->Option Value)(x:Str)(u:Value):Prop:=
 (env.kindOf x=some .local/\m x=some u)\/((env.kindOf x=some .cell\/env.kindOf x=some .free)/\∃c,env.cells.lookup x=some c/\h.IsCell c (some u))
structure Cx.Ok (X:Cx):Prop where
 mod:Mod X.K X.mg X.base
 kind:X.env.scope.kind=.function
 glob:X.env.globals=mainGlobals
 blt:X.env.builtins=builtinsNs
 above:X.s₀.heap.objs.size≤X.env.locals
 inj:∀x y c,X.env.cells.lookup x=some c->X.env.cells.lookup y=some c->x=y
 has:∀x,(X.env.kindOf x=some .cell\/X.env.kindOf x=some .free)->∃c,X.env.cells.lookup x=some c
 cab:∀x c,X.fn x=true->X.env.cells.lookup x=some c->X.s₀.heap.objs.size≤c
 hd:X.calm=true->X.A.handled=none
 frames:X.A.frames=some X.stack
 stk:X.stack=X.outer\/(X.stack=X.env::X.outer/\X.env.frame=some X.env.locals)
 exf:∀b∈X.ex,b≠X.env.locals/\∀x c,X.env.cells.lookup x=some c->c≠b
 bs:∀b o,X.base.get? b=some o->X.s₀.heap.get? b=some o/\X.H₀ b=none
 bsz:X.base.objs.size≤X.s₀.heap.objs.size
 noex:∀b o,X.base.get? b=some o->b∉X.ex
 exfs:∀b∈X.ex,b∉X.fs
 funs:X.s₀.heap.FunFrames X.base X.outer
 frf:∀b∈X.fs,X.H₀ b=none
structure Inv (X:Cx)(pins:List (Addr×Obj))(σ:List (Option V))(H:Hp)(s:Shared):Prop where
 ok:X.Ok
 os:s.os=X.s₀.os
 bare:AllBare s.gens
 base:Un X.fs X.ex X.H₀ H X.s₀.heap s.heap
 loc:∃m,s.heap.Ns X.env.locals m/\∀(i:Nat) (x:Str) (v:V),X.N[i]?=some x->σ[i]?=some (some v)->Ij X.env.scope x->∃u,RelV v u/\Ru X.env s.heap m x u
 cell:∀x c,X.env.cells.lookup x=some c->∃v,s.heap.IsCell c v
 free:H X.env.locals=none
 freeC:∀x c,X.env.cells.lookup x=some c->H c=none
 pin:∀p∈X.pn++pins,s.heap.get? p.1=some p.2/\H p.1=none/\p.1≠X.env.locals/\p.1∉X.fs/\∀v,p.2.data≠.cell v
 hok:HOk X.prog X.w H s.heap
 len:σ.length=X.N.length
section
variable {X:Cx}{pins:List (Addr×Obj)}{σ:List (Option V)}{H H':Hp}{s:Shared}{h':Heap}
theorem Cx.Ok.nofr (ok:X.Ok){b:Addr}{o:Obj}(e:X.base.get? b=some o):b∉X.fs:=fun hb=>by
 have:=(ok.funs.mem hb).1
 rw[e] at this;cases this
theorem Inv.bs (I:Inv X pins σ H s):∀b o,X.base.get? b=some o->s.heap.get? b=some o/\H b=none:=fun b o e=>
 ⟨I.base.keep b o (I.ok.bs b o e).1 (I.ok.bs b o e).2 (I.ok.nofr e) (I.ok.noex b o e),I.base.free b o (I.ok.bs b o e).1 (I.ok.bs b o e).2 (I.ok.noex b o e)⟩
theorem Inv.bk (I:Inv X pins σ H s):∀b o,X.base.get? b=some o->s.heap.get? b=some o:=fun b o e=>(I.bs b o e).1
theorem Inv.mod (I:Inv X pins σ H s):Mod X.K X.mg X.base:=I.ok.mod
theorem Inv.kIn (I:Inv X pins σ H s):X.K.In s.heap:=I.ok.mod.kin.keeps I.bk
theorem Inv.fr (I:Inv X pins σ H s):∃m,Fr X.base X.env.locals s.heap m:=
 let ⟨m,hn,_⟩:=I.loc
 ⟨m,hn,I.bk,Nat.le_trans I.ok.bsz I.ok.above⟩
theorem Inv.lt (I:Inv X pins σ H s):X.env.locals<s.heap.objs.size:=let ⟨_,hn,_⟩:=I.loc;hn.lt
theorem Inv.sz (I:Inv X pins σ H s):X.s₀.heap.objs.size≤s.heap.objs.size:=Nat.le_trans I.ok.above (Nat.le_of_lt I.lt)
theorem Inv.nofs (I:Inv X pins σ H s){a:Addr}(h:s.heap.objs.size≤a):a∉X.fs:=fun hb=>by
 obtain⟨_,o,ho,_⟩:=I.ok.funs.mem hb
 exact absurd (Nat.lt_of_lt_of_le (Heap.lt_size ho) (Nat.le_trans I.sz h)) (Nat.lt_irrefl _)
theorem Inv.cne (I:Inv X pins σ H s):∀x c,X.env.cells.lookup x=some c->c≠X.env.locals:=fun x c e z=>by
 obtain⟨v,o,ho,hd⟩:=I.cell x c e
 obtain⟨m,⟨o',es,ep,ho',hd',_⟩,_⟩:=I.loc
 rw[z,ho'] at ho;cases ho;rw[hd'] at hd;cases hd
theorem Inv.funs (I:Inv X pins σ H s):s.heap.FunFrames X.base X.outer:=by
 have all:∀(l:List Env),(∀b∈wR l,b∈X.fs)->X.s₀.heap.FunFrames X.base l->s.heap.FunFrames X.base l:=by
  intro l
  induction l with
  |nil=>intro _ _;trivial
  |cons env r ih=>
   intro hs hl
   obtain⟨hk,⟨L,o,hf,hn,ho,hd⟩,hr⟩:=hl
   have hL:L∈X.fs:=hs L (by unfold wR;rw[List.filterMap_cons,hf];exact List.mem_cons_self)
   obtain⟨sl,e⟩:=I.base.slot L o ho (I.ok.frf L hL) hL fun z=>I.ok.exfs L z hL
   exact⟨hk,⟨L,_,hf,hn,e,hd⟩,ih (fun b hb=>hs b (by unfold wR;rw[List.filterMap_cons,hf];exact List.mem_cons_of_mem _ hb)) hr⟩
 exact all X.outer (fun _ hb=>hb) I.ok.funs
theorem Inv.stack (I:Inv X pins σ H s):s.heap.FunFrames X.base X.stack:=by
 rcases I.ok.stk with e|⟨e,hf⟩
 ·rw[e];exact I.funs
 ·rw[e]
  obtain⟨m,hn,_⟩:=I.loc
  refine .cons (by rw[I.ok.kind];decide) hf hn ?_ I.funs
  exact Heap.get?_none_of_le (Nat.le_trans I.ok.bsz I.ok.above)
theorem Inv.stkSub (I:Inv X pins σ H s):∀b∈wR X.stack,b∈X.env.locals::X.fs:=fun b hb=>by
 rcases I.ok.stk with e|⟨e,hf⟩
 ·rw[e] at hb;exact List.mem_cons_of_mem _ hb
 ·rw[e] at hb
  unfold wR at hb
  rw[List.filterMap_cons,hf] at hb
  exact hb
theorem Inv.stkFree (I:Inv X pins σ H s):∀b∈wR X.stack,H b=none:=fun b hb=>by
 rcases List.mem_cons.mp (I.stkSub b hb) with e|hb
 ·rw[e];exact I.free
 ·obtain⟨_,o,ho,_⟩:=I.ok.funs.mem hb
  exact I.base.free b o ho (I.ok.frf b hb) fun z=>I.ok.exfs b z hb
theorem Inv.step {g':Array GenState}{t':Nat}{d':Drawn}{ch:List Addr}(I:Inv X pins σ H s)
  (hch:∀b∈ch,(b∈X.ex\/X.s₀.heap.objs.size≤b)/\b≠X.env.locals/\(∀x c,X.env.cells.lookup x=some c->c≠b)/\∀p∈X.pn++pins,p.1≠b)
  (keep:∀b o,b≠X.env.locals->b∉X.fs->b∉ch->s.heap.get? b=some o->H b=none->h'.get? b=some o)
  (slot:∀b o,b≠X.env.locals->b∈X.fs->b∉ch->s.heap.get? b=some o->H b=none->∃sl,h'.get? b=some { o with slots:=sl }) (free:∀b o,b∉ch->s.heap.get? b=some o->H b=none->H' b=none)
  (there:∀b o,b∉ch->s.heap.get? b=some o->∃o',h'.get? b=some o')
  (tups:∀b xs,H b=some (.tup xs)->H' b=some (.tup xs)) (frzs:∀b o u,H b=some (.frz o u)->H' b=some (.frz o u)) (tbls:∀b ps,H b=some (.tbl ps)->∃more,H' b=some (.tbl (ps++more)))
  (ns:∀m,s.heap.Ns X.env.locals m->h'.Ns X.env.locals m) (hok:HOk X.prog X.w H' h') (hg:AllBare g') :
  Inv X pins σ H' { s with heap:=h',gens:=g',drawn:=d',toks:=t' }:=by
 have neL:∀b o,X.s₀.heap.get? b=some o->b≠X.env.locals:=fun b o e=>Nat.ne_of_lt (Nat.lt_of_lt_of_le (Heap.lt_size e) I.ok.above)
 have neC:∀b o,X.s₀.heap.get? b=some o->b∉X.ex->b∉ch:=fun b o e hx hb=>by
  rcases (hch b hb).1 with z|z
  ·exact hx z
  ·exact absurd (Nat.lt_of_lt_of_le (Heap.lt_size e) z) (Nat.lt_irrefl _)
 have cellK:∀x c,X.env.cells.lookup x=some c->∀v,s.heap.IsCell c v->h'.IsCell c v:=fun x c e v ⟨o,ho,hd⟩=>by
  have nch:c∉ch:=fun z=>(hch c z).2.2.1 x c e rfl
  by_cases hc:c∈X.fs
  ·obtain⟨sl,q⟩:=slot c o (I.cne x c e) hc nch ho (I.freeC x c e)
   exact⟨_,q,hd⟩
  ·exact⟨o,keep c o (I.cne x c e) hc nch ho (I.freeC x c e),hd⟩
 refine⟨I.ok,I.os,hg,⟨fun b o e n hb hx=>?_,fun b o e n hb hx=>?_,fun b o e n hx=>?_,fun b o e hx=>?_,fun b xs e=>tups b xs (I.base.tups b xs e),fun b o xs e=>frzs b o xs (I.base.frzs b o xs e),fun b ps e=>?_⟩,?_,fun x c e=>?_,?_,fun x c e=>?_,fun p hp=>?_,hok,I.len⟩
 ·exact keep b o (neL b o e) hb (neC b o e hx) (I.base.keep b o e n hb hx) (I.base.free b o e n hx)
 ·obtain⟨sl,e1⟩:=I.base.slot b o e n hb hx
  obtain⟨sl',e2⟩:=slot b _ (neL b o e) hb (neC b o e hx) e1 (I.base.free b o e n hx)
  exact⟨sl',e2⟩
 ·obtain⟨o',e1⟩:=I.base.there b o e hx
  exact free b o' (neC b o e hx) e1 (I.base.free b o e n hx)
 ·obtain⟨o',e1⟩:=I.base.there b o e hx
  exact there b o' (neC b o e hx) e1
 ·obtain⟨m1,e1⟩:=I.base.tbls b ps e
  obtain⟨m2,e2⟩:=tbls b _ e1
  exact⟨m1++m2,by rw[e2,Array.append_assoc]⟩
 ·obtain⟨m,hn,hl⟩:=I.loc
  refine⟨m,ns m hn,fun i x v e1 e2 e3=>?_⟩
  obtain⟨u,r,l⟩:=hl i x v e1 e2 e3
  refine⟨u,r,?_⟩
  rcases l with l|⟨k,c,e,z⟩
  ·exact .inl l
  ·exact .inr ⟨k,c,e,cellK x c e _ z⟩
 ·obtain⟨v,z⟩:=I.cell x c e
  exact⟨v,cellK x c e v z⟩
 ·obtain⟨m,⟨o,_,_,ho,_⟩,_⟩:=I.loc
  exact free _ o (fun z=>(hch _ z).2.1 rfl) ho I.free
 ·obtain⟨v,o,ho,hd⟩:=I.cell x c e
  exact free c o (fun z=>(hch c z).2.2.1 x c e rfl) ho (I.freeC x c e)
 ·obtain⟨e,n,ne,nf,d⟩:=I.pin p hp
  have nch:p.1∉ch:=fun z=>(hch p.1 z).2.2.2 p hp rfl
  exact⟨keep p.1 p.2 ne nf nch e n,free p.1 p.2 nch e n,ne,nf,d⟩
theorem Inv.un {t':Nat}(I:Inv X pins σ H s)(u:Un X.fs [] H H' s.heap h')(hok:HOk X.prog X.w H' h'):Inv X pins σ H' { s with heap:=h',toks:=t' }:=by
 obtain⟨m,⟨o,es,ep,ho,r⟩,_⟩:=id I.loc
 obtain⟨sl,hL⟩:=u.any ho I.free (by simp)
 exact I.step (g':=s.gens) (d':=s.drawn) (ch:=[]) (fun _ z=>nomatch z) (fun b o _ hb _ e n=>u.keep b o e n hb (by simp)) (fun b o _ hb _ e n=>u.slot b o e n hb (by simp)) (fun b o _ e n=>u.free b o e n (by simp)) (fun b o _ e=>u.there b o e (by simp)) u.tups u.frzs u.tbls (fun m' hm=>by
  obtain⟨o',es',ep',ho',r'⟩:=hm
  rw[ho] at ho';cases ho'
  exact⟨_,es',ep',hL,r'⟩) hok I.bare
theorem Inv.call {g':Array GenState}{t':Nat}{d':Drawn}{ch:List Addr}(I:Inv X pins σ H s)(u:Un (wR X.stack) ch H H' s.heap h')(hok:HOk X.prog X.w H' h')(hg:AllBare g')
  (hch:∀b∈ch,(b∈X.ex\/X.s₀.heap.objs.size≤b)/\b≠X.env.locals/\(∀x c,X.env.cells.lookup x=some c->c≠b)/\∀p∈X.pn++pins,p.1≠b) :
  Inv X pins σ H' { s with heap:=h',gens:=g',drawn:=d',toks:=t' }:=by
 obtain⟨m,⟨o,es,ep,ho,r⟩,_⟩:=id I.loc
 obtain⟨sl,hL⟩:=u.any ho I.free fun z=>(hch _ z).2.1 rfl
 exact I.step (ch:=ch) hch (fun b o hL hb hc e n=>u.keep b o e n (fun z=>(List.mem_cons.mp (I.stkSub b z)).elim hL hb) hc) (fun b o _ _ hc e n=>u.any e n hc) (fun b o hc e n=>u.free b o e n hc) (fun b o hc e=>u.there b o e hc) u.tups u.frzs u.tbls (fun m' hm=>by
  obtain⟨o',es',ep',ho',r'⟩:=hm
  rw[ho] at ho';cases ho'
  exact⟨_,es',ep',hL,r'⟩) hok hg
theorem Inv.turned {t':Nat}{it:Addr}(I:Inv X pins σ H s)(k:∀b o,b≠it->s.heap.get? b=some o->h'.get? b=some o)(hn:H it=none)(hL:it≠X.env.locals)
  (h1:it∈X.ex\/X.s₀.heap.objs.size≤it) (h2:∀x c,X.env.cells.lookup x=some c->c≠it) (h3:∀p∈X.pn++pins,p.1≠it):Inv X pins σ H { s with heap:=h',toks:=t' }:=by
 have nit:∀b u,H b=some u->b≠it:=fun b u e z=>by rw[z,hn] at e;cases e
 refine I.step (g':=s.gens) (d':=s.drawn) (ch:=[it]) (fun b hb=>?_) (fun b o _ _ hc e _=>k b o (fun z=>hc (by simp[z])) e) (fun b o _ _ hc e _=>⟨o.slots,k b o (fun z=>hc (by simp[z])) e⟩) (fun _ _ _ _ n=>n)
  (fun b o hc e=>⟨o,k b o (fun z=>hc (by simp[z])) e⟩) (fun _ _ e=>e) (fun _ _ _ e=>e) (fun b ps e=>⟨#[],by rw[e];simp⟩) (fun m hm=>?_) (fun b u e=>?_) I.bare
 ·have e:b=it:=by simpa using hb
  subst e
  exact⟨h1,hL,h2,h3⟩
 ·obtain⟨o,es,ep,ho,r⟩:=hm
  exact⟨o,es,ep,k _ o (Ne.symm hL) ho,r⟩
 ·refine (I.hok b u e).stay (fun c v hc q=>k c v ?_ q) (fun _ q=>q) fun _ _ q=>q
  rcases hc with z|z
  ·rw[z];exact nit b u e
  ·exact nit c _ z
theorem Inv.tok (I:Inv X pins σ H s)(t:Nat):Inv X pins σ H { s with toks:=t }:=I.un (h':=s.heap) (t':=t) Un.refl I.hok
theorem Inv.kept {t':Nat}(I:Inv X pins σ H s)(k:∀b u,s.heap.get? b=some u->h'.get? b=some u):Inv X pins σ H { s with heap:=h',toks:=t' }:=I.un (Un.kept k) (I.hok.kept k)
theorem Inv.laid {a:Addr}{o:HO}{t':Nat}(I:Inv X pins σ H s)(k:∀b u,s.heap.get? b=some u->h'.get? b=some u)(hp:s.heap.objs.size≤a)(new:ObjOk X.prog X.w (upd H a o) h' a o) :
  Inv X pins σ (upd H a o) { s with heap:=h',toks:=t' }:=I.un (Un.laid k hp (I.hok.fresh hp)) (I.hok.laid k hp new)
theorem Inv.write {x e:Addr}{o:HO}{t':Nat}(I:Inv X pins σ H s)(mu:P1 (H x))(he:e=x\/H e=some (.own x))(k:∀b u,b≠e->s.heap.get? b=some u->h'.get? b=some u)(heo:∃u,h'.get? e=some u)
  (new:ObjOk X.prog X.w (upd H x o) h' x o):Inv X pins σ (upd H x o) { s with heap:=h',toks:=t' }:=I.un (Un.write mu he k heo) (I.hok.write mu he k heo new)
theorem Inv.weak {σ':List (Option V)}(I:Inv X pins σ H s)(hl:σ'.length=σ.length)(w:∀(i:Nat) v,σ'[i]?=some (some v)->σ[i]?=some (some v)):Inv X pins σ' H s:=
 ⟨I.ok,I.os,I.bare,I.base,let ⟨m,hn,hl'⟩:=I.loc;⟨m,hn,fun i x v e1 e2 e3=>hl' i x v e1 (w i v e2) e3⟩,I.cell,I.free,I.freeC,I.pin,I.hok,hl.trans I.len⟩
theorem Inv.pins_of {pins':List (Addr×Obj)}(I:Inv X pins σ H s)(h:∀p∈pins',s.heap.get? p.1=some p.2/\H p.1=none/\p.1≠X.env.locals/\p.1∉X.fs/\∀v,p.2.data≠.cell v):Inv X pins' σ H s:=
 ⟨I.ok,I.os,I.bare,I.base,I.loc,I.cell,I.free,I.freeC,fun p hp=>(List.mem_append.mp hp).elim (fun z=>I.pin p (List.mem_append_left _ z)) (h p),I.hok,I.len⟩
theorem uc {N:List Str}(hN:N.Nodup){i j:Nat}{x:Str}(a:N[i]?=some x)(b:N[j]?=some x):i=j:=by
 obtain⟨h1,e1⟩:=List.getElem?_eq_some_iff.mp a
 obtain⟨h2,e2⟩:=List.getElem?_eq_some_iff.mp b
 exact (List.getElem_inj hN).mp (e1.trans e2.symm)
theorem rb {M:Model}{A:Around}{E:Value->Shared->Prop}{i:Nat}{x:Str}{v:V}{u:Value}{Q:Unit->Shared->Prop}(I:Inv X pins σ H s)(hN:X.N.Nodup)(hi:X.N[i]?=some x)(hx:Kp X.env.scope x)(r:RelV v u)
  (h:∀s',Inv X pins (σ.set i (some v)) H s'->(∃a,Heap.SameBut a s.heap s'.heap/\(a=X.env.locals\/X.env.cells.lookup x=some a))->Q () s') (hf:X.fn x=true\/X.env.scope.names.lookup x=some .local:=by first|exact .inl rfl|exact .inr rfl|assumption):wpAny M A (storeName X.env x u) Q E s:=by
 obtain⟨m,hn,hl⟩:=id I.loc
 have hcls:(X.env.scope.kind==.class || (X.env.scope.kind==.module&&X.env.locals != X.env.globals))=false:=by rw[I.ok.kind];rfl
 have hiσ:i<σ.length:=by rw[I.len];exact (List.getElem?_eq_some_iff.mp hi).1
 have cne:=I.cne
 have tracked:∀{a:Addr} {h':Heap},(∃o,s.heap.get? a=some o/\H a=none)->Heap.SameBut a s.heap h'->HOk X.prog X.w H h':=fun {a h'} ha hs b ob e=>by
  obtain⟨_,_,hfree⟩:=ha
  refine (I.hok b ob e).stay (fun c w' hc q=>(hs.2 c ?_).trans q) (fun _ q=>q) fun _ _ q=>q
  rintro rfl
  rcases hc with rfl|hc
  ·rw[hfree] at e;cases e
  ·rw[hfree] at hc;cases hc
 rcases hx with hk|hk
 ·refine wpAny_storeName_local hk hn (fun h' hn' hs=>?_) hcls
  obtain⟨oL,_,_,hoL,_⟩:=id hn
  refine h _ ⟨I.ok,I.os,I.bare,⟨fun b o e n hb hx=>?_,fun b o e n hb hx=>?_,I.base.free,fun b o e hx=>?_,I.base.tups,I.base.frzs,I.base.tbls⟩,⟨_,hn',fun j y v' e1 e2 e3=>?_⟩,fun y c e=>?_,I.free,I.freeC,fun p hp=>?_,tracked ⟨oL,hoL,I.free⟩ hs,by simpa using I.len⟩ ⟨_,hs,.inl rfl⟩
  ·exact (hs.2 b (Nat.ne_of_lt (Nat.lt_of_lt_of_le (Heap.lt_size e) I.ok.above))).trans (I.base.keep b o e n hb hx)
  ·obtain⟨sl,e1⟩:=I.base.slot b o e n hb hx
   exact⟨sl,(hs.2 b (Nat.ne_of_lt (Nat.lt_of_lt_of_le (Heap.lt_size e) I.ok.above))).trans e1⟩
  ·obtain⟨o',e1⟩:=I.base.there b o e hx
   exact⟨o',(hs.2 b (Nat.ne_of_lt (Nat.lt_of_lt_of_le (Heap.lt_size e) I.ok.above))).trans e1⟩
  ·by_cases hj:j=i
   ·subst hj
    rw[hi] at e1;cases e1
    rw[List.getElem?_set_self hiσ] at e2
    cases e2
    exact⟨u,r,.inl ⟨hk,by simp⟩⟩
   ·rw[List.getElem?_set_ne (Ne.symm hj)] at e2
    obtain⟨u',r',q⟩:=hl j y v' e1 e2 e3
    refine⟨u',r',?_⟩
    rcases q with ⟨k,e⟩|⟨k,c,e,z⟩
    ·refine .inl ⟨k,?_⟩
     have:y≠x:=fun e=>hj (uc hN e1 (e▸hi))
     simp[this,e]
    ·exact .inr ⟨k,c,e,z.sameBut hs (cne y c e)⟩
  ·obtain⟨w',z⟩:=I.cell y c e
   exact⟨w',z.sameBut hs (cne y c e)⟩
  ·obtain⟨e,n,ne,nf,d⟩:=I.pin p hp
   exact⟨(hs.2 p.1 ne).trans e,n,ne,nf,d⟩
 ·have hfn:X.fn x=true:=by
   rcases hf with z|z
   ·exact z
   ·rw[z] at hk;cases hk
  obtain⟨c,hc⟩:=I.ok.has x (.inl hk)
  obtain⟨w',z⟩:=I.cell x c hc
  refine wpAny_storeName_cell I.ok.kind hk hc z (fun h' hc' hs=>?_)
  obtain⟨oc,hoc,hocd⟩:=id z
  refine h { s with heap:=h' } ⟨I.ok,I.os,I.bare,⟨fun b o e n hb hx=>?_,fun b o e n hb hx=>?_,I.base.free,fun b o e hx=>?_,I.base.tups,I.base.frzs,I.base.tbls⟩,⟨m,hn.sameBut hs (Ne.symm (cne x c hc)),fun j y v' e1 e2 e3=>?_⟩,fun y c' e=>?_,I.free,I.freeC,fun p hp=>?_,tracked ⟨oc,hoc,I.freeC x c hc⟩ hs,by simpa using I.len⟩ ⟨c,hs,.inr hc⟩
  ·exact (hs.2 b (Nat.ne_of_lt (Nat.lt_of_lt_of_le (Heap.lt_size e) (I.ok.cab x c hfn hc)))).trans (I.base.keep b o e n hb hx)
  ·obtain⟨sl,e1⟩:=I.base.slot b o e n hb hx
   exact⟨sl,(hs.2 b (Nat.ne_of_lt (Nat.lt_of_lt_of_le (Heap.lt_size e) (I.ok.cab x c hfn hc)))).trans e1⟩
  ·obtain⟨o',e1⟩:=I.base.there b o e hx
   exact⟨o',(hs.2 b (Nat.ne_of_lt (Nat.lt_of_lt_of_le (Heap.lt_size e) (I.ok.cab x c hfn hc)))).trans e1⟩
  ·by_cases hj:j=i
   ·subst hj
    rw[hi] at e1;cases e1
    rw[List.getElem?_set_self hiσ] at e2
    cases e2
    exact⟨u,r,.inr ⟨.inl hk,c,hc,hc'⟩⟩
   ·rw[List.getElem?_set_ne (Ne.symm hj)] at e2
    obtain⟨u',r',q⟩:=hl j y v' e1 e2 e3
    refine⟨u',r',?_⟩
    rcases q with q|⟨k,c',e,z'⟩
    ·exact .inl q
    ·refine .inr ⟨k,c',e,z'.sameBut hs ?_⟩
     rintro rfl
     exact hj (uc hN e1 (I.ok.inj _ _ _ e hc▸hi))
  ·by_cases hcc:c'=c
   ·subst hcc;exact⟨_,hc'⟩
   ·obtain⟨w2,z2⟩:=I.cell y c' e
    exact⟨w2,z2.sameBut hs hcc⟩
  ·obtain⟨e,n,ne,nf,d⟩:=I.pin p hp
   refine⟨(hs.2 p.1 ?_).trans e,n,ne,nf,d⟩
   intro q
   rw[q,hoc] at e
   have q':oc=p.2:=Option.some.inj e
   exact d w' (by rw[←q'];exact hocd)
theorem jK {M:Model}{A:Around}{E:Value->Shared->Prop}{i:Nat}{x:Str}{v:V}{u:Value}{Q:Unit->Shared->Prop}(I:Inv X pins σ H s)(hN:X.N.Nodup)(hi:X.N[i]?=some x)(hx:Kp X.env.scope x)(r:RelV v u)
  (h:∀s',Inv X pins (σ.set i (some v)) H s'->Q () s') (hf:X.fn x=true\/X.env.scope.names.lookup x=some .local:=by first|exact .inl rfl|exact .inr rfl|assumption):wpAny M A (storeName X.env x u) Q E s:=
 rb I hN hi hx r (fun s' I' _=>h s' I') hf
theorem Inv.call' {s':Shared}{ch:List Addr}(I:Inv X pins σ H s)(ho:s'.os=s.os)(u:Un (wR X.stack) ch H H' s.heap s'.heap)(hok:HOk X.prog X.w H' s'.heap)(hg:AllBare s'.gens)
  (hch:∀b∈ch,(b∈X.ex\/X.s₀.heap.objs.size≤b)/\b≠X.env.locals/\(∀x c,X.env.cells.lookup x=some c->c≠b)/\∀p∈X.pn++pins,p.1≠b):Inv X pins σ H' s':=by
 obtain⟨h',g',d',t',o'⟩:=s'
 have e:o'=s.os:=ho
 subst e
 exact I.call (g':=g') (t':=t') (d':=d') u hok hg hch
end
noncomputable abbrev XK:=Value->Option Addr->Hp->Prop
noncomputable abbrev St:=List (Option V)
noncomputable abbrev VK:=V->Hp->Prop
noncomputable abbrev TE:=St->Hp->VK->Prop
noncomputable abbrev TT:=St->Hp->(Bool->Hp->Prop)->Prop
noncomputable abbrev TA:=St->Hp->(List V->Hp->Prop)->Prop
structure Ends where
 nx:St->Hp->Prop
 rt:VK
 bk:St->Hp->Prop:=fun _ _=>False
 ct:St->Hp->Prop:=fun _ _=>False
noncomputable abbrev TS:=Ends->St->Hp->Prop
noncomputable def EP (X:Cx)(pins:List (Addr×Obj))(σ:St)(Q:VK)(u:Value)(s':Shared):Prop:=∃v H',Inv X pins σ H' s'/\RelV v u/\Q v H'
noncomputable def TP (X:Cx)(pins:List (Addr×Obj))(σ:St)(Q:Bool->Hp->Prop)(b:Bool)(s':Shared):Prop:=∃H',Inv X pins σ H' s'/\Q b H'
noncomputable def AP (X:Cx)(pins:List (Addr×Obj))(σ:St)(Q:List V->Hp->Prop)(us:List Value)(s':Shared):Prop:=∃vs H',Inv X pins σ H' s'/\Vals vs us/\Q vs H'
noncomputable def SP (X:Cx)(pins:List (Addr×Obj))(D:Ends)(f:Flow)(s':Shared):Prop:=
 match f with
 |.next=>∃σ' H',Inv X pins σ' H' s'/\D.nx σ' H'
 |.brk=>∃σ' H',Inv X pins σ' H' s'/\D.bk σ' H'
 |.cont=>∃σ' H',Inv X pins σ' H' s'/\D.ct σ' H'
 |.ret u=>∃v σ' H',Inv X pins σ' H' s'/\RelV v u/\D.rt v H'
noncomputable def PE (X:Cx)(e:Expr)(t:TE):Prop:=
 ∀(pins:List (Addr×Obj)) (s:Shared) (σ:St) (H:Hp) (Q:VK),Inv X pins σ H s->t σ H Q->wpAny (model X.prog X.w) X.A (eval e X.env) (EP X pins σ Q) X.xe s
noncomputable def PT (X:Cx)(e:Expr)(t:TT):Prop:=
 ∀(pins:List (Addr×Obj)) (s:Shared) (σ:St) (H:Hp) (Q:Bool->Hp->Prop),Inv X pins σ H s->t σ H Q->wpAny (model X.prog X.w) X.A (isTrue e X.env (eval e X.env)) (TP X pins σ Q) X.xe s
noncomputable def PW (X:Cx)(e:Expr)(t:TT):Prop:=
 ∀(whole:Sem Value) (pins:List (Addr×Obj)) (s:Shared) (σ:St) (H:Hp) (Q:Bool->Hp->Prop),Inv X pins σ H s->t σ H Q->wpAny (model X.prog X.w) X.A (isTrue e X.env whole) (TP X pins σ Q) X.xe s
theorem PW.pt {X:Cx}{e:Expr}{t:TT}(h:PW X e t):PT X e t:=h _
noncomputable def PA (X:Cx)(es:List Expr)(t:TA):Prop:=
 ∀(pos:Pos) (pins:List (Addr×Obj)) (s:Shared) (σ:St) (H:Hp) (Q:List V->Hp->Prop),Inv X pins σ H s->t σ H Q->wpAny (model X.prog X.w) X.A (spliced (backTo pos (starEach es X.env))) (AP X pins σ Q) X.xe s
noncomputable def PS (X:Cx)(st:Stmt)(t:TS):Prop:=
 ∀(pins:List (Addr×Obj)) (s:Shared) (σ:St) (H:Hp) (D:Ends),Inv X pins σ H s->t D σ H->wpAny (model X.prog X.w) X.A (exec st X.env) (SP X pins D) X.xe s
noncomputable def PSs (X:Cx)(st:List Stmt)(t:TS):Prop:=
 ∀(pins:List (Addr×Obj)) (s:Shared) (σ:St) (H:Hp) (D:Ends),Inv X pins σ H s->t D σ H->wpAny (model X.prog X.w) X.A (execs st X.env) (SP X pins D) X.xe s
theorem bL {α:Type}{t:Sem α}{Q Q':α->Shared->Prop}{M:Model}{A:Around}{E:Value->Shared->Prop}{s:Shared}(h:wpAny M A t Q E s)(hQ:∀a s,Q a s->Q' a s):wpAny M A t Q' E s:=wpAny_mono h hQ fun _ _ x=>x
end L2
namespace L2
open PySem PySem.Spec PyProof.Rows
section
variable {X:Cx}
noncomputable def cR (i:Nat):TE:=fun σ H Q=>∃v,σ[i]?=some (some v)/\Q v H
noncomputable def tC (v:V):TE:=fun _ H Q=>Q v H
theorem wN {i:Nat}{x:Str}{pos:Pos}(hN:X.N[i]?=some x)(hv:Ij X.env.scope x)(hd:(x==("__debug__" : Str))=false:=by decide)(hcd:(x==("__classdict__" : Str))=false:=by decide):PE X (.Name x pos) (cR i):=by
 intro pins s σ H Q I h
 obtain⟨v,e,h⟩:=h
 obtain⟨m,hn,hl⟩:=I.loc
 obtain⟨u,r,l⟩:=hl i x v hN e hv
 have fin:EP X pins σ Q u s:=⟨v,H,I,r,h⟩
 rcases l with ⟨hk,hm⟩|⟨hk,c,hc,hcell⟩
 ·exact wpAny_Name (wpAny_loadName_local I.ok.kind hk hn hm fin) hd
 ·rcases hk with hk|hk
  ·exact wpAny_Name (wpAny_loadName_cell I.ok.kind hk hc hcell fin) hd
  ·exact wpAny_Name (wpAny_loadName_free I.ok.kind hk hc hcell fin hcd) hd
theorem kh {i j pos}:PE X (.Constant (.int i) j pos) (tC (.int i)):=fun _ _ _ H _ I h=>wpAny_Constant_int ⟨.int i,H,I.tok _,⟨_,rfl⟩,h⟩
theorem Oh {b j pos}:PE X (.Constant (.bool b) j pos) (tC (.bl b)):=fun _ _ _ H _ I h=>Constant_bool ⟨.bl b,H,I,rfl,h⟩
theorem KD {j pos}:PE X (.Constant .none j pos) (tC .non):=fun _ _ _ H _ I h=>Constant_none ⟨.non,H,I,rfl,h⟩
theorem L9 {x j pos}:PE X (.Constant (.str x) j pos) (tC (.str x)):=fun _ _ _ H _ I h=>Calls.Constant_str ⟨.str x,H,I.tok _,⟨_,rfl⟩,h⟩
noncomputable def Gl (X:Cx)(x:Str):Prop:=X.env.kindOf x=some .globalImplicit
theorem sB {E:Value->Shared->Prop}{pins:List (Addr×Obj)}{s:Shared}{σ:St}{H:Hp}{x:Str}{u:Value}{pos:Pos}{Q:Value->Shared->Prop}(I:Inv X pins σ H s)(hg:Gl X x)(hm:X.mg x=some u)(h:Q u s)
  (hd:(x==("__debug__" : Str))=false:=by decide):wpAny (model X.prog X.w) X.A (eval (.Name x pos) X.env) Q E s:=
 Calls.Name_function_global I.ok.kind hg (Calls.loadGlobal_global (by rw[I.ok.glob];exact I.mod.glob.keeps I.bk) hm h) hd
theorem j5 {E:Value->Shared->Prop}{pins:List (Addr×Obj)}{s:Shared}{σ:St}{H:Hp}{x:Str}{u:Value}{pos:Pos}{Q:Value->Shared->Prop}(I:Inv X pins σ H s)(hg:Gl X x)(hm:X.mg x=none)(hv:bootBuiltins x=some u)(h:Q u s)
  (hn:x ≠ "__name__":=by decide) (hd:(x==("__debug__" : Str))=false:=by decide):wpAny (model X.prog X.w) X.A (eval (.Name x pos) X.env) Q E s:=by
 obtain⟨mb,h1,h2⟩:=I.mod.blt
 exact Calls.Name_function_global I.ok.kind hg (Calls.loadGlobal_builtin (by rw[I.ok.glob];exact I.mod.glob.keeps I.bk) hm (by rw[I.ok.blt];exact h1.keeps I.bk) ((h2 x hn).trans hv) h) hd
theorem ku {x:Str}{v:V}{u:Value}{pos:Pos}(hg:Gl X x)(hm:X.mg x=some u)(r:RelV v u)(hd:(x==("__debug__" : Str))=false:=by decide):PE X (.Name x pos) (tC v):=
 fun _ _ _ H _ I h=>sB I hg hm ⟨v,H,I,r,h⟩ hd
theorem F6 {x:Str}{v:V}{u:Value}{pos:Pos}(hg:Gl X x)(hm:X.mg x=none)(hv:bootBuiltins x=some u)(r:RelV v u)(hn:x ≠ "__name__":=by decide)(hd:(x==("__debug__" : Str))=false:=by decide):PE X (.Name x pos) (tC v):=
 fun _ _ _ H _ I h=>j5 I hg hm hv ⟨v,H,I,r,h⟩ hn hd
variable {a b:Expr}{ta tb:TE}{pos:Pos}
noncomputable def PC (X:Cx)(op:CmpOp)(a b:Expr)(t:TE):Prop:=
 ∀(pins:List (Addr×Obj)) (s:Shared) (σ:St) (H:Hp) (Q:VK),Inv X pins σ H s->t σ H Q →
  wpAny (model X.prog X.w) X.A (eval a X.env) (fun v s₁=>wpAny (model X.prog X.w) X.A (eval b X.env) (fun u s₂=>wpAny (model X.prog X.w) X.A (compareOp op v u) (EP X pins σ Q) X.xe s₂) X.xe s₁) X.xe s
theorem De (b:Expr){op:CmpOp}(h:op≠.In)(h2:op≠.NotIn):behindInMarks op b=false:=by
 have e1:(op==CmpOp.In)=false:=by cases op<;>first|rfl|exact absurd rfl h
 have e2:(op==CmpOp.NotIn)=false:=by cases op<;>first|rfl|exact absurd rfl h2
 cases b<;>simp[behindInMarks,e1,e2]
noncomputable def tB (t:TE):TT:=fun σ H Q=>t σ H fun x H1=>∃c,x=.bl c/\Q c H1
theorem J2 {op:CmpOp}{t:TE}(h:PC X op a b t)(h1:behindInMarks op b=false:=by first|exact De _ (by decide) (by decide)|rfl):PE X (.Compare a [op] [b] pos) t:=fun pins s σ H Q I hw=>wpAny_Compare1 (h pins s σ H Q I hw) h1
theorem KA {e:Expr}{t:TE}(h:PE X e t)(he:∀whole,isTrue e X.env whole=(do let v ←whole;standAt e.pos;holding [v] (truthy v)):=by intro _;rfl):PT X e (tB t):=by
 intro pins s σ H Q I hw
 refine isTrue_plain (bL (h pins s σ H _ I hw) fun v s1 ⟨x,H1,I1,r1,q1⟩=>?_) (he _)
 obtain⟨d,rfl,q⟩:=q1
 cases r1
 exact wpAny_truthy_bool ⟨H1,I1,q⟩
variable {tA tB':TT}{cC:List Expr}
noncomputable def gj (t u:TT):TT:=fun σ H Q=>t σ H fun c H1=>if c=true then u σ H1 Q else Q false H1
noncomputable def mz (t u:TT):TT:=fun σ H Q=>t σ H fun c H1=>if c=true then Q true H1 else u σ H1 Q
noncomputable def gn (t:TT):TT:=fun σ H Q=>t σ H fun c H1=>Q (!c) H1
theorem Gm (ha:PT X a tA):PW X (.BoolOp .And [a] pos) tA:=by
 intro wh pins s σ H Q I h
 refine isTrue_and (bL (ha pins s σ H Q I h) fun c s1 e=>?_)
 cases c with
 |true=>exact isTrue_and_nil e
 |false=>exact e
theorem Jo (ha:PT X a tA):PW X (.BoolOp .Or [a] pos) tA:=by
 intro wh pins s σ H Q I h
 refine isTrue_or (bL (ha pins s σ H Q I h) fun c s1 e=>?_)
 cases c with
 |false=>exact isTrue_or_nil e
 |true=>exact e
theorem Jd (ha:PT X a tA)(hb:PW X (.BoolOp .And (b::cC) pos) tB'):PW X (.BoolOp .And (a::b::cC) pos) (gj tA tB'):=by
 intro wh pins s σ H Q I h
 refine isTrue_and (bL (ha pins s σ H _ I h) fun c s1 ⟨H1,I1,q1⟩=>?_)
 cases c with
 |true=>exact hb wh pins s1 σ H1 Q I1 q1
 |false=>exact⟨H1,I1,q1⟩
theorem M0 (ha:PT X a tA)(hb:PW X (.BoolOp .Or (b::cC) pos) tB'):PW X (.BoolOp .Or (a::b::cC) pos) (mz tA tB'):=by
 intro wh pins s σ H Q I h
 refine isTrue_or (bL (ha pins s σ H _ I h) fun c s1 ⟨H1,I1,q1⟩=>?_)
 cases c with
 |true=>exact⟨H1,I1,q1⟩
 |false=>exact hb wh pins s1 σ H1 Q I1 q1
theorem LA (ha:PT X a tA):PT X (.UnaryOp .Not a pos) (gn tA):=by
 intro pins s σ H Q I h
 exact isTrue_not (ha pins s σ H (fun c H1=>Q (!c) H1) I h)
noncomputable def cH (ta tb:TE):TE:=fun σ H Q=>ta σ H fun x H1=>∃c,x=.bl c/\if c=true then tb σ H1 Q else Q (.bl false) H1
noncomputable def fY (ta tb:TE):TE:=fun σ H Q=>ta σ H fun x H1=>∃c,x=.bl c/\if c=true then Q (.bl true) H1 else tb σ H1 Q
noncomputable def cA (ta:TE):TE:=fun σ H Q=>ta σ H fun x H1=>∃c,x=.bl c/\Q (.bl (!c)) H1
theorem Dw {op}{t:TE}(h:PE X a t):PE X (.BoolOp op [a] pos) t:=fun pins s σ H Q I hw=>BoolOp_one (h pins s σ H Q I hw)
theorem AZ (ha:PE X a ta)(hb:PE X (.BoolOp .And (b::cC) pos) tb):PE X (.BoolOp .And (a::b::cC) pos) (cH ta tb):=by
 intro pins s σ H Q I h
 refine BoolOp_and (bL (ha pins s σ H _ I h) fun v s1 ⟨x,H1,I1,r1,q1⟩=>?_)
 obtain⟨c,rfl,q1⟩:=q1
 cases r1
 refine wpAny_truthy_bool ?_
 cases c with
 |true=>exact hb pins s1 σ H1 Q I1 q1
 |false=>exact⟨.bl false,H1,I1,rfl,q1⟩
theorem OA (ha:PE X a ta)(hb:PE X (.BoolOp .Or (b::cC) pos) tb):PE X (.BoolOp .Or (a::b::cC) pos) (fY ta tb):=by
 intro pins s σ H Q I h
 refine BoolOp_or (bL (ha pins s σ H _ I h) fun v s1 ⟨x,H1,I1,r1,q1⟩=>?_)
 obtain⟨c,rfl,q1⟩:=q1
 cases r1
 refine wpAny_truthy_bool ?_
 cases c with
 |false=>exact hb pins s1 σ H1 Q I1 q1
 |true=>exact⟨.bl true,H1,I1,rfl,q1⟩
theorem Lu (ha:PE X a ta):PE X (.UnaryOp .Not a pos) (cA ta):=by
 intro pins s σ H Q I h
 refine UnaryOp_ (bL (ha pins s σ H _ I h) fun v s1 ⟨x,H1,I1,r1,q1⟩=>?_)
 obtain⟨c,rfl,q1⟩:=q1
 cases r1
 exact not_of (wpAny_truthy_bool ⟨.bl (!c),H1,I1,rfl,q1⟩)
noncomputable def mw (t:TT)(ta tb:TE):TE:=fun σ H Q=>t σ H fun c H1=>if c=true then ta σ H1 Q else tb σ H1 Q
theorem D6 {c:Expr}(hc:PT X c tA)(ha:PE X a ta)(hb:PE X b tb):PE X (.IfExp c a b pos) (mw tA ta tb):=by
 intro pins s σ H Q I h
 refine wpAny_IfExp (bL (hc pins s σ H _ I h) fun d s1 ⟨H1,I1,q1⟩=>?_)
 cases d with
 |true=>exact ha pins s1 σ H1 Q I1 q1
 |false=>exact hb pins s1 σ H1 Q I1 q1
end
end L2
namespace L2
open PySem PySem.Spec PyProof.Rows
noncomputable def SqL (K:PySem.W.Frag)(H:Hp)(a:Addr)(xs:List V):Prop:=
 Rd H a (.lst xs) ∨
  ∃(o:Obj) (its:Array Value) (n:Nat),K.lookup a=some o/\o.cls=.type "list"/\o.dict=none/\o.data=.seq its n/\its.size≤sizeLine/\Vals xs its.toList
noncomputable def SqT (K:PySem.W.Frag)(H:Hp)(a:Addr)(xs:List V):Prop:=
 Rd H a (.tup xs) ∨
  ∃(o:Obj) (its:Array Value) (n:Nat),K.lookup a=some o/\o.cls=.type "tuple"/\o.data=.seq its n/\its.size≤sizeLine/\Vals xs its.toList
noncomputable def QI:Value->Option V
 |.none=>some .non
 |.bool b=>some (.bl b)
 |.int i _=>some (.int i)
 |.str x _=>some (.str x)
 |.bytes b _=>some (.byt b)
 |.float b _=>some (.flt b)
 |.ref a=>some (.ref a)
 |.type n=>some (.ty n)
 |_=>none
theorem RelV.abs {x:V}{u:Value}(r:RelV x u):QI u=some x:=by
 cases x with
 |non=>cases r;rfl
 |bl _=>cases r;rfl
 |int _=>obtain⟨t,rfl⟩:=r;rfl
 |str _=>obtain⟨t,rfl⟩:=r;rfl
 |byt _=>obtain⟨t,rfl⟩:=r;rfl
 |flt _=>obtain⟨t,rfl⟩:=r;rfl
 |ref _=>cases r;rfl
 |ty _=>cases r;rfl
theorem RelV.inj {x y:V}{u:Value}(r:RelV x u)(q:RelV y u):x=y:=Option.some.inj (r.abs.symm.trans q.abs)
theorem Vals.inj:∀{xs ys:List V} {us:List Value},Vals xs us->Vals ys us->xs=ys
 |_,_,_,.nil,.nil=>rfl
 |_,_,_,.cons r t,.cons r' t'=>by rw[r.inj r',Vals.inj t t']
section
variable {X:Cx}{pins:List (Addr×Obj)}{σ:St}{H:Hp}{s:Shared}{a:Addr}{xs ys:List V}
theorem SqL.of {K:PySem.W.Frag}(h:H a=some (.lst xs)):SqL K H a xs:=.inl (.inl h)
theorem SqT.of {K:PySem.W.Frag}(h:H a=some (.tup xs)):SqT K H a xs:=.inl (.inl h)
theorem Inv.list (I:Inv X pins σ H s)(h:SqL X.K H a xs):∃its:List Value,Vals xs its/\PlainL s.heap a its.toArray/\xs.length≤sizeLine:=by
 rcases h with h|⟨o,its,n,hk,hc,hd,hs,hz,r⟩
 ·obtain⟨z,its,n,r,e⟩:=h.ok I.hok
  exact⟨its,r,⟨_,n,e,rfl,rfl,rfl⟩,z⟩
 ·refine⟨its.toList,r,⟨o,n,I.kIn a o hk,hc,hd,by simpa using hs⟩,?_⟩
  have e:=r.length
  simp only[Array.length_toList] at e
  omega
theorem Inv.tuple (I:Inv X pins σ H s)(h:SqT X.K H a xs):∃its:List Value,Vals xs its/\IsTup s.heap a its.toArray/\xs.length≤sizeLine:=by
 rcases h with h|⟨o,its,n,hk,hc,hs,hz,r⟩
 ·obtain⟨z,its,r,p⟩:=h.ok I.hok
  exact⟨its,r,p,z⟩
 ·refine⟨its.toList,r,⟨o,I.kIn a o hk,hc,n,by simpa using hs⟩,?_⟩
  have e:=r.length
  simp only[Array.length_toList] at e
  omega
theorem Inv.list_inj (I:Inv X pins σ H s)(h:SqL X.K H a xs)(h':SqL X.K H a ys):xs=ys:=by
 obtain⟨its,r,⟨o,n,e,_,_,d⟩,_⟩:=I.list h
 obtain⟨its',r',⟨o',n',e',_,_,d'⟩,_⟩:=I.list h'
 rw[e] at e';cases e'
 rw[d] at d'
 injection d' with d1 _
 have:its=its':=by simpa using congrArg Array.toList d1
 subst this
 exact r.inj r'
theorem Inv.tuple_inj (I:Inv X pins σ H s)(h:SqT X.K H a xs)(h':SqT X.K H a ys):xs=ys:=by
 obtain⟨its,r,⟨o,e,_,n,d⟩,_⟩:=I.tuple h
 obtain⟨its',r',⟨o',e',_,n',d'⟩,_⟩:=I.tuple h'
 rw[e] at e';cases e'
 rw[d] at d'
 injection d' with d1 _
 have:its=its':=by simpa using congrArg Array.toList d1
 subst this
 exact r.inj r'
end
noncomputable abbrev Cx.wish (X:Cx)(E:Value->Shared->Prop):Cx:={ X with xe:=E }
noncomputable abbrev Cx.nox (X:Cx):Cx:=X.wish fun _ _=>False
theorem Cx.Ok.wish {X:Cx}(ok:X.Ok)(E:Value->Shared->Prop):(X.wish E).Ok:=
 ⟨ok.mod,ok.kind,ok.glob,ok.blt,ok.above,ok.inj,ok.has,ok.cab,ok.hd,ok.frames,ok.stk,ok.exf,ok.bs,ok.bsz,ok.noex,ok.exfs,ok.funs,ok.frf⟩
theorem Cx.Ok.unwish {X:Cx}{E:Value->Shared->Prop}(ok:(X.wish E).Ok):X.Ok:=
 ⟨ok.mod,ok.kind,ok.glob,ok.blt,ok.above,ok.inj,ok.has,ok.cab,ok.hd,ok.frames,ok.stk,ok.exf,ok.bs,ok.bsz,ok.noex,ok.exfs,ok.funs,ok.frf⟩
section
variable {X:Cx}{pins:List (Addr×Obj)}{σ:St}{H:Hp}{s:Shared}{E:Value->Shared->Prop}
theorem Inv.wish (I:Inv X pins σ H s)(E:Value->Shared->Prop):Inv (X.wish E) pins σ H s:=⟨I.ok.wish E,I.os,I.bare,I.base,I.loc,I.cell,I.free,I.freeC,I.pin,I.hok,I.len⟩
theorem Inv.unwish (I:Inv (X.wish E) pins σ H s):Inv X pins σ H s:=⟨I.ok.unwish,I.os,I.bare,I.base,I.loc,I.cell,I.free,I.freeC,I.pin,I.hok,I.len⟩
theorem SP.unwish {D:Ends}{f:Flow}{s':Shared}(h:SP (X.wish E) pins D f s'):SP X pins D f s':=by
 cases f with
 |next=>obtain⟨σ',H',I,q⟩:=h;exact⟨σ',H',I.unwish,q⟩
 |brk=>obtain⟨σ',H',I,q⟩:=h;exact⟨σ',H',I.unwish,q⟩
 |cont=>obtain⟨σ',H',I,q⟩:=h;exact⟨σ',H',I.unwish,q⟩
 |ret u=>obtain⟨v,σ',H',I,r,q⟩:=h;exact⟨v,σ',H',I.unwish,r,q⟩
theorem PSs.nox {st:List Stmt}{t:TS}(h:PSs X.nox st t):PSs X st t:=fun pins s σ H D I hw=>
 wpAny_mono (h pins s σ H D (I.wish _) hw) (fun _ _ q=>q.unwish) fun _ _ z=>False.elim z
end
section
variable {X:Cx}{st:Stmt}{cC:List Stmt}{t u:TS}{e:Expr}{te:TE}{pos:Pos}
noncomputable def cj:TS:=fun D σ H=>D.nx σ H
noncomputable def fS (t u:TS):TS:=fun D σ H=>t { D with nx:=u D } σ H
theorem Hk:PSs X [] cj:=fun _ _ σ H _ I h=>wpAny_execs_nil ⟨σ,H,I,h⟩
theorem aA (h1:PS X st t)(h2:PSs X cC u):PSs X (st::cC) (fS t u):=by
 intro pins s σ H D I h
 refine wpAny_execs_cons (bL (h1 pins s σ H { D with nx:=u D } I h) fun f s1 q=>?_)
 cases f with
 |next=>
  obtain⟨σ',H',I',q⟩:=q
  exact h2 pins s1 σ' H' D I' q
 |ret v=>exact q
 |brk=>exact q
 |cont=>exact q
theorem eG (h1:PS X st t):PSs X [st] t:=by
 intro pins s σ H D I h
 refine wpAny_execs_cons (bL (h1 pins s σ H D I h) fun f s1 q=>?_)
 cases f with
 |next=>exact wpAny_execs_nil q
 |ret v=>exact q
 |brk=>exact q
 |cont=>exact q
noncomputable def Kw:TS:=fun D σ H=>D.bk σ H
noncomputable def MZ:TS:=fun D σ H=>D.ct σ H
theorem GS:PS X (.Pass pos) cj:=fun _ _ σ H _ I h=>wpAny_Pass ⟨σ,H,I,h⟩
theorem DR:PS X (.Break pos) Kw:=fun _ _ σ H _ I h=>wpAny_Break ⟨σ,H,I,h⟩
theorem uF:PS X (.Continue pos) MZ:=fun _ _ σ H _ I h=>wpAny_Continue ⟨σ,H,I,h⟩
theorem Inv.quiet {pins:List (Addr×Obj)}{σ:St}{H:Hp}{s:Shared}(I:Inv X pins σ H s):interactive X.env=false:=by simp[interactive,I.ok.kind]
theorem Lz {x j pos pos'}:PS X (.Expr (.Constant (.str x) j pos) pos') cj:=fun _ s σ H _ I h=>wpAny_Expr (Calls.Constant_str (show SP X _ _ .next { s with toks:=s.toks+1 } from⟨σ,H,I.tok _,h⟩)) I.quiet
noncomputable def bA (te:TE):TS:=fun D σ H=>te σ H fun _ H1=>D.nx σ H1
theorem jo (he:PE X e te)(hs:swapsWith e none pos.line X.env=pure false:=by rfl):PS X (.Expr e pos) (bA te):=by
 intro pins s σ H D I h
 exact wpAny_Expr_any (bL (he pins s σ H _ I h) fun v s1 ⟨x,H1,I1,r1,q1⟩=>⟨σ,H1,I1,q1⟩) I.quiet hs
noncomputable def ga (te:TE):TS:=fun D σ H=>te σ H D.rt
theorem iI (he:PE X e te):PS X (.Return (some e) pos) (ga te):=by
 intro pins s σ H D I h
 exact wpAny_Return_some (bL (he pins s σ H _ I h) fun v s1 ⟨x,H1,I1,r1,q1⟩=>⟨x,σ,H1,I1,r1,q1⟩)
noncomputable def cM:TS:=fun D _ H=>D.rt .non H
noncomputable def gq (c:TT)(t u:TS):TS:=fun D σ H=>c σ H fun b H1=>if b=true then t D σ H1 else u D σ H1
theorem O2 {c:Expr}{a b:List Stmt}{tc:TT}(hc:PT X c tc)(ha:PSs X a t)(hb:PSs X b u):PS X (.If c a b pos) (gq tc t u):=by
 intro pins s σ H D I h
 refine wpAny_If (bL (hc pins s σ H _ I h) fun d s1 ⟨H1,I1,q1⟩=>?_)
 cases d with
 |true=>exact ha pins s1 σ H1 D I1 q1
 |false=>exact hb pins s1 σ H1 D I1 q1
noncomputable def bm:TS:=fun _ _ _=>False
theorem D9:PS X st bm:=fun _ _ _ _ _ _ h=>h.elim
end
noncomputable abbrev TG:=V->St->Hp->(St->Hp->Prop)->Prop
noncomputable abbrev ve:=List V->St->Hp->(St->Hp->Prop)->Prop
noncomputable def PG (X:Cx)(target:Expr)(t:TG):Prop:=
 ∀(pins:List (Addr×Obj)) (s:Shared) (σ:St) (H:Hp) (v:V) (u:Value) (Q:St->Hp->Prop),Inv X pins σ H s->RelV v u->t v σ H Q →
  wpAny (model X.prog X.w) X.A (assign target X.env u) (fun _ s'=>∃σ' H',Inv X pins σ' H' s'/\Q σ' H') X.xe s
noncomputable def MC (X:Cx)(ts:List Expr)(t:ve):Prop:=
 ∀(pins:List (Addr×Obj)) (s:Shared) (σ:St) (H:Hp) (vs:List V) (us:List Value) (Q:St->Hp->Prop),Inv X pins σ H s->Vals vs us->t vs σ H Q →
  wpAny (model X.prog X.w) X.A (assignInOrder ((assignEach ts X.env).map (·.2)) us) (fun _ s'=>∃σ' H',Inv X pins σ' H' s'/\Q σ' H') X.xe s
noncomputable abbrev CF:=V->V->V->Hp->(Hp->Prop)->Prop
noncomputable def Lm (X:Cx)(t:CF):Prop:=
 ∀(pins:List (Addr×Obj)) (s:Shared) (σ:St) (H:Hp) (o i v:V) (ov iv u:Value) (Q:Hp->Prop),Inv X pins σ H s->RelV o ov->RelV i iv->RelV v u->t o i v H Q →
  wpAny (model X.prog X.w) X.A (setItem ov iv u) (fun _ s'=>∃H',Inv X pins σ H' s'/\Q H') X.xe s
noncomputable abbrev MA:=V->V->Hp->VK->Prop
noncomputable def Mx (X:Cx)(op:Operator)(t:MA):Prop:=
 ∀(pins:List (Addr×Obj)) (s:Shared) (σ:St) (H:Hp) (x y:V) (v u:Value) (Q:VK),Inv X pins σ H s->RelV x v->RelV y u->t x y H Q →
  wpAny (model X.prog X.w) X.A (inplaceOp op v u) (EP X pins σ Q) X.xe s
section
variable {X:Cx}{pos:Pos}
noncomputable def aO (i:Nat):TG:=fun v σ H Q=>Q (σ.set i (some v)) H
theorem jx {i:Nat}{x:Str}(hN:X.N.Nodup)(hi:X.N[i]?=some x)(hx:Kp X.env.scope x)(hf:X.fn x=true\/X.env.scope.names.lookup x=some .local:=by first|exact .inl rfl|exact .inr rfl|assumption):PG X (.Name x pos) (aO i):=by
 intro pins s σ H v u Q I r h
 exact wpAny_assign_Name (jK I hN hi hx r (fun s' I'=>⟨_,H,I',h⟩) hf)
noncomputable def fD:ve:=fun vs σ H Q=>vs=[]/\Q σ H
noncomputable def bX (t:TG)(u:ve):ve:=fun vs σ H Q=>∃v r,vs=v::r/\t v σ H fun σ' H'=>u r σ' H' Q
theorem nR:MC X [] fD:=by
 intro pins s σ H vs us Q I r h
 obtain⟨e,h⟩:=h
 subst e
 cases r
 exact assignInOrder_nil ⟨σ,H,I,h⟩
theorem ig {e:Expr}{es:List Expr}{t:TG}{u:ve}(h1:PG X e t)(h2:MC X es u)
  (hs:(assignEach (e::es) X.env).map (·.2)=assign e X.env::(assignEach es X.env).map (·.2):=by rfl):MC X (e::es) (bX t u):=by
 intro pins s σ H vs us Q I r h
 obtain⟨v,vr,e1,h⟩:=h
 subst e1
 cases r with
 |cons r rr=>
  rw[hs]
  refine assignInOrder_cons (bL (h1 pins s σ H _ _ _ I r h) fun _ s1 ⟨σ1,H1,I1,q1⟩=>?_)
  exact h2 pins s1 σ1 H1 _ _ Q I1 rr q1
noncomputable def eL (K:PySem.W.Frag)(n:Nat)(t:ve):TG:=fun v σ H Q=>∃a xs,v=.ref a/\SqT K H a xs/\xs.length=n/\t xs σ H Q
theorem C2 {es:List Expr}{k:Nat}{t:ve}{n:Nat}(hc:X.calm=true)(h:MC X es t)
  (hn:(assignEach es X.env).length=n:=by rfl) (hst:(assignEach es X.env).findIdx? (·.1)=none:=by rfl):PG X (.Tuple es k pos) (eL X.K n t):=by
 intro pins s σ H v u Q I r hw
 obtain⟨a,xs,e1,hq,hl,hw⟩:=hw
 subst e1
 cases r
 obtain⟨its,rv,ht,hz⟩:=I.tuple hq
 refine assign_Tuple_tuple (I.ok.hd hc) ht (by simp[hn,←hl,rv.length]) hst fun h' hx=>?_
 have I1:Inv X pins σ H { s with heap:=h' }:=I.kept (t':=s.toks) fun b o e=>hx b o (Nat.ne_of_lt (Heap.lt_size e)) e
 exact h pins _ σ H xs _ Q I1 (by simpa using rv) hw
noncomputable def eV (to ti:TE)(t:CF):TG:=fun v σ H Q=>to σ H fun o H1=>ti σ H1 fun i H2=>t o i v H2 fun H3=>Q σ H3
theorem pc {o i:Expr}{to ti:TE}{t:CF}(ho:PE X o to)(hi:PE X i ti)(hs:Lm X t)
  (ha:∀v,assign (.Subscript o i pos) X.env v=(do
   let ov ←holding [v] (eval o X.env)
   let iv ←holding [v,ov] (eval i X.env)
   standAt pos
   holding [v,ov,iv] (setItem ov iv v)
   release [v,ov,iv] []):=by intro _;rfl):PG X (.Subscript o i pos) (eV to ti t):=by
 intro pins s σ H v u Q I r h
 rw[ha]
 refine wpAny_bind (wpAny_holding (bL (ho pins s σ H _ I h) fun ov s1 ⟨x,H1,I1,r1,q1⟩=>?_))
 refine wpAny_bind (wpAny_holding (bL (hi pins s1 σ H1 _ I1 q1) fun iv s2 ⟨y,H2,I2,r2,q2⟩=>?_))
 refine wpAny_bind (wpAny_standAt (wpAny_bind (wpAny_holding (bL (hs pins s2 σ H2 x y v ov iv u _ I2 r1 r2 r q2) fun _ s3 ⟨H3,I3,q3⟩=>?_))))
 exact wpAny_release ⟨σ,H3,I3,q3⟩
noncomputable def cv (te:TE)(g:TG):TS:=fun D σ H=>te σ H fun x H1=>g x σ H1 D.nx
theorem ju {tg e:Expr}{te:TE}{g:TG}(he:PE X e te)(hg:PG X tg g)(hs:swapsWithSole [tg] e pos.line X.env=pure false:=by rfl)(hw:swappedStores [tg] e X.env=pure none:=by rfl)
  (h1:(assignEach [tg] X.env).map (·.2)=[assign tg X.env]:=by rfl):PS X (.Assign [tg] e pos) (cv te g):=by
 intro pins s σ H D I h
 refine wpAny_Assign_stores (bL (he pins s σ H _ I h) fun v s1 ⟨x,H1,I1,r1,q1⟩=>?_) hs hw
 rw[h1]
 exact bL (hg pins s1 σ H1 x v _ I1 r1 q1) fun _ s2 q=>q
theorem dm {i:Nat}{x:Str}{e:Expr}{te:TE}{pos':Pos}(hN:X.N.Nodup)(hi:X.N[i]?=some x)(hx:Kp X.env.scope x)(he:PE X e te)(hs:swapsWith e (some (.Name x pos')) pos.line X.env=pure false:=by rfl)(hf:X.fn x=true\/X.env.scope.names.lookup x=some .local:=by first|exact .inl rfl|exact .inr rfl|assumption) :
  PS X (.Assign [.Name x pos'] e pos) (cv te (aO i)):=by
 intro pins s σ H D I h
 refine wpAny_Assign_Name (bL (he pins s σ H _ I h) fun v s1 ⟨y,H1,I1,r1,q1⟩=>?_) hs
 exact jK I1 hN hi hx r1 (fun s2 I2=>⟨_,H1,I2,q1⟩) hf
noncomputable def eW (i j:Nat)(ta:TA):TS:=fun D σ H=>ta σ H fun vs H1=>∃v w,vs=[v,w]/\D.nx ((σ.set i (some v)).set j (some w)) H1
theorem BQ {i j:Nat}{x y:Str}{a b:Expr}{ta:TA}{px py pt:Pos}{kt k2 pt2}(hc:X.calm=true)(hN:X.N.Nodup)(hi:X.N[i]?=some x)(hj:X.N[j]?=some y)(hij:i≠j)
  (hx:X.env.scope.names.lookup x=some .local) (hy:X.env.scope.names.lookup y=some .local) (ha:PA X [a,b] ta)
  (hw:swappedStores [.Tuple [.Name x px,.Name y py] kt pt] (.Tuple [a,b] k2 pt2) X.env=pure (some [x,y]))
  (hs:swapsWithSole [.Tuple [.Name x px,.Name y py] kt pt] (.Tuple [a,b] k2 pt2) pos.line X.env=pure false:=by rfl) :
  PS X (.Assign [.Tuple [.Name x px,.Name y py] kt pt] (.Tuple [a,b] k2 pt2) pos) (eW i j ta):=by
 intro pins s σ H D I h
 rw[exec_Assign_arm]
 refine wpAny_bind (wpAny_standAt ?_)
 rw[hs]
 refine wpAny_bind (wpAny_pure ?_)
 rw[if_neg (by decide)]
 refine wpAny_bind (Tuple_ (bL (ha _ pins s σ H _ I h) fun us s1 ⟨vs,H1,I1,r1,q1⟩=>?_))
 obtain⟨v,w,e1,q1⟩:=q1
 subst e1
 obtain⟨u1,u2,rfl,rv,rw'⟩:∃u1 u2,us=[u1,u2]/\RelV v u1/\RelV w u2:=by
  cases r1 with
  |cons p q=>
   cases q with
   |cons p' q'=>
    cases q'
    exact⟨_,_,rfl,p,p'⟩
 refine wpAny_newObj_type ?_ (by show 2≤sizeLine;decide)
 have I2:Inv X pins σ H1 { s1 with heap:=s1.heap.push { cls:=.type "tuple",data:=.seq [u1,u2].toArray } }:=I1.kept (t':=s1.toks) fun b o e=>Heap.get?_push_of_some _ e
 rw[hw]
 refine wpAny_bind (wpAny_pure ?_)
 show wpAny (model X.prog X.w) X.A (do rule "assign.swapped-stores";let items ←unpackItems (.ref s1.heap.objs.size) 2 none;assignInOrder [fun v=>bindName X.env y v,fun v=>bindName X.env x v] items.reverse;pure Flow.next) _ _ _
 refine wpAny_bind (wpAny_rule (wpAny_bind (unpackItems_tuple (items:=#[u1,u2]) (I.ok.hd hc) (IsTup.new s1.heap _) fun h' hx'=>?_)))
 have I3:=I2.kept (h':=h') (t':=s1.toks) fun b o e=>hx' b o (Nat.ne_of_lt (Heap.lt_size e)) e
 show wpAny _ _ (assignInOrder [fun v=>bindName X.env y v,fun v=>bindName X.env x v] [u2,u1] >>= fun _=>pure Flow.next) _ _ _
 refine wpAny_bind (assignInOrder_cons (wpAny_bindName (jK I3 hN hj (.inl hy) rw' (fun s2 I4=>?_) (.inr hy))))
 refine assignInOrder_cons (wpAny_bindName (jK I4 hN hi (.inl hx) rv (fun s3 I5=>assignInOrder_nil (wpAny_pure ?_)) (.inr hx)))
 rw[List.set_comm _ _ (Ne.symm hij)] at I5
 exact⟨_,H1,I5,q1⟩
noncomputable def fK (i:Nat)(te:TE)(ti:MA):TS:=fun D σ H=>∃x,σ[i]?=some (some x)/\te σ H fun y H1=>ti x y H1 fun z H2=>D.nx (σ.set i (some z)) H2
theorem sv {i:Nat}{x:Str}{e:Expr}{te:TE}{op:Operator}{ti:MA}{pos':Pos}(hN:X.N.Nodup)(hi:X.N[i]?=some x)(hx:Kp X.env.scope x)(he:PE X e te)(ho:Mx X op ti)(hf:X.fn x=true\/X.env.scope.names.lookup x=some .local:=by first|exact .inl rfl|exact .inr rfl|assumption) :
  PS X (.AugAssign (.Name x pos') op e pos) (fK i te ti):=by
 intro pins s σ H D I h
 obtain⟨v,e1,h⟩:=h
 obtain⟨m,hn,hl⟩:=I.loc
 have vis:Ij X.env.scope x:=by rcases hx with k|k;exact .inl k;exact .inr (.inl k)
 obtain⟨u,r,l⟩:=hl i x v hi e1 vis
 refine wpAny_AugAssign_Name ?_
 have go:wpAny (model X.prog X.w) X.A (eval e X.env) (fun w s₂=>wpAny (model X.prog X.w) X.A (inplaceOp op u w) (fun r s₃=>wpAny (model X.prog X.w) X.A (storeName X.env x r) (fun _=>SP X pins D .next) X.xe s₃) X.xe s₂) X.xe s:=by
  refine bL (he pins s σ H _ I h) fun w s1 ⟨y,H1,I1,r1,q1⟩=>?_
  refine bL (ho pins s1 σ H1 v y u w _ I1 r r1 q1) fun z s2 ⟨zv,H2,I2,r2,q2⟩=>?_
  exact jK I2 hN hi hx r2 (fun s3 I3=>⟨_,H2,I3,q2⟩) hf
 rcases l with ⟨hk,hm⟩|⟨hk,c,hc,hcell⟩
 ·exact wpAny_loadName_local I.ok.kind hk hn hm go
 ·rcases hk with hk|hk
  ·exact wpAny_loadName_cell I.ok.kind hk hc hcell go
  ·rcases hx with k|k
   ·have:X.env.scope.names.lookup x=some .free:=hk
    rw[k] at this;cases this
   ·have:X.env.scope.names.lookup x=some .free:=hk
    rw[k] at this;cases this
noncomputable def O1 (to ti te:TE)(tget:V->V->Hp->VK->Prop)(tip:MA)(tset:CF):TS:=fun D σ H=>to σ H fun o H1=>ti σ H1 fun i H2=>tget o i H2 fun x H3=>te σ H3 fun y H4=>tip x y H4 fun z H5=>tset o i z H5 fun H6=>D.nx σ H6
noncomputable def Na (X:Cx)(t:V->V->Hp->VK->Prop):Prop:=
 ∀(pins:List (Addr×Obj)) (s:Shared) (σ:St) (H:Hp) (o i:V) (ov iv:Value) (Q:VK),Inv X pins σ H s->RelV o ov->RelV i iv->t o i H Q →
  wpAny (model X.prog X.w) X.A (getItem ov iv) (EP X pins σ Q) X.xe s
theorem EJ {o i e:Expr}{to ti te:TE}{tget:V->V->Hp->VK->Prop}{tip:MA}{tset:CF}{op:Operator}{tpos:Pos}(ho:PE X o to)(hi:PE X i ti)(hg:Na X tget)(he:PE X e te)(hp:Mx X op tip)(hs:Lm X tset)
  (ha:∀ov iv new,augStore i ov iv new=(do holding [new,ov,iv] (setItem ov iv new);release [new,ov,iv] [];pure .next):=by intros;rfl):PS X (.AugAssign (.Subscript o i tpos) op e pos) (O1 to ti te tget tip tset):=by
 intro pins s σ H D I h
 refine wpAny_AugAssign_SubscriptAny (bL (ho pins s σ H _ I h) fun ov s1 ⟨x1,H1,I1,r1,q1⟩=>?_) ha
 refine bL (hi pins s1 σ H1 _ I1 q1) fun iv s2 ⟨x2,H2,I2,r2,q2⟩=>?_
 refine bL (hg pins s2 σ H2 x1 x2 ov iv _ I2 r1 r2 q2) fun old s3 ⟨x3,H3,I3,r3,q3⟩=>?_
 refine bL (he pins s3 σ H3 _ I3 q3) fun v s4 ⟨x4,H4,I4,r4,q4⟩=>?_
 refine bL (hp pins s4 σ H4 x3 x4 old v _ I4 r3 r4 q4) fun new s5 ⟨x5,H5,I5,r5,q5⟩=>?_
 exact bL (hs pins s5 σ H5 x1 x2 x5 ov iv new _ I5 r1 r2 r5 q5) fun _ s6 ⟨H6,I6,q6⟩=>⟨σ,H6,I6,q6⟩
noncomputable def kJ (f:Int->Int->Int):MA:=fun x y H Q=>∃i j,x=.int i/\y=.int j/\Q (.int (f i j)) H
theorem tX:Mx X .Add (kJ fun i j=>i+j):=by
 intro pins s σ H x y v u Q I r1 r2 h
 obtain⟨i,j,e1,e2,q⟩:=h
 subst e1;subst e2
 obtain⟨t,rfl⟩:=r1
 obtain⟨t',rfl⟩:=r2
 exact iadd_int ⟨.int _,H,I.tok _,⟨_,rfl⟩,q⟩
theorem Mh:Mx X .Sub (kJ fun i j=>i - j):=by
 intro pins s σ H x y v u Q I r1 r2 h
 obtain⟨i,j,e1,e2,q⟩:=h
 subst e1;subst e2
 obtain⟨t,rfl⟩:=r1
 obtain⟨t',rfl⟩:=r2
 exact isub_int ⟨.int _,H,I.tok _,⟨_,rfl⟩,q⟩
end
section
variable {X:Cx}{pos:Pos}
noncomputable def wa (c:TT)(tb:TS):TS:=fun D σ H=>∃W:Nat->St->Hp->Prop,(∃m,W m σ H)/\∀m σ H,W m σ H →
 c σ H fun b H1=>if b=true then ∃N:St->Hp->Prop,(∀σ' H',N σ' H'->∃m',m'<m/\W m' σ' H')/\tb { D with nx:=N,ct:=N,bk:=D.nx } σ H1 else D.nx σ H1
theorem ki {c:Expr}{body:List Stmt}{tc:TT}{tb:TS}(hp:PassesOwn (model X.prog X.w) X.A X.env X.xe)(hc:PT X c tc)(hb:PSs X body tb):PS X (.While c body [] pos) (wa tc tb):=by
 intro pins s σ H D I h
 obtain⟨W,⟨m0,w0⟩,turn⟩:=h
 refine wpAny_While (codeAny_whileLoop (fun n s'=>∃σ' H',Inv X pins σ' H' s'/\W n σ' H') ?_ m0 ⟨σ,H,I,w0⟩)
 rintro n s1 ⟨σ1,H1,I1,w1⟩
 refine wpAny_passesOwn hp (bL (hc pins s1 σ1 H1 _ I1 (turn n σ1 H1 w1)) fun b s2 ⟨H2,I2,q2⟩=>?_)
 cases b with
 |true=>
  obtain⟨N,hN,q2⟩:=q2
  rw[if_pos rfl]
  refine wpAny_passesOwn hp (bL (hb pins s2 σ1 H2 _ I2 q2) fun f s3 q3=>?_)
  cases f with
  |next=>
   obtain⟨σ3,H3,I3,n3⟩:=q3
   obtain⟨m',hm,w3⟩:=hN σ3 H3 n3
   exact⟨m',hm,σ3,H3,I3,w3⟩
  |cont=>
   obtain⟨σ3,H3,I3,n3⟩:=q3
   obtain⟨m',hm,w3⟩:=hN σ3 H3 n3
   exact⟨m',hm,σ3,H3,I3,w3⟩
  |brk=>exact q3
  |ret v=>exact q3
 |false=>
  rw[if_neg Bool.false_ne_true]
  exact wpAny_execs_nil ⟨σ1,H2,I2,q2⟩
end
structure It where
 go:Nat->Hp->Prop
 yld:Nat->Hp->V->Hp->Prop
 stop:Nat->Hp->Prop
noncomputable def lG (X:Cx)(pins:List (Addr×Obj))(H:Hp)(b:Addr):Prop:=
 H b=none/\b≠X.env.locals/\b∉X.fs/\(b∈X.ex\/X.s₀.heap.objs.size≤b)/\(∀x c,X.env.cells.lookup x=some c->c≠b)/\∀p∈X.pn++pins,p.1≠b
theorem Inv.fpOk {X:Cx}{pins:List (Addr×Obj)}{σ:St}{H H':Hp}{s:Shared}{b:Addr}(I:Inv X pins σ H s)(hb:s.heap.objs.size≤b)(hn:H' b=none):lG X pins H' b:=by
 refine⟨hn,Nat.ne_of_gt (Nat.lt_of_lt_of_le I.lt hb),I.nofs hb,.inr (Nat.le_trans I.sz hb),fun x c e z=>?_,fun p hp z=>?_⟩
 ·obtain⟨v,q⟩:=I.cell x c e
  exact absurd (Nat.lt_of_lt_of_le q.lt (by rw[z];exact hb)) (Nat.lt_irrefl _)
 ·exact absurd (Nat.lt_of_lt_of_le (Heap.lt_size (I.pin p hp).1) (by rw[z];exact hb)) (Nat.lt_irrefl _)
structure Turn (P:Program)(w:World)(K:PySem.W.Frag)(tg:Expr)(J:It)(fp:List Addr)(it:Addr)(tn:Nat->Heap->Prop):Prop where
 mem:it∈fp
 obj:∀i h,tn i h->∀b∈fp,∃o,h.get? b=some o/\∀v,o.data≠.cell v
 keep:∀i h h',tn i h->(∀b∈fp,∀o,h.get? b=some o->h'.get? b=some o)->tn i h'
 item:∀(X:Cx),X.prog=P->X.w=w->X.K=K->X.calm=true->∀(i:Nat) (pins:List (Addr×Obj)) (s:Shared) (σ:St) (H:Hp) (E:Value->Shared->Prop),Inv X pins σ H s->(∀b∈fp,lG X pins H b)->tn i s.heap->J.go i H →
  wpAny (model P w) X.A (pyNext (.ref it)) (fun r s1=>∃u,r=some u ∧
   wpAny (model P w) X.A (letOwnedTupleGo tg (.ref it) u) (fun _ s2=>∃x H',Inv X pins σ H' s2/\RelV x u/\J.yld i H x H'/\tn (i+1) s2.heap/\∀b∈fp,H' b=none) E s1) E s
 done:∀(X:Cx),X.prog=P->X.w=w->X.K=K->X.calm=true->∀(i:Nat) (pins:List (Addr×Obj)) (s:Shared) (σ:St) (H:Hp) (E:Value->Shared->Prop),Inv X pins σ H s->(∀b∈fp,lG X pins H b)->tn i s.heap->J.stop i H →
  wpAny (model P w) X.A (pyNext (.ref it)) (fun r s1=>r=none/\Inv X pins σ H s1) E s
 self:∀(A:Around) (i:Nat) (s:Shared) (Q:Value->Shared->Prop) (E:Value->Shared->Prop),tn i s.heap->Q (.ref it) s->wpAny (model P w) A (pyIter (.ref it)) Q E s
noncomputable abbrev TI:=St->Hp->(It->Hp->Prop)->Prop
noncomputable def Rn (X:Cx)(pins:List (Addr×Obj))(σ:St)(tg:Expr)(R:It->Hp->Prop)(itv:Value)(s2:Shared):Prop:=
 ∃(it:Addr) (fp:List Addr) (tn:Nat->Heap->Prop) (J:It) (H':Hp),itv=.ref it/\Inv X pins σ H' s2/\Turn X.prog X.w X.K tg J fp it tn/\tn 0 s2.heap/\(∀b∈fp,lG X pins H' b)/\R J H'
noncomputable def PI (X:Cx)(tg iter:Expr)(wi:TI):Prop:=
 ∀(pins:List (Addr×Obj)) (s:Shared) (σ:St) (H:Hp) (R:It->Hp->Prop),Inv X pins σ H s->wi σ H R →
  wpAny (model X.prog X.w) X.A (eval iter X.env) (fun v s1=>wpAny (model X.prog X.w) X.A (pyIter v) (Rn X pins σ tg R) X.xe s1) X.xe s
theorem yI {M:Model}{A:Around}{E:Value->Shared->Prop}{s:Shared}{tg:Expr}{it:Addr}{u:Value}{o:Obj}{n:String}{vs:Array Value}{Q:Unit->Shared->Prop}(ho:s.heap.get? it=some o)(hc:o.cls=.type n)(hd:o.data=.fields vs)
  (hn:["enumerate","zip","dict_itemiterator","dict_reverseitemiterator","odict_iterator","itertools.zip_longest","itertools.pairwise"].contains n=false) (hQ:Q () s):wpAny M A (letOwnedTupleGo tg (.ref it) u) Q E s:=by
 unfold letOwnedTupleGo
 cases tg<;>first
  |exact wpAny_pure hQ
  |(cases u<;>first
    |exact wpAny_pure hQ
    |(refine wpAny_bind (wpAny_load ho ?_)
      rw[hc,hd]
      show wpAny M A (if (["enumerate","zip","dict_itemiterator","dict_reverseitemiterator","odict_iterator","itertools.zip_longest","itertools.pairwise"].contains n&&vs[0]?==some (rawInt _))=true then _ else _) Q E s
      rw[if_neg (by intro h;rw[hn,Bool.false_and] at h;cases h)]
      exact wpAny_pure hQ))
noncomputable def Sh (K:PySem.W.Frag)(a:Addr):It:=
 ⟨fun i H=>∃xs x,SqL K H a xs/\xs[i]?=some x,fun i H x H'=>H'=H/\∀xs,SqL K H a xs->xs[i]?=some x,fun i H=>∃xs,SqL K H a xs/\xs.length≤i⟩
noncomputable def Sd (K:PySem.W.Frag)(a:Addr):It:=
 ⟨fun i H=>∃xs x,SqT K H a xs/\xs[i]?=some x,fun i H x H'=>H'=H/\∀xs,SqT K H a xs->xs[i]?=some x,fun i H=>∃xs,SqT K H a xs/\xs.length≤i⟩
noncomputable def OT (lo:Int)(n:Nat):It:=⟨fun i _=>i<n,fun i H x H'=>H'=H/\x=.int (lo+i),fun i _=>n≤i⟩
theorem Ay {P:Program}{w:World}{K:PySem.W.Frag}{tg:Expr}(a it:Addr):Turn P w K tg (Sh K a) [it] it (fun i h=>h.IsListIter it a i) where
 mem:=by simp
 obj:=fun i h st b hb=>by
  have e:b=it:=by simpa using hb
  subst e
  obtain⟨o,e,c,d⟩:=st
  exact⟨o,e,fun v z=>by rw[d] at z;cases z⟩
 keep:=fun i h h' st k=>st.at fun o e=>k it (by simp) o e
 item:=by
  intro X hP hw hK hc i pins s σ H E I hf st hg
  subst hP hw hK
  obtain⟨xs,x,hq,hx⟩:=hg
  obtain⟨its,rv,p,hz⟩:=I.list hq
  obtain⟨u,hu,ru⟩:=rv.get hx
  obtain⟨f0,f1,f2,f3,f4,f5⟩:=hf it (by simp)
  refine wpAny_pyNext_list_item st p.isList (x:=u) (by simpa using hu) fun h' st' sb=>?_
  have I1:Inv X pins σ H { s with heap:=h' }:=I.turned (t':=s.toks) (fun b o hb e=>(sb.2 b hb).trans e) f0 f1 f3 f4 f5
  obtain⟨o,e,c,d⟩:=id st'
  exact⟨u,rfl,yI (s:={ s with heap:=h' }) e c d (by decide) ⟨x,H,I1,ru,⟨rfl,fun ys hy=>by rw[I.list_inj hy hq];exact hx⟩,st',fun b hb=>(hf b hb).1⟩⟩
 done:=by
  intro X hP hw hK hc i pins s σ H E I hf st hg
  subst hP hw hK
  obtain⟨xs,hq,hx⟩:=hg
  obtain⟨its,rv,p,hz⟩:=I.list hq
  obtain⟨f0,f1,f2,f3,f4,f5⟩:=hf it (by simp)
  have hl:=rv.length
  exact wpAny_pyNext_list_end (I.ok.hd hc) st p.isList (by simp;omega) fun h' eb=>⟨rfl,I.turned (t':=s.toks) (fun b o hb e=>eb b o hb e) f0 f1 f3 f4 f5⟩
 self:=fun _ _ _ _ _ st h=>wpAny_pyIter_listiter st h
theorem xp {P:Program}{w:World}{K:PySem.W.Frag}{tg:Expr}(a it:Addr):Turn P w K tg (Sd K a) [it] it (fun i h=>h.IsTupleIter it a i) where
 mem:=by simp
 obj:=fun i h st b hb=>by
  have e:b=it:=by simpa using hb
  subst e
  obtain⟨o,e,c,d⟩:=st
  exact⟨o,e,fun v z=>by rw[d] at z;cases z⟩
 keep:=fun i h h' st k=>st.at fun o e=>k it (by simp) o e
 item:=by
  intro X hP hw hK hc i pins s σ H E I hf st hg
  subst hP hw hK
  obtain⟨xs,x,hq,hx⟩:=hg
  obtain⟨its,rv,p,hz⟩:=I.tuple hq
  obtain⟨u,hu,ru⟩:=rv.get hx
  obtain⟨f0,f1,f2,f3,f4,f5⟩:=hf it (by simp)
  refine wpAny_pyNext_tuple_item st (show s.heap.IsTuple a its.toArray from p) (x:=u) (by simpa using hu) fun h' st' sb=>?_
  have I1:Inv X pins σ H { s with heap:=h' }:=I.turned (t':=s.toks) (fun b o hb e=>(sb.2 b hb).trans e) f0 f1 f3 f4 f5
  obtain⟨o,e,c,d⟩:=id st'
  exact⟨u,rfl,yI (s:={ s with heap:=h' }) e c d (by decide) ⟨x,H,I1,ru,⟨rfl,fun ys hy=>by rw[I.tuple_inj hy hq];exact hx⟩,st',fun b hb=>(hf b hb).1⟩⟩
 done:=by
  intro X hP hw hK hc i pins s σ H E I hf st hg
  subst hP hw hK
  obtain⟨xs,hq,hx⟩:=hg
  obtain⟨its,rv,p,hz⟩:=I.tuple hq
  obtain⟨f0,f1,f2,f3,f4,f5⟩:=hf it (by simp)
  have hl:=rv.length
  exact wpAny_pyNext_tuple_end (I.ok.hd hc) st (show s.heap.IsTuple a its.toArray from p) (by simp;omega) fun h' eb=>⟨rfl,I.turned (t':=s.toks) (fun b o hb e=>eb b o hb e) f0 f1 f3 f4 f5⟩
 self:=fun _ _ _ _ _ st h=>wpAny_pyIter_tupleiter st h
theorem ww {P:Program}{w:World}{K:PySem.W.Frag}{tg:Expr}(it:Addr)(lo:Int)(n:Nat):Turn P w K tg (OT lo n) [it] it (fun i h=>IsRangeIter h it (lo+(i:Nat) * 1) ((n:Int) - (i:Nat)) 1) where
 mem:=by simp
 obj:=fun i h st b hb=>by
  have e:b=it:=by simpa using hb
  subst e
  exact⟨_,st,fun v z=>by
   have z':Data.fields _=Data.cell v:=z
   cases z'⟩
 keep:=fun i h h' st k=>k it (by simp) _ st
 item:=by
  intro X hP hw hK hc i pins s σ H E I hf st hg
  subst hP hw hK
  obtain⟨f0,f1,f2,f3,f4,f5⟩:=hf it (by simp)
  have W:=Walks.range (prog:=X.prog) (w:=X.w) (I.ok.hd hc) it lo 1 n
  refine W.item i s _ _ hg st fun v h' tk hv st' kk=>?_
  obtain⟨t,rfl⟩:=hv
  have I1:Inv X pins σ H { s with heap:=h',toks:=tk }:=I.turned (fun b o hb e=>kk b o (by simpa using hb) e) f0 f1 f3 f4 f5
  refine⟨_,rfl,yI (s:={ s with heap:=h',toks:=tk }) (n:="range_iterator") st' rfl rfl (by decide) ⟨.int (lo+i),H,I1,⟨t,?_⟩,⟨rfl,rfl⟩,st',fun b hb=>(hf b hb).1⟩⟩
  rw[Int.mul_one]
 done:=by
  intro X hP hw hK hc i pins s σ H E I hf st hg
  subst hP hw hK
  obtain⟨f0,f1,f2,f3,f4,f5⟩:=hf it (by simp)
  exact wpAny_pyNext_range_end (I.ok.hd hc) st (by have:n≤i:=hg;omega) fun h' eb=>⟨rfl,I.turned (t':=s.toks) (fun b o hb e=>eb b o hb e) f0 f1 f3 f4 f5⟩
 self:=fun _ _ _ _ _ st h=>wpAny_pyIter_rangeiter st h
end L2
namespace L2
open PySem PySem.Spec PyProof.Rows
section
variable {X:Cx}{tg:Expr}
noncomputable def cJ (K:PySem.W.Frag)(tl:TE):TI:=fun σ H R=>tl σ H fun x H1=>∃a,x=.ref a/\(∃xs,SqL K H1 a xs)/\R (Sh K a) H1
noncomputable def gl (K:PySem.W.Frag)(tl:TE):TI:=fun σ H R=>tl σ H fun x H1=>∃a,x=.ref a/\(∃xs,SqT K H1 a xs)/\R (Sd K a) H1
theorem yd {l:Expr}{tl:TE}(hl:PE X l tl):PI X tg l (cJ X.K tl):=by
 intro pins s σ H R I h
 refine bL (hl pins s σ H _ I h) fun v s1 ⟨x,H1,I1,r1,q1⟩=>?_
 obtain⟨a,e,⟨xs,hq⟩,q⟩:=q1
 subst e
 cases r1
 obtain⟨its,rv,p,hz⟩:=I1.list hq
 refine wpAny_pyIter_list p.isList ?_
 refine⟨s1.heap.objs.size,[s1.heap.objs.size],_,_,H1,rfl,I1.kept (t':=s1.toks) fun b o e=>Heap.get?_push_of_some _ e,Ay a _,⟨_,Heap.get?_push_size _ rfl,rfl,rfl⟩,fun b hb=>?_,q⟩
 have e:b=s1.heap.objs.size:=by simpa using hb
 subst e
 exact I1.fpOk (Nat.le_refl _) (I1.hok.fresh (Nat.le_refl _))
theorem Ji {l:Expr}{tl:TE}(hl:PE X l tl):PI X tg l (gl X.K tl):=by
 intro pins s σ H R I h
 refine bL (hl pins s σ H _ I h) fun v s1 ⟨x,H1,I1,r1,q1⟩=>?_
 obtain⟨a,e,⟨xs,hq⟩,q⟩:=q1
 subst e
 cases r1
 obtain⟨its,rv,p,hz⟩:=I1.tuple hq
 refine wpAny_pyIter_tuple (show s1.heap.IsTuple a its.toArray from p) ?_
 refine⟨s1.heap.objs.size,[s1.heap.objs.size],_,_,H1,rfl,I1.kept (t':=s1.toks) fun b o e=>Heap.get?_push_of_some _ e,xp a _,⟨_,Heap.get?_push_size _ rfl,rfl,rfl⟩,fun b hb=>?_,q⟩
 have e:b=s1.heap.objs.size:=by simpa using hb
 subst e
 exact I1.fpOk (Nat.le_refl _) (I1.hok.fresh (Nat.le_refl _))
theorem uA {pins:List (Addr×Obj)}{σ:St}{H:Hp}{s:Shared}{R:It->Hp->Prop}{E:Value->Shared->Prop}{lo hi:Int}{t u v:Tok}{tk:Nat}(I:Inv X pins σ H s)(h1:-(2 ^ 62)≤lo)(h2:lo<2 ^ 62)(h3:-(2 ^ 62)≤hi)(h4:hi<2 ^ 62)
  (q:R (OT lo (hi - lo).toNat) H):wpAny (model X.prog X.w) X.A (pyIter (.ref s.heap.objs.size)) (Rn X pins σ tg R) E { s with heap:=s.heap.push { cls:=.type "range",data:=.fields #[.int lo t,.int hi u,.int 1 v] },toks:=tk }:=by
 refine wpAny_pyIter_range (IsRange.new ..) (small_one h1 h2 h3 h4) ?_
 have I1:Inv X pins σ H { s with heap:=s.heap.push { cls:=.type "range",data:=.fields #[.int lo t,.int hi u,.int 1 v] },toks:=tk }:=I.kept fun b o e=>Heap.get?_push_of_some _ e
 refine⟨(s.heap.push { cls:=.type "range",data:=.fields #[.int lo t,.int hi u,.int 1 v] }).objs.size,[(s.heap.push { cls:=.type "range",data:=.fields #[.int lo t,.int hi u,.int 1 v] }).objs.size],_,_,H,rfl,
  I1.kept (t':=tk) fun b o e=>Heap.get?_push_of_some _ e,ww _ lo (hi - lo).toNat,?_,fun b hb=>?_,q⟩
 ·have e1:lo+((0:Nat):Int) * 1=lo:=by simp
  have e2:(((hi - lo).toNat:Nat):Int) - ((0:Nat):Int)=Builtin.Range.rangeSize lo hi 1:=by rw[rangeSize_one];split<;>omega
  show IsRangeIter _ _ (lo+((0:Nat):Int) * 1) ((((hi - lo).toNat:Nat):Int) - ((0:Nat):Int)) 1
  rw[e1,e2]
  exact Heap.get?_push_size _ rfl
 ·have e:b=(s.heap.push { cls:=.type "range",data:=.fields #[.int lo t,.int hi u,.int 1 v] }).objs.size:=by simpa using hb
  subst e
  exact I1.fpOk (Nat.le_refl _) (I1.hok.fresh (Nat.le_refl _))
noncomputable def ca (ta:TA):TI:=fun σ H R=>ta σ H fun vs H1=>∃j:Int,vs=[.int j]/\-(2 ^ 62)≤j/\j<2 ^ 62/\R (OT 0 j.toNat) H1
noncomputable def cg (ta:TA):TI:=fun σ H R=>ta σ H fun vs H1=>∃i j:Int,vs=[.int i,.int j]/\(-(2 ^ 62)≤i/\i<2 ^ 62/\-(2 ^ 62)≤j/\j<2 ^ 62)/\R (OT i (j - i).toNat) H1
theorem zV {a:Expr}{ta:TA}{p pos:Pos}(hg:Gl X "range")(hm:X.mg "range" = none)(ha:PA X [a] ta)(hs:starEach [a] X.env=[(false,eval a X.env)]:=by rfl):PI X tg (.Call (.Name "range" p) [a] [] pos) (ca ta):=by
 intro pins s σ H R I h
 refine Call_ (j5 I hg hm boot_range (PyProof.Rows.callWith_type1 (bL (ha pos pins s σ H _ I h) fun us s1 ⟨vs,H1,I1,r1,q1⟩=>?_) hs rfl))
 obtain⟨j,e,q1,q2,q⟩:=q1
 subst e
 cases r1 with
 |cons r rr=>
  cases rr
  obtain⟨t,rfl⟩:=r
  exact call_range_1 (uA I1 (by omega) (by omega) q1 q2 (by simpa using q))
theorem As {a b:Expr}{ta:TA}{p pos:Pos}(hg:Gl X "range")(hm:X.mg "range" = none)(ha:PA X [a,b] ta)(hs:starEach [a,b] X.env=[(false,eval a X.env),(false,eval b X.env)]:=by rfl)(hs2:starEach [b] X.env=[(false,eval b X.env)]:=by rfl) :
  PI X tg (.Call (.Name "range" p) [a,b] [] pos) (cg ta):=by
 intro pins s σ H R I h
 refine Call_ (j5 I hg hm boot_range (PyProof.Rows.callWith_type1 (bL (ha pos pins s σ H _ I h) fun us s1 ⟨vs,H1,I1,r1,q1⟩=>?_) (by rw[hs,hs2]) (by rw[hs2];rfl)))
 obtain⟨i,j,e,⟨q1,q2,q3,q4⟩,q⟩:=q1
 subst e
 cases r1 with
 |cons r rr=>
  cases rr with
  |cons r' rr=>
   cases rr
   obtain⟨t,rfl⟩:=r
   obtain⟨t',rfl⟩:=r'
   exact call_range_2 (uA I1 q1 q2 q3 q4 q)
noncomputable def KQ (wi:TI)(g:TG)(tb:TS):TS:=fun D σ H=>wi σ H fun J H1=>∃W:Nat->Nat->St->Hp->Prop,(∃m,W 0 m σ H1)/\∀i m σ H,W i m σ H →
 (J.stop i H/\D.nx σ H)\/(J.go i H/\∃N:St->Hp->Prop,(∀σ' H',N σ' H'->∃m',m'<m/\W (i+1) m' σ' H')/\∀x H',J.yld i H x H'->g x σ H' fun σ2 H2=>tb { D with nx:=N,ct:=N,bk:=D.nx } σ2 H2)
noncomputable def o3 (fp:List Addr)(h:Heap):List (Addr×Obj):=fp.filterMap fun b=>(h.get? b).map fun o=>(b,o)
theorem jw {fp:List Addr}{h:Heap}{b:Addr}{o:Obj}(hb:b∈fp)(e:h.get? b=some o):(b,o)∈o3 fp h:=List.mem_filterMap.mpr ⟨b,hb,by rw[e];rfl⟩
theorem zW {fp:List Addr}{h:Heap}{p:Addr×Obj}(hp:p∈o3 fp h):p.1∈fp/\h.get? p.1=some p.2:=by
 obtain⟨b,hb,e⟩:=List.mem_filterMap.mp hp
 cases q:h.get? b with
 |none=>rw[q] at e;cases e
 |some o=>
  rw[q] at e
  have e':(b,o)=p:=Option.some.inj e
  subst e'
  exact⟨hb,q⟩
theorem Inv.pinned {pins:List (Addr×Obj)}{σ:St}{H:Hp}{s:Shared}{fp:List Addr}(I:Inv X pins σ H s)(hf:∀b∈fp,lG X pins H b)(ho:∀b∈fp,∃o,s.heap.get? b=some o/\∀v,o.data≠.cell v):Inv X (pins++o3 fp s.heap) σ H s:=
 I.pins_of fun p hp=>(List.mem_append.mp hp).elim (fun z=>I.pin p (List.mem_append_right _ z)) fun z=>by
  obtain⟨hb,e⟩:=zW z
  obtain⟨f0,f1,f2,_⟩:=hf p.1 hb
  obtain⟨o,e',d⟩:=ho p.1 hb
  rw[e] at e';cases e'
  exact⟨e,f0,f1,f2,d⟩
theorem Inv.unpinned {pins pl:List (Addr×Obj)}{σ:St}{H:Hp}{s:Shared}(I:Inv X (pins++pl) σ H s):Inv X pins σ H s:=I.pins_of fun p hp=>I.pin p (List.mem_append_right _ (List.mem_append_left _ hp))
theorem K5 {iter:Expr}{body:List Stmt}{wi:TI}{g:TG}{tb:TS}{pos:Pos}(hp:PassesOwn (model X.prog X.w) X.A X.env X.xe)(hc:X.calm=true)(hi:PI X tg iter wi)(hg:PG X tg g)(hb:PSs X body tb)
  (hs:∀x,foldedSetIterable iter X.env x=pure x:=by intro _;rfl):PS X (.For tg iter body [] pos) (KQ wi g tb):=by
 intro pins s σ H D I h
 refine wpAny_For (bL (hi pins s σ H _ I h) fun v s1 h1=>bL h1 fun itv s2 h2=>?_) hs
 obtain⟨it,fp,tn,J,H2,e,I2,T,AK,f2,W,⟨m0,w0⟩,turn⟩:=h2
 subst e
 have stat:∀{H':Hp},(∀b∈fp,H' b=none)->∀b∈fp,lG X pins H' b:=fun hn b hb=>⟨hn b hb,(f2 b hb).2⟩
 refine codeAny_forLoop_any (fun n s'=>∃i σ' H',Inv X pins σ' H' s'/\tn i s'.heap/\(∀b∈fp,H' b=none)/\W i n σ' H') ?_ m0 ⟨0,σ,H2,I2,AK,fun b hb=>(f2 b hb).1,w0⟩
 rintro n s3 ⟨i,σ3,H3,I3,st3,fr3,w3⟩
 rcases turn i n σ3 H3 w3 with ⟨stop,qn⟩|⟨go,N,hN,step⟩
 ·refine wpAny_passesOwn hp (bL (T.done X rfl rfl rfl hc i pins s3 σ3 H3 X.xe I3 (stat fr3) st3 stop) fun r s4 ⟨hr,I4⟩=>?_)
  subst hr
  exact wpAny_execs_nil ⟨σ3,H3,I4,qn⟩
 ·refine wpAny_passesOwn hp (bL (T.item X rfl rfl rfl hc i pins s3 σ3 H3 X.xe I3 (stat fr3) st3 go) fun r s4 ⟨u,hr,h4⟩=>?_)
  subst hr
  refine wpAny_passesOwn hp (bL h4 fun _ s5 ⟨x,H5,I5,r5,y5,st5,fr5⟩=>?_)
  have I5':=I5.pinned (stat fr5) (T.obj _ _ st5)
  refine wpAny_passesOwn hp (bL (hg _ s5 σ3 H5 x u _ I5' r5 (step x H5 y5)) fun _ s6 ⟨σ6,H6,I6,q6⟩=>?_)
  refine wpAny_passesOwn hp (bL (hb _ s6 σ6 H6 _ I6 q6) fun f s7 q7=>?_)
  have again:∀{σ7:St} {H7:Hp},Inv X (pins++o3 fp s5.heap) σ7 H7 s7->N σ7 H7->∃m,m<n/\∃i σ' H',Inv X pins σ' H' s7/\tn i s7.heap/\(∀b∈fp,H' b=none)/\W i m σ' H':=fun {σ7 H7} I7 n7=>by
   obtain⟨m',hm,w7⟩:=hN σ7 H7 n7
   refine⟨m',hm,i+1,σ7,H7,I7.unpinned,T.keep _ _ _ st5 fun b hb o e=>(I7.pin (b,o) (List.mem_append_right _ (List.mem_append_right _ (jw hb e)))).1,fun b hb=>?_,w7⟩
   obtain⟨o,e,d⟩:=T.obj _ _ st5 b hb
   exact (I7.pin (b,o) (List.mem_append_right _ (List.mem_append_right _ (jw hb e)))).2.1
  cases f with
  |next=>obtain⟨σ7,H7,I7,n7⟩:=q7;exact again I7 n7
  |cont=>obtain⟨σ7,H7,I7,n7⟩:=q7;exact again I7 n7
  |brk=>obtain⟨σ7,H7,I7,q7⟩:=q7;exact⟨σ7,H7,I7.unpinned,q7⟩
  |ret v=>obtain⟨x7,σ7,H7,I7,r7,q7⟩:=q7;exact⟨x7,σ7,H7,I7.unpinned,r7,q7⟩
end
end L2
namespace L2
open PySem PySem.Spec PyProof.Rows
noncomputable abbrev R2:=V->V->Hp->VK->Prop
noncomputable def iD (X:Cx)(f:Value->Value->Sem Value)(r:R2):Prop:=
 ∀(pins:List (Addr×Obj)) (s:Shared) (σ:St) (H:Hp) (x y:V) (v u:Value) (Q:VK),Inv X pins σ H s->RelV x v->RelV y u->r x y H Q →
  wpAny (model X.prog X.w) X.A (f v u) (EP X pins σ Q) X.xe s
noncomputable def P2 (X:Cx)(f:Value->Sem Value)(r:V->Hp->VK->Prop):Prop:=
 ∀(pins:List (Addr×Obj)) (s:Shared) (σ:St) (H:Hp) (x:V) (v:Value) (Q:VK),Inv X pins σ H s->RelV x v->r x H Q →
  wpAny (model X.prog X.w) X.A (f v) (EP X pins σ Q) X.xe s
noncomputable def d7 (X:Cx)(f:Value)(r:List V->Hp->VK->Prop):Prop:=
 ∀(pins:List (Addr×Obj)) (s:Shared) (σ:St) (H:Hp) (xs:List V) (us:List Value) (Q:VK),Inv X pins σ H s->Vals xs us->r xs H Q →
  wpAny (model X.prog X.w) X.A (call f us) (EP X pins σ Q) X.xe s
noncomputable def kW (r:R2)(ta tb:TE):TE:=fun σ H Q=>ta σ H fun x H1=>tb σ H1 fun y H2=>r x y H2 Q
noncomputable def mC (r:V->Hp->VK->Prop)(ta:TE):TE:=fun σ H Q=>ta σ H fun x H1=>r x H1 Q
noncomputable def rI (C:Int->Int->Prop)(g:Int->Int->V):R2:=fun x y H Q=>∃i j,x=.int i/\y=.int j/\C i j/\Q (g i j) H
noncomputable def jl (g:Int->Int->V):R2:=fun x y H Q=>∃i j,x=.int i/\y=.int j/\Q (g i j) H
noncomputable def rU (g:Int->V):V->Hp->VK->Prop:=fun x H Q=>∃i,x=.int i/\Q (g i) H
section
variable {X:Cx}{a b c:Expr}{ta tb tc:TE}{pos:Pos}
theorem Ke (ha:PE X a ta)(hb:PE X b tb){pins:List (Addr×Obj)}{s:Shared}{σ:St}{H:Hp}{R:V->V->Hp->Prop}(I:Inv X pins σ H s)
  (h:ta σ H fun x H1=>tb σ H1 fun y H2=>R x y H2) {Q:Value->Shared->Prop} {f:Value->Value->Sem Value}
  (hf:∀v u s2 x y H2,Inv X pins σ H2 s2->RelV x v->RelV y u->R x y H2->wpAny (model X.prog X.w) X.A (f v u) Q X.xe s2) :
  wpAny (model X.prog X.w) X.A (eval a X.env) (fun v s₁=>wpAny (model X.prog X.w) X.A (eval b X.env) (fun u s₂=>wpAny (model X.prog X.w) X.A (f v u) Q X.xe s₂) X.xe s₁) X.xe s:=by
 refine bL (ha pins s σ H _ I h) fun v s1 ⟨x,H1,I1,r1,q1⟩=>?_
 refine bL (hb pins s1 σ H1 _ I1 q1) fun u s2 ⟨y,H2,I2,r2,q2⟩=>?_
 exact hf v u s2 x y H2 I2 r1 r2 q2
theorem Bq {op:Operator}{r:R2}(ho:iD X (binaryOp op) r)(ha:PE X a ta)(hb:PE X b tb):PE X (.BinOp a op b pos) (kW r ta tb):=by
 intro pins s σ H Q I h
 exact wpAny_BinOp (Ke ha hb I h fun v u s2 x y H2 I2 rx ry q=>ho pins s2 σ H2 x y v u Q I2 rx ry q)
theorem HL {op:UnaryOp}{r:V->Hp->VK->Prop}(ho:P2 X (unaryOp op) r)(ha:PE X a ta):PE X (.UnaryOp op a pos) (mC r ta):=by
 intro pins s σ H Q I h
 exact UnaryOp_ (bL (ha pins s σ H _ I h) fun v s1 ⟨x,H1,I1,r1,q1⟩=>ho pins s1 σ H1 x v Q I1 r1 q1)
theorem Mt {f:Value->Value->Sem Value}{C:Int->Int->Prop}{g:Int->Int->Int}
  (rule:∀(i j:Int) (t u:Tok) (s:Shared) (Q:Value->Shared->Prop) (E:Value->Shared->Prop),C i j->Q (.int (g i j) s.toks) { s with toks:=s.toks+1 }->wpAny (model X.prog X.w) X.A (f (.int i t) (.int j u)) Q E s) :
  iD X f (rI C fun i j=>.int (g i j)):=by
 intro pins s σ H x y v u Q I rx ry h
 obtain⟨i,j,rfl,rfl,hc,q⟩:=h
 obtain⟨t,rfl⟩:=rx
 obtain⟨t',rfl⟩:=ry
 exact rule i j t t' s _ _ hc ⟨.int (g i j),H,I.tok _,⟨_,rfl⟩,q⟩
theorem Ls {f:Value->Value->Sem Value}{g:Int->Int->Int}
  (rule:∀(i j:Int) (t u:Tok) (s:Shared) (Q:Value->Shared->Prop) (E:Value->Shared->Prop),Q (.int (g i j) s.toks) { s with toks:=s.toks+1 }->wpAny (model X.prog X.w) X.A (f (.int i t) (.int j u)) Q E s) :
  iD X f (jl fun i j=>.int (g i j)):=by
 intro pins s σ H x y v u Q I rx ry h
 obtain⟨i,j,rfl,rfl,q⟩:=h
 obtain⟨t,rfl⟩:=rx
 obtain⟨t',rfl⟩:=ry
 exact rule i j t t' s _ _ ⟨.int (g i j),H,I.tok _,⟨_,rfl⟩,q⟩
theorem E3 {f:Value->Value->Sem Value}{g:Int->Int->Bool}
  (rule:∀(i j:Int) (t u:Tok) (s:Shared) (Q:Value->Shared->Prop) (E:Value->Shared->Prop),Q (.bool (g i j)) s->wpAny (model X.prog X.w) X.A (f (.int i t) (.int j u)) Q E s) :
  iD X f (jl fun i j=>.bl (g i j)):=by
 intro pins s σ H x y v u Q I rx ry h
 obtain⟨i,j,rfl,rfl,q⟩:=h
 obtain⟨t,rfl⟩:=rx
 obtain⟨t',rfl⟩:=ry
 exact rule i j t t' s _ _ ⟨.bl (g i j),H,I,rfl,q⟩
noncomputable def O4 (i j:Int):Prop:=0<j/\j<1073741824
noncomputable def JS (i j:Int):Prop:=0≤j/\j≤1000000/\i.natAbs<2 ^ 64
noncomputable def CMul (i j:Int):Prop:=(-(2 ^ 64)<i/\i<2 ^ 64)\/(-(2 ^ 64)<j/\j<2 ^ 64)
theorem CMul.ok {i j:Int}(h:CMul i j):IntMulOk i j:=by
 rcases h with ⟨h1,h2⟩|⟨h1,h2⟩
 ·exact .of_left (intBits_le_64 h1 h2)
 ·exact .of_right (intBits_le_64 h1 h2)
theorem wZ (k:Nat):(0:Int)≤2 ^ k:=by
 rw[two_pow_cast]
 exact Int.natCast_nonneg _
theorem LN:iD X (binaryOp .Add) (jl fun i j=>.int (i+j)):=Ls fun _ _ _ _ _ _ _ q=>add_int q
theorem KF:iD X (binaryOp .Sub) (jl fun i j=>.int (i - j)):=Ls fun _ _ _ _ _ _ _ q=>sub_int q
theorem LX:iD X (binaryOp .Mult) (rI CMul fun i j=>.int (i * j)):=Mt fun _ _ _ _ _ _ _ hc q=>mul_int q hc.ok
theorem Gz:iD X (binaryOp .FloorDiv) (rI O4 fun i j=>.int (i / j)):=Mt fun i j _ _ _ _ _ hc q=>by
 have h1:(0:Int)<j:=hc.1
 have h2:j<1073741824:=hc.2
 exact floordiv_int (by omega) (by rw[Int.fdiv_eq_ediv_of_nonneg i (by omega)];exact q) (.inl (PyProof.noPylong_small (by omega)))
theorem J1:iD X (binaryOp .Mod) (rI (fun _ j=>0<j) fun i j=>.int (i % j)):=Mt fun i j _ _ _ _ _ hc q=>by
 have h1:(0:Int)<j:=hc
 exact mod_int' (by omega) (by rw[Int.fmod_eq_emod_of_nonneg i (by omega)];exact q)
theorem Jx:iD X (binaryOp .Pow) (rI JS fun i j=>.int (i ^ j.toNat)):=Mt fun _ _ _ _ _ _ _ hc q=>pow_int_small hc.1 hc.2.1 hc.2.2 q
theorem Kv:iD X (binaryOp .LShift) (rI JS fun i j=>.int (i * 2 ^ j.toNat)):=Mt fun _ _ _ _ _ _ _ hc q=>lshift_int_small hc.1 hc.2.1 hc.2.2 q
theorem LB:iD X (binaryOp .RShift) (rI (fun _ j=>0≤j) fun i j=>.int (i / 2 ^ j.toNat)):=Mt fun i j _ _ _ _ _ hc q=>
 rshift_int hc (by rw[Int.fdiv_eq_ediv_of_nonneg i (wZ _)];exact q)
theorem KK:iD X (binaryOp .BitAnd) (jl fun i j=>.int (Builtin.bitAnd i j)):=Ls fun _ _ _ _ _ _ _ q=>and_int q
theorem Ss {f:Value->Sem Value}{g:Int->Int}
  (rule:∀(i:Int) (t:Tok) (s:Shared) (Q:Value->Shared->Prop) (E:Value->Shared->Prop),Q (.int (g i) s.toks) { s with toks:=s.toks+1 }->wpAny (model X.prog X.w) X.A (f (.int i t)) Q E s) :
  P2 X f (rU fun i=>.int (g i)):=by
 intro pins s σ H x v Q I rx h
 obtain⟨i,rfl,q⟩:=h
 obtain⟨t,rfl⟩:=rx
 exact rule i t s _ _ ⟨.int (g i),H,I.tok _,⟨_,rfl⟩,q⟩
theorem B1:P2 X (unaryOp .USub) (rU fun i=>.int (-i)):=Ss fun _ _ _ _ _ q=>neg_int q
end
noncomputable def O8:V->V->Bool
 |.non,.non=>true|.non,.int _=>true|.int _,.non=>true|.non,.bl _=>true|.bl _,.non=>true|.non,.str _=>true|.str _,.non=>true
 |.int _,.int _=>true|.bl _,.bl _=>true|.str _,.str _=>true|.byt _,.byt _=>true
 |.int _,.str _=>true|.str _,.int _=>true|.bl _,.str _=>true|.str _,.bl _=>true
 |_,_=>false
noncomputable def eD:R2:=fun x y H Q=>O8 x y=true/\Q (.bl (decide (x=y))) H
noncomputable def iW:R2:=fun x y H Q=>O8 x y=true/\Q (.bl (!decide (x=y))) H
theorem yu {i j:Int}:decide (V.int i=V.int j)=(i==j):=by
 rw[Bool.eq_iff_iff]
 simp
theorem Le {i j:Bool}:decide (V.bl i=V.bl j)=(i==j):=by
 rw[Bool.eq_iff_iff]
 simp
theorem GQ {i j:Str}:decide (V.str i=V.str j)=(i==j):=by
 rw[Bool.eq_iff_iff]
 simp
theorem Fu {i j:Array UInt8}:decide (V.byt i=V.byt j)=(i.toList==j.toList):=by
 rw[Bool.eq_iff_iff]
 cases i
 cases j
 simp
section
variable {X:Cx}{a b c:Expr}{ta tb tc:TE}{pos:Pos}
theorem dP {pins:List (Addr×Obj)}{σ:St}{H:Hp}{s:Shared}{Q:VK}{k k':Bool}(I:Inv X pins σ H s)(q:Q (.bl k) H)(e:k=k'):EP X pins σ Q (.bool k') s:=by
 subst e
 exact⟨.bl k,H,I,rfl,q⟩
theorem xG:iD X (compareOp .NotEq) iW:=by
 intro pins s σ H x y v u Q I rx ry h
 obtain⟨hs,q⟩:=h
 cases x with
 |non=>
  cases rx
  cases y with
  |non=>cases ry;exact PySem.EqNone.ne_none_none (dP I q (by simp))
  |bl j=>cases ry;exact PySem.EqNone.ne_none_bool (dP I q (by simp))
  |int j=>obtain⟨t',rfl⟩:=ry;exact PySem.EqNone.ne_none_int (dP I q (by simp))
  |str j=>obtain⟨t',rfl⟩:=ry;exact PySem.EqNone.ne_none_str (dP I q (by simp))
  |_=>exact absurd (show false=true from hs) Bool.false_ne_true
 |bl i=>
  cases rx
  cases y with
  |non=>cases ry;exact PySem.EqNone.ne_bool_none (dP I q (by simp))
  |bl j=>cases ry;exact ne_bool (dP I q (congrArg not Le))
  |str j=>obtain⟨t',rfl⟩:=ry;exact PySem.EqMixed.ne_bool_str (dP I q (by simp))
  |_=>exact absurd (show false=true from hs) Bool.false_ne_true
 |int i=>
  obtain⟨t,rfl⟩:=rx
  cases y with
  |non=>cases ry;exact PySem.EqNone.ne_int_none (dP I q (by simp))
  |int j=>obtain⟨t',rfl⟩:=ry;exact ne_int (dP I q (congrArg not yu))
  |str j=>obtain⟨t',rfl⟩:=ry;exact PySem.EqMixed.ne_int_str (dP I q (by simp))
  |_=>exact absurd (show false=true from hs) Bool.false_ne_true
 |str i=>
  obtain⟨t,rfl⟩:=rx
  cases y with
  |non=>cases ry;exact PySem.EqNone.ne_str_none (dP I q (by simp))
  |bl j=>cases ry;exact PySem.EqMixed.ne_str_bool (dP I q (by simp))
  |int j=>obtain⟨t',rfl⟩:=ry;exact PySem.EqMixed.ne_str_int (dP I q (by simp))
  |str j=>obtain⟨t',rfl⟩:=ry;exact ne_str (dP I q (congrArg not GQ))
  |_=>exact absurd (show false=true from hs) Bool.false_ne_true
 |byt i=>
  obtain⟨t,rfl⟩:=rx
  cases y with
  |byt j=>obtain⟨t',rfl⟩:=ry;exact PySem.W.ne_bytes (dP I q (congrArg not Fu))
  |_=>exact absurd (show false=true from hs) Bool.false_ne_true
 |_=>cases y<;>exact absurd (show false=true from hs) Bool.false_ne_true
theorem Pl:iD X (compareOp .Lt) (jl fun i j=>.bl (decide (i<j))):=E3 fun _ _ _ _ _ _ _ q=>lt_int q
theorem NV:iD X (compareOp .LtE) (jl fun i j=>.bl (decide (i≤j))):=E3 fun _ _ _ _ _ _ _ q=>le_int q
theorem O5:iD X (compareOp .Gt) (jl fun i j=>.bl (decide (j<i))):=E3 fun _ _ _ _ _ _ _ q=>gt_int q
theorem Pi:iD X (compareOp .GtE) (jl fun i j=>.bl (decide (j≤i))):=E3 fun _ _ _ _ _ _ _ q=>ge_int q
theorem Lj:iD X (compareOp .Is) (fun x y H Q=>y=.non/\Q (.bl (decide (x=.non))) H):=by
 intro pins s σ H x y v u Q I rx ry h
 obtain⟨rfl,q⟩:=h
 cases ry
 refine is_none_gen (dP I q ?_)
 cases x<;>first
  |(cases rx;rfl)
  |(obtain⟨t,rfl⟩:=rx;rfl)
theorem E1:iD X (compareOp .IsNot) (fun x y H Q=>y=.non/\Q (.bl (!decide (x=.non))) H):=by
 intro pins s σ H x y v u Q I rx ry h
 obtain⟨rfl,q⟩:=h
 cases ry
 refine isnot_none_gen (dP I q ?_)
 cases x<;>first
  |(cases rx;rfl)
  |(obtain⟨t,rfl⟩:=rx;rfl)
theorem tI (b:Expr){op:CmpOp}(h:op≠.In:=by decide)(h2:op≠.NotIn:=by decide):behindInMarks op b=false:=by
 have e1:(op==CmpOp.In)=false:=by cases op<;>first|rfl|exact absurd rfl h
 have e2:(op==CmpOp.NotIn)=false:=by cases op<;>first|rfl|exact absurd rfl h2
 cases b<;>simp[behindInMarks,e1,e2]
theorem FF {op:CmpOp}{r:R2}(ho:iD X (compareOp op) r)(ha:PE X a ta)(hb:PE X b tb)(hm:behindInMarks op b=false):PE X (.Compare a [op] [b] pos) (kW r ta tb):=by
 intro pins s σ H Q I h
 exact wpAny_Compare1 (Ke ha hb I h fun v u s2 x y H2 I2 rx ry q=>ho pins s2 σ H2 x y v u Q I2 rx ry q) hm
noncomputable def cx (t:TE):TT:=fun σ H Q=>t σ H fun x H'=>∃k,x=.bl k/\Q k H'
theorem lq {op:CmpOp}{r:R2}(ho:iD X (compareOp op) r)(ha:PE X a ta)(hb:PE X b tb)(hm:behindInMarks op b=false):PT X (.Compare a [op] [b] pos) (cx (kW r ta tb)):=by
 intro pins s σ H Q I h
 refine wpAny_isTrue_Compare1 (bL (ha pins s σ H _ I h) fun v s1 ⟨x,H1,I1,r1,q1⟩=>bL (hb pins s1 σ H1 _ I1 q1) fun u s2 ⟨y,H2,I2,r2,q2⟩=>
  bL (ho pins s2 σ H2 x y v u _ I2 r1 r2 q2) fun c s3 ⟨z,H3,I3,r3,k,e,q3⟩=>?_) hm
 subst e
 cases r3
 exact wpAny_truthy_bool ⟨H3,I3,q3⟩
noncomputable def aX (r r':R2)(ta tb tc:TE):TE:=fun σ H Q=>ta σ H fun x H1=>tb σ H1 fun y H2=>r x y H2 fun z H3=>∃k,z=.bl k ∧
 (if k=true then tc σ H3 fun w' H4=>r' y w' H4 Q else Q (.bl false) H3)
theorem Dn {op op':CmpOp}{r r':R2}(ho:iD X (compareOp op) r)(ho':iD X (compareOp op') r')(ha:PE X a ta)(hb:PE X b tb)(hc:PE X c tc)
  (hm:lastMarks [op,op'] [b,c]=false:=by with_unfolding_all rfl):PE X (.Compare a [op,op'] [b,c] pos) (aX r r' ta tb tc):=by
 intro pins s σ H Q I h
 refine Compare_chain (bL (ha pins s σ H _ I h) fun v s1 ⟨x,H1,I1,r1,q1⟩=>chain_link (bL (hb pins s1 σ H1 _ I1 q1) fun u s2 ⟨y,H2,I2,r2,q2⟩=>
  bL (ho pins s2 σ H2 x y v u _ I2 r1 r2 q2) fun d s3 ⟨z,H3,I3,r3,k,e,q3⟩=>?_)) hm
 subst e
 cases r3
 refine wpAny_truthy_bool ?_
 cases k with
 |false=>exact ite_ff ⟨.bl false,H3,I3,rfl,q3⟩
 |true=>exact ite_tt (chain_last (bL (hc pins s3 σ H3 _ I3 q3) fun w' s4 ⟨z',H4,I4,r4,q4⟩=>ho' pins s4 σ H4 y z' u w' Q I4 r2 r4 q4))
theorem Cu {op op':CmpOp}{r r':R2}(ho:iD X (compareOp op) r)(ho':iD X (compareOp op') r')(ha:PE X a ta)(hb:PE X b tb)(hc:PE X c tc)
  (hm:lastMarks [op,op'] [b,c]=false:=by with_unfolding_all rfl):PT X (.Compare a [op,op'] [b,c] pos) (cx (aX r r' ta tb tc)):=by
 intro pins s σ H Q I h
 refine isTrue_chain (bL (ha pins s σ H _ I h) fun v s1 ⟨x,H1,I1,r1,q1⟩=>test_link (bL (hb pins s1 σ H1 _ I1 q1) fun u s2 ⟨y,H2,I2,r2,q2⟩=>
  bL (ho pins s2 σ H2 x y v u _ I2 r1 r2 q2) fun d s3 ⟨z,H3,I3,r3,k,e,q3⟩=>?_)) hm
 subst e
 cases r3
 refine wpAny_truthy_bool ?_
 cases k with
 |false=>
  obtain⟨k',e',q'⟩:=q3
  cases e'
  exact ite_ff ⟨H3,I3,q'⟩
 |true=>
  refine ite_tt (test_last (bL (hc pins s3 σ H3 _ I3 q3) fun w' s4 ⟨z',H4,I4,r4,q4⟩=>bL (ho' pins s4 σ H4 y z' u w' _ I4 r2 r4 q4) fun d' s5 ⟨z2,H5,I5,r5,k2,e2,q5⟩=>?_))
  subst e2
  cases r5
  exact wpAny_truthy_bool ⟨H5,I5,q5⟩
theorem mR:(sizeLine:Nat)<2 ^ 63:=by rw[sizeLine_eq];decide
theorem xi:iD X (binaryOp .Add) (fun x y H Q=>∃i j,x=.str i/\y=.str j/\i.length+j.length≤sizeLine/\Q (.str (i++j)) H):=by
 intro pins s σ H x y v u Q I rx ry h
 obtain⟨i,j,rfl,rfl,hz,q⟩:=h
 obtain⟨t,rfl⟩:=rx
 obtain⟨t',rfl⟩:=ry
 exact add_str (fun t' tk=>⟨.str (i++j),H,I.tok _,⟨_,rfl⟩,q⟩) hz
theorem gX {x:V}{us:List Value}(r:Vals [x] us):∃u,us=[u]/\RelV x u:=by
 cases r with
 |cons r1 r2=>cases r2;exact⟨_,rfl,r1⟩
theorem IB {x y:V}{us:List Value}(r:Vals [x,y] us):∃u w',us=[u,w']/\RelV x u/\RelV y w':=by
 cases r with
 |cons r1 r2=>
  cases r2 with
  |cons r3 r4=>cases r4;exact⟨_,_,rfl,r1,r3⟩
theorem BB:d7 X (.builtin "abs") (fun xs H Q=>∃i,xs=[.int i]/\Q (.int (if i<0 then -i else i)) H):=by
 intro pins s σ H xs us Q I r h
 obtain⟨i,rfl,q⟩:=h
 obtain⟨u,rfl,t,rfl⟩:=gX r
 exact call_abs_int fun u tk=>⟨.int (if i<0 then -i else i),H,I.tok _,⟨_,rfl⟩,q⟩
theorem Aj (hc:X.calm=true):d7 X (.builtin "max") (fun xs H Q=>∃i j,xs=[.int i,.int j]/\Q (.int (if j > i then j else i)) H):=by
 intro pins s σ H xs us Q I r h
 obtain⟨i,j,rfl,q⟩:=h
 obtain⟨u,w',rfl,⟨t,rfl⟩,⟨t',rfl⟩⟩:=IB r
 refine max_two_ints (I.ok.hd hc) fun h' tk k=>⟨_,H,I.kept k,?_,q⟩
 by_cases hj:j > i
 ·rw[if_pos hj,if_pos hj];exact⟨_,rfl⟩
 ·rw[if_neg hj,if_neg hj];exact⟨_,rfl⟩
theorem zx (hc:X.calm=true):d7 X (.builtin "min") (fun xs H Q=>∃i j,xs=[.int i,.int j]/\Q (.int (if j<i then j else i)) H):=by
 intro pins s σ H xs us Q I r h
 obtain⟨i,j,rfl,q⟩:=h
 obtain⟨u,w',rfl,⟨t,rfl⟩,⟨t',rfl⟩⟩:=IB r
 refine min_two_ints (I.ok.hd hc) fun h' tk k=>⟨_,H,I.kept k,?_,q⟩
 by_cases hj:j<i
 ·rw[if_pos hj,if_pos hj];exact⟨_,rfl⟩
 ·rw[if_neg hj,if_neg hj];exact⟨_,rfl⟩
theorem zJ:d7 X (.type "int") (fun xs H Q=>(∃i,xs=[.int i]/\Q (.int i) H)\/∃k,xs=[.bl k]/\Q (.int (if k then 1 else 0)) H):=by
 intro pins s σ H xs us Q I r h
 rcases h with ⟨i,rfl,q⟩|⟨k,rfl,q⟩
 ·obtain⟨u,rfl,t,rfl⟩:=gX r
  exact call_int_int ⟨.int i,H,I,⟨_,rfl⟩,q⟩
 ·obtain⟨u,rfl,r1⟩:=gX r
  cases r1
  exact call_int_bool ⟨.int (if k then 1 else 0),H,I.tok _,⟨_,rfl⟩,q⟩
noncomputable def OU (K:PySem.W.Frag)(x:V)(H:Hp)(n:Nat):Prop:=
 match x with
 |.str y=>y.length≤sizeLine/\n=y.length
 |.byt y=>y.size≤sizeLine/\n=y.size
 |.ref p=>(∃xs,SqL K H p xs/\n=xs.length)\/∃xs,SqT K H p xs/\n=xs.length
 |_=>False
theorem Ds:d7 X (.builtin "len") (fun xs H Q=>∃x n,xs=[x]/\OU X.K x H n/\Q (.int n) H):=by
 intro pins s σ H xs us Q I r h
 obtain⟨x,n,rfl,e,q⟩:=h
 obtain⟨u,rfl,rx⟩:=gX r
 have hl:=mR
 have hs:sizeLine=16777216:=sizeLine_eq
 cases x with
 |str y=>
  obtain⟨t,rfl⟩:=rx
  obtain⟨hy,e'⟩:y.length≤sizeLine/\n=y.length:=e
  subst e'
  exact len_str (by omega) ⟨.int _,H,I.tok _,⟨_,rfl⟩,q⟩
 |byt y=>
  obtain⟨t,rfl⟩:=rx
  obtain⟨hy,e'⟩:y.size≤sizeLine/\n=y.size:=e
  subst e'
  exact PySem.W.len_bytes (by omega) ⟨.int _,H,I.tok _,⟨_,rfl⟩,q⟩
 |ref p=>
  cases rx
  have e':(∃xs,SqL X.K H p xs/\n=xs.length)\/∃xs,SqT X.K H p xs/\n=xs.length:=e
  rcases e' with ⟨xs,hx,e'⟩|⟨xs,hx,e'⟩
  ·subst e'
   obtain⟨its,r',pl,hz⟩:=I.list hx
   have hlen:=r'.length
   exact Calls.call_len_list pl.isList (by simp only[List.size_toArray];omega) ⟨.int xs.length,H,I.tok _,⟨_,by simp only[List.size_toArray];rw[hlen]⟩,q⟩
  ·subst e'
   obtain⟨its,r',pl,hz⟩:=I.tuple hx
   have hlen:=r'.length
   exact len_tuple pl (by simp only[List.size_toArray];omega) ⟨.int xs.length,H,I.tok _,⟨_,by simp only[List.size_toArray];rw[hlen]⟩,q⟩
 |_=>exact (show False from e).elim
end
end L2
namespace L2
open PySem PySem.Spec PyProof.Rows
structure ObjM (h:Heap)(x dx C:Addr)(mA:Str->Option Value):Prop where
 obj:h.get? x=some (PySem.W.instObj C dx)
 ns:h.Ns1 dx mA
 ne:dx≠x
theorem zz {h:Heap}{dx:Addr}{mA:Str->Option Value}(n:h.Ns1 dx mA):∃od,h.get? dx=some od/\∀name,PySem.W.lookIn name od=some (mA name):=by
 obtain⟨o,es,ep,ho,hd,hk,_,hm⟩:=n
 refine⟨o,ho,fun name=>?_⟩
 have e:=hm name
 unfold nsFind findBy at e
 rw[←Array.find?_toList] at e
 unfold PySem.W.lookIn
 rw[hd]
 dsimp only
 split
 ·rename_i y q
  rw[q] at e
  exact congrArg some e
 ·rename_i q
  rw[q] at e
  have a:es.toList.any (·.refKey)=false:=by
   rw[List.any_eq_false]
   intro y hy
   obtain⟨z,t,hkey⟩:=hk y (Array.mem_toList_iff.mp hy)
   simp[DictEntry.refKey,hkey]
  have a':¬es.toList.any (·.refKey)=true:=by rw[a];exact Bool.false_ne_true
  rw[if_neg a']
  exact congrArg some e
theorem ObjM.look {h:Heap}{x dx C:Addr}{mA:Str->Option Value}(I:ObjM h x dx C mA):∃od,PySem.W.InstAt h x (PySem.W.instObj C dx) C (some od)/\∀name,PySem.W.lookIn name od=some (mA name):=
 let ⟨od,ho,hl⟩:=zz I.ns
 ⟨od,⟨I.obj,rfl,rfl,ho⟩,hl⟩
section
variable {prog:Program}{w:World}{A:Around}{E:Value->Shared->Prop}{s:Shared}{K:PySem.W.Frag}{x dx C f:Addr}{mA:Str->Option Value}{name:Str}{v:Value}
theorem kn {ns:List Str}{Q:Unit->Shared->Prop}(X:K.In s.heap)(I:ObjM s.heap x dx C mA)
  (hs:PySem.W.findIn K (.ref C) "__setattr__" = some (some (.builtin "object.__setattr__"))) (hp:PySem.W.plainOver K C=true) (ht:PySem.W.takerIn K C name=some none) (hh:PySem.W.hasDictIn K C=true)
  (hw:PySem.Within mA ns) (hsz:ns.length≤sizeLine)
  (h:∀h',ObjM h' x dx C (fun y=>if y=name then some v else mA y)->Heap.SameBut dx s.heap h'->Q () { s with heap:=h',toks:=s.toks+2 }) :
  wpAny (model prog w) A (setAttr (.ref x) name v) Q E s:=by
 obtain⟨od,J,hl⟩:=I.look
 refine PySem.W.set_plain X J hs (PySem.W.osa_open (s:={ s with toks:=s.toks+1 }) (r:=none) X J hp ht fun b=>?_)
 obtain⟨cd,hc,hd'⟩:=PySem.W.any_some hh
 have hx:s.heap.get? x=some ⟨.ref C,some dx,.plain,#[]⟩:=I.obj
 refine wpAny_bind (wpAny_pure (wpAny_bind (wpAny_bind (wpAny_loadPart hx (wpAny_bind (PySem.W.Looks.here (s:={ s with toks:=s.toks+1 }) (PySem.W.looks_clsIn X hc) ?_))))))
 rw[hd']
 refine wpAny_pure (a:=some dx) (wpAny_bind (wpAny_pure (wpAny_bind ?_)))
 refine wpAny_nsSet1 (s:={ s with toks:=s.toks+1 }) I.ns fun h' hn2 hs2=>?_
 obtain⟨oD,esD,epD,hoD,hdD,hcD⟩:=hn2.count (PySem.Within.cons name v hw)
 refine wpAny_bind (wpAny_lookBehind hoD (by rw[hdD];exact pastItsLine_dict (Nat.le_trans hcD (by rw[List.length_cons];omega))) ?_)
 exact wpAny_pure (h _ ⟨(hs2.2 _ (Ne.symm I.ne)).trans I.obj,hn2,I.ne⟩ hs2)
end
section
variable {P:Program}{w:World}{H H':Hp}{h h':Heap}{a C dx:Addr}{fs fs':List (Str×V)}
theorem FL (hok:HOk P w H h)(e:H a=some (.ins C dx fs)):∃mA,ObjM h a dx C mA/\(∀f,J8 (fs.lookup f) (mA f))/\PySem.Within mA (fs.map (·.1))/\fs.length≤1000/\H dx=some (.own a):=by
 obtain⟨d,z,ne,ob,mA,n,r,q⟩:=(show ObjOk P w H h a (.ins C dx fs) from hok a _ e)
 exact⟨mA,⟨ob,n,ne⟩,r,q,z,d⟩
end
structure Cls (K:PySem.W.Frag)(C:Addr):Prop where
 pg:PySem.W.plainGet K C Str.empty=true
 hd:PySem.W.hasDictIn K C=true
 po:PySem.W.plainOver K C=true
 sa:PySem.W.findIn K (.ref C) "__setattr__" = some (some (.builtin "object.__setattr__"))
theorem Cls.get {K:PySem.W.Frag}{C:Addr}(c:Cls K C)(f:Str):PySem.W.plainGet K C f=true:=c.pg
section
variable {X:Cx}{o e value:Expr}{f:Str}{pos pos' tpos:Pos}{ta tv:TE}
noncomputable def bO:V->V->Hp->VK->Prop:=fun x y H Q=>∃i j,x=.int i/\y=.int j/\Q (.int (i+j)) H
noncomputable def sr:V->V->Hp->VK->Prop:=fun x y H Q=>∃i j,x=.int i/\y=.int j/\Q (.int (i - j)) H
end
section
variable {X:Cx}{pins:List (Addr×Obj)}{σ:St}{H:Hp}{s:Shared}{A:Around}{E:Value->Shared->Prop}{Q:Value->Shared->Prop}{c:Value}{b:Bool}
inductive TyOf (K:PySem.W.Frag) (H:Hp):V->Value->Prop where
 |non:TyOf K H .non (.type "NoneType")
 |bl (x:Bool):TyOf K H (.bl x) (.type "bool")
 |int (i:Int):TyOf K H (.int i) (.type "int")
 |str (x:Str):TyOf K H (.str x) (.type "str")
 |flt (x:UInt64):TyOf K H (.flt x) (.type "float")
 |lst {a:Addr} {xs:List V} (e:H a=some (.lst xs)):TyOf K H (.ref a) (.type "list")
 |frz {a:Addr} {o:Obj} {xs:List V} (e:H a=some (.frz o (.lst xs))):TyOf K H (.ref a) (.type "list")
 |tup {a:Addr} {xs:List V} (e:H a=some (.tup xs)):TyOf K H (.ref a) (.type "tuple")
 |dK {a:Addr} {kvs:List (jI×V)} (e:H a=some (.dK kvs)):TyOf K H (.ref a) (.type "dict")
 |dT {a:Addr} {kvs:List (List jI×V)} (e:H a=some (.dT kvs)):TyOf K H (.ref a) (.type "dict")
 |ins {a C dx:Addr} {fs:List (Str×V)} (e:H a=some (.ins C dx fs)) (cl:Cls K C) (ha:PySem.W.findIn K (.ref C) "__class__" = some (some (.builtin "object.__class__")))
   (hn:PySem.W.specialIn K (.builtin "object.__class__") "__get__" = some (some (.builtin "getset_descriptor.__get__"))) (htk:PySem.W.takesIn K (.builtin "object.__class__")=some true)
   (hm:PySem.W.mroIn K C (.type "object")=some true):TyOf K H (.ref a) (.ref C)
theorem zI {x:V}{u t:Value}(I:Inv X pins σ H s)(rx:RelV x u)(ty:TyOf X.K H x t)(e:PySem.W.kitOne X.K t c=some b)(h:∀tk,Q (.bool b) { s with toks:=tk }) :
  wpAny (model X.prog X.w) A (call (.builtin "isinstance") [u,c]) Q E s:=by
 cases ty with
 |non=>cases (show u=Value.none from rx);exact PySem.W.kia_one PySem.W.kitx_none I.kIn True.intro e (fun z=>nomatch z) h
 |bl y=>cases (show u=Value.bool y from rx);exact PySem.W.kia_one PySem.W.kitx_bool I.kIn True.intro e (fun z=>nomatch z) h
 |int i=>obtain⟨t,q⟩:=(show ∃t,u=Value.int i t from rx);cases q;exact PySem.W.kia_one PySem.W.kitx_int I.kIn True.intro e (fun z=>nomatch z) h
 |str y=>obtain⟨t,q⟩:=(show ∃t,u=Value.str y t from rx);cases q;exact PySem.W.kia_one PySem.W.kitx_str I.kIn True.intro e (fun z=>nomatch z) h
 |flt y=>obtain⟨t,q⟩:=(show ∃t,u=Value.float y t from rx);cases q;exact PySem.W.kia_one PySem.W.kitx_float I.kIn True.intro e (fun z=>nomatch z) h
 | @lst a xs ea=>
  cases (show u=Value.ref a from rx)
  obtain⟨_,_,n,_,h1⟩:=(show ObjOk X.prog X.w H s.heap a (.lst xs) from I.hok a _ ea)
  exact PySem.W.kia_one PySem.W.kitx_list I.kIn ⟨_,h1,rfl⟩ e (fun z=>nomatch z) h
 | @frz a ob xs ea=>
  cases (show u=Value.ref a from rx)
  obtain⟨_,_,_,n,_,h1⟩:=(show ObjOk X.prog X.w H s.heap a (.frz ob (.lst xs)) from I.hok a _ ea)
  exact PySem.W.kia_one PySem.W.kitx_list I.kIn ⟨_,h1,rfl⟩ e (fun z=>nomatch z) h
 | @tup a xs ea=>
  cases (show u=Value.ref a from rx)
  obtain⟨_,_,_,p⟩:=(show ObjOk X.prog X.w H s.heap a (.tup xs) from I.hok a _ ea)
  obtain⟨o,h1,h2,_⟩:=p
  exact PySem.W.kia_one PySem.W.kitx_tuple I.kIn ⟨o,h1,h2⟩ e (fun z=>nomatch z) h
 | @dK a kvs ea=>
  cases (show u=Value.ref a from rx)
  obtain⟨_,_,vs,_,p⟩:=(show ObjOk X.prog X.w H s.heap a (.dK kvs) from I.hok a _ ea)
  obtain⟨o,es,ep,h1,h2,_⟩:=p
  exact PySem.W.kia_one PySem.W.kitx_dict I.kIn ⟨o,h1,h2.1⟩ e (fun z=>nomatch z) h
 | @dT a kvs ea=>
  cases (show u=Value.ref a from rx)
  obtain⟨_,_,xs,_,o,es,ep,h1,h2,_⟩:=(show ObjOk X.prog X.w H s.heap a (.dT kvs) from I.hok a _ ea)
  exact PySem.W.kia_one PySem.W.kitx_dict I.kIn ⟨o,h1,h2.1⟩ e (fun z=>nomatch z) h
 | @ins a C dx fs ea cl ha hn htk hm=>
  cases (show u=Value.ref a from rx)
  obtain⟨mA,O,_⟩:=FL I.hok ea
  obtain⟨od,J,_⟩:=O.look
  exact PySem.W.kia_one (PySem.W.kitx_own (cl.get _) cl.hd ha hn htk hm) I.kIn J e (fun z=>nomatch z) h
end
end L2
namespace L2
open PySem PySem.Spec PyProof.Rows
structure Room (k:Nat)(A:Around):Prop where
 hd:A.handled=none
 dp:A.depth+3 * k+5<recursionLimit
 un:A.units+16 * k+200<cLine
theorem Room.mono {j k:Nat}{A:Around}(r:Room k A)(h:j≤k):Room j A:=⟨r.hd,by have:=r.dp;omega,by have:=r.un;omega⟩
theorem Room.deeper {k:Nat}{A:Around}(r:Room (k+1) A)(env:Env):Room k (A.deeper env):=
 ⟨r.hd,by have:=r.dp;show A.depth+1+3 * k+5<_;omega,by have:=r.un;show A.units+3+16 * k+200<_;omega⟩
theorem Room.depth {k:Nat}{A:Around}(r:Room k A):A.depth<recursionLimit:=by have:=r.dp;omega
theorem Room.units {k:Nat}{A:Around}(r:Room k A):A.units+64<cLine:=by have:=r.un;omega
noncomputable def fg:TA:=fun _ H Q=>Q [] H
noncomputable def bE (ta:TE)(tr:TA):TA:=fun σ H Q=>ta σ H fun x H1=>tr σ H1 fun xs H2=>Q (x::xs) H2
section
variable {X:Cx}{e:Expr}{es:List Expr}{te:TE}{t:TA}{pos:Pos}
theorem eP:PA X [] fg:=fun _ _ _ _ H Q I h=>Calls.spliced_nil ⟨[],H,I,.nil,h⟩
theorem EU (ha:PE X e te)(hr:PA X es t)(hs:starEach (e::es) X.env=(false,eval e X.env)::starEach es X.env:=by rfl):PA X (e::es) (bE te t):=by
 intro pos pins s σ H Q I h
 rw[hs]
 show wpAny _ _ (spliced ((false,eval e X.env)::backTo pos (starEach es X.env))) _ _ s
 refine Calls.spliced_cons (bL (ha pins s σ H _ I h) fun u s1 ⟨x,H1,I1,r1,q1⟩=>?_)
 exact bL (hr pos pins s1 σ H1 _ I1 q1) fun us s2 ⟨xs,H2,I2,r2,q2⟩=>⟨x::xs,H2,I2,.cons r1 r2,q2⟩
noncomputable def gc (t:TA):TE:=fun σ H Q=>t σ H fun xs H1=>xs.length≤sizeLine/\∀p,H1 p=none->Q (.ref p) (upd H1 p (.tup xs))
noncomputable def fW (t:TA):TE:=fun σ H Q=>t σ H fun xs H1=>xs.length≤sizeLine/\∀p,H1 p=none->Q (.ref p) (upd H1 p (.lst xs))
theorem ld {x1}(h:PA X es t):PE X (.Tuple es x1 pos) (gc t):=by
 intro pins s σ H Q I hq
 refine wpAny_Tuple_spliced (bL (h pos pins s σ H _ I hq) fun us s1 ⟨xs,H1,I1,r,z,q⟩=>⟨by rw[←r.length];exact z,?_⟩)
 have hf:H1 s1.heap.objs.size=none:=I1.hok.fresh (Nat.le_refl _)
 refine⟨.ref s1.heap.objs.size,upd H1 s1.heap.objs.size (.tup xs),I1.laid (t':=s1.toks) (fun b u e=>Heap.get?_push_of_some _ e) (Nat.le_refl _) ?_,rfl,q _ hf⟩
 exact⟨z,us,r,⟨_,Heap.get?_push_size _ rfl,rfl,_,rfl⟩⟩
theorem Lg (h:PA X es t):PE X (.List es pos) (fW t):=by
 intro pins s σ H Q I hq
 refine wpAny_List_spliced (bL (h pos pins s σ H _ I hq) fun us s1 ⟨xs,H1,I1,r,z,q⟩=>⟨by rw[←r.length];exact z,?_⟩)
 have hf:H1 s1.heap.objs.size=none:=I1.hok.fresh (Nat.le_refl _)
 refine⟨.ref s1.heap.objs.size,upd H1 s1.heap.objs.size (.lst xs),I1.laid (t':=s1.toks) (fun b u e=>Heap.get?_push_of_some _ e) (Nat.le_refl _) ?_,rfl,q _ hf⟩
 exact⟨z,us,0,r,Heap.get?_push_size _ rfl⟩
end
noncomputable abbrev Sp:=List V->Hp->VK->XK->Prop
noncomputable abbrev y7:=List Env->Hp->Shared->XK->Value->Shared->Prop
structure Env0 (P:Program)(w:World)(K:PySem.W.Frag)(mg:Str->Option Value)(base:Heap)(A:Around)(outer:List Env)(s:Shared)(H:Hp):Prop where
 frames:A.frames=some outer
 mod:Mod K mg base
 bs:∀b o,base.get? b=some o->s.heap.get? b=some o/\H b=none
 bsz:base.objs.size≤s.heap.objs.size
 funs:s.heap.FunFrames base outer
 frf:∀b∈wR outer,H b=none
 hok:HOk P w H s.heap
 bare:AllBare s.gens
noncomputable def CE (outer:List Env)(P:Program)(w:World)(H:Hp)(s:Shared)(Q:VK)(u:Value)(s':Shared):Prop:=
 ∃v H',s'.os=s.os/\AllBare s'.gens/\Un (wR outer) [] H H' s.heap s'.heap/\HOk P w H' s'.heap/\RelV v u/\Q v H'
noncomputable def CR (CX:y7)(outer:List Env)(P:Program)(w:World)(H:Hp)(s:Shared)(Q:VK)(E:XK)(r:Result)(s':Shared):Prop:=
 match r with
 |.ok (.ret u)=>CE outer P w H s Q u s'
 |.ok _=>False
 |.error e=>CX outer H s E e s'
structure FnOk (P:Program)(w:World)(K:PySem.W.Frag)(mg:Str->Option Value)(base:Heap)(CX:y7)(k:Nat)(f:Addr)(fd:FuncData)(ps:List Str)(sp:Sp):Prop where
 len:∀vs H Q E,sp vs H Q E->vs.length=ps.length
 run:∀(A:Around) (outer:List Env) (s:Shared) (H:Hp) (args:Args) (us:List Value) (vs:List V) (Q:VK) (E:XK),Room k A->Env0 P w K mg base A outer s H->BindsTo s fd args (ps.zip us)->Vals vs us->sp vs H Q E →
  codeAny (model P w) A (.call (.ref f) args) (CR CX outer P w H s Q E) s
theorem FnOk.imp {P:Program}{w:World}{K:PySem.W.Frag}{mg:Str->Option Value}{base:Heap}{CX:y7}{k:Nat}{f:Addr}{fd:FuncData}{ps:List Str}{sp sp':Sp}(F:FnOk P w K mg base CX k f fd ps sp)
  (h:∀vs H Q E,sp' vs H Q E->sp vs H Q E):FnOk P w K mg base CX k f fd ps sp':=
 ⟨fun vs H Q E q=>F.len vs H Q E (h _ _ _ _ q),fun A outer s H args us vs Q E hr he hb hv hs=>F.run A outer s H args us vs Q E hr he hb hv (h _ _ _ _ hs)⟩
section
variable {X:Cx}{pins:List (Addr×Obj)}{σ:St}{H:Hp}{s s':Shared}
theorem Inv.env0 (I:Inv X pins σ H s):Env0 X.prog X.w X.K X.mg X.base X.A X.stack s H:=
 ⟨I.ok.frames,I.ok.mod,I.bs,Nat.le_trans I.ok.bsz I.sz,I.stack,I.stkFree,I.hok,I.bare⟩
theorem Inv.after {Q:VK}{u:Value}(I:Inv X pins σ H s)(h:CE X.stack X.prog X.w H s Q u s'):EP X pins σ Q u s':=by
 obtain⟨v,H',os,bare,un,hok,r,q⟩:=h
 obtain⟨hh,g,d,t,os'⟩:=s'
 obtain rfl:os'=s.os:=os
 exact⟨v,H',I.call (h':=hh) (g':=g) (d':=d) (t':=t) (ch:=[]) un hok bare (fun b z=>absurd z (by simp)),r,q⟩
end
noncomputable def bf (sp:Sp)(dvs:List V)(E:XK)(t:TA):TE:=fun σ H Q=>t σ H fun vs H1=>sp (vs++dvs) H1 Q E
noncomputable def Binds (K:PySem.W.Frag)(fd:FuncData)(ps:List Str)(ds:List Value):Prop:=
 ∀(s:Shared) (us:List Value),K.In s.heap->(us++ds).length=ps.length->BindsTo s fd ⟨us,[]⟩ (ps.zip (us++ds))
theorem Binds.all {K:PySem.W.Frag}{fd:FuncData}{ps:List Str}(h:∀us:List Value,us.length=ps.length->bindArgs fd ⟨us,[]⟩=pure (ps.zip us)):Binds K fd ps []:=fun s us _ hl=>by
 rw[List.append_nil] at hl ⊢
 exact .of_eq (h us hl)
noncomputable def sS (CX:y7)(X:Cx)(E:XK):Prop:=∀(pins:List (Addr×Obj)) (σ:St) (H:Hp) (s:Shared) (e:Value) (s':Shared),Inv X pins σ H s->CX X.stack H s E e s'->X.xe e s'
section
variable {X:Cx}{CX:y7}{k:Nat}{f C:Addr}{fd:FuncData}{ps:List Str}{sp:Sp}{dvs:List V}{ds:List Value}{E:XK}{x m:Str}{p pos apos:Pos}{e o:Expr}{es:List Expr}{ta:TE}{t:TA}
theorem wI {pins:List (Addr×Obj)}{σ:St}{H:Hp}{s:Shared}{Q:VK}{us:List Value}{vs:List V}(F:FnOk X.prog X.w X.K X.mg X.base CX k f fd ps sp)(hr:Room k X.A)(hb:Binds X.K fd ps ds)(hd:Vals dvs ds)(hx:sS CX X E)
  (I:Inv X pins σ H s) (r:Vals vs us) (h:sp (vs++dvs) H Q E):wpAny (model X.prog X.w) X.A (call (.ref f) us) (EP X pins σ Q) X.xe s:=by
 have r2:Vals (vs++dvs) (us++ds):=r.append hd
 have hl:(us++ds).length=ps.length:=by rw[←r2.length];exact F.len _ _ _ _ h
 refine wpAny_call (codeAny_mono (F.run X.A X.stack s H ⟨us,[]⟩ (us++ds) (vs++dvs) Q E hr I.env0 (hb s us I.kIn hl) r2 h) fun r s' hq=>?_)
 cases r with
 |error e=>exact hx pins σ H s e s' I hq
 |ok fl=>
  cases fl with
  |ret u=>exact I.after hq
  |next=>exact False.elim hq
  |brk=>exact False.elim hq
  |cont=>exact False.elim hq
theorem EE (F:FnOk X.prog X.w X.K X.mg X.base CX k f fd ps sp)(hr:Room k X.A)(hg:Gl X x)(hm:X.mg x=some (.ref f))(hk:PySem.W.keepIn X.K (.ref f)=true)(hb:Binds X.K fd ps ds)(hd:Vals dvs ds)(hx:sS CX X E)
  (ha:PA X (e::es) t) (hdb:(x==("__debug__" : Str))=false:=by decide) (he:starEach (e::es) X.env=(false,eval e X.env)::starEach es X.env:=by rfl) (hpl:(backTo pos (starEach es X.env)).any (·.1)=false:=by rfl) :
  PE X (.Call (.Name x p) (e::es) [] pos) (bf sp dvs E t):=by
 intro pins s σ H Q I h
 refine wpAny_Call_Name_kw (sB I hg hm ?_ hdb)
 refine PySem.W.callWith_K (h₀:=X.base) I.ok.mod.kin hk (bL (ha pos pins s σ H _ I h) fun us s1 ⟨vs,H1,I1,r,q⟩=>⟨I1.kIn,?_⟩) he hpl
 exact wI F hr hb hd hx I1 r q
theorem A8 (F:FnOk X.prog X.w X.K X.mg X.base CX k f fd ps sp)(hr:Room k X.A)(hg:Gl X x)(hm:X.mg x=some (.ref f))(hk:PySem.W.keepIn X.K (.ref f)=true)(hb:Binds X.K fd ps ds)(hd:Vals dvs ds)(hx:sS CX X E)
  (hdb:(x==("__debug__" : Str))=false:=by decide):PE X (.Call (.Name x p) [] [] pos) (bf sp dvs E fg):=by
 intro pins s σ H Q I h
 refine wpAny_Call_Name_kw (sB I hg hm ?_ hdb)
 exact PySem.W.callWith_K0 I.kIn hk (wI (us:=[]) F hr hb hd hx I .nil h)
end
section
variable {X:Cx}{CX:y7}{k:Nat}{f C:Addr}{fd:FuncData}{ps ks:List Str}{sp:Sp}{E:XK}{x m:Str}{p pos apos kpos:Pos}{e o:Expr}{es:List Expr}{kws:List Keyword}{te ta:TE}{t tk:TA}{nm:Option Str}
variable {g:List Value->List Value->List Value}{gV:List V->List V->List V}
end
structure FnScope (N P:List Str)(sc:Scope):Prop where
 kind:sc.kind=.function
 co:sc.isCoroutine=false
 gen:sc.isGenerator=false
 nd:N.Nodup
 pre:N.take P.length=P
 par:∀x∈P,sc.names.lookup x=some .local\/sc.names.lookup x=some .cell
 nofree:∀y∈sc.names,y.2≠.free
theorem re {kindOf:Str->Option NameKind}{x:Str}:∀{binds:List (Str×Value)} {m:Str->Option Value},(∀v,(x,v)∉binds)->bindL kindOf binds m x=m x
 |[],_,_=>rfl
 |(n,v)::r,m,h=>by
  unfold bindL
  rw[re fun w hw=>h w (List.mem_cons_of_mem _ hw)]
  split
  ·have:x≠n:=by rintro rfl;exact h v List.mem_cons_self
   simp[this]
  ·rfl
theorem rl {kindOf:Str->Option NameKind}{x:Str}:∀{binds:List (Str×Value)} {m:Str->Option Value},(∀v,(x,v)∉binds)->bindC kindOf binds m x=m x
 |[],_,_=>rfl
 |(n,v)::r,m,h=>by
  unfold bindC
  rw[rl fun w hw=>h w (List.mem_cons_of_mem _ hw)]
  split
  ·rfl
  ·have:x≠n:=by rintro rfl;exact h v List.mem_cons_self
   simp[this]
theorem rC {kindOf:Str->Option NameKind}{x:Str}{v:Value}:∀{P:List Str} {vs:List Value} {i:Nat} {m:Str->Option Value},P.Nodup->P[i]?=some x->vs[i]?=some v->kindOf x=some .local →
  bindL kindOf (P.zip vs) m x=some v
 |[],_,_,_,_,h,_,_=>by simp at h
 |_::_,[],_,_,_,_,h,_=>by simp at h
 |p::P,w::vs,0,m,nd,h1,h2,hk=>by
  simp at h1 h2;subst h1;subst h2
  show bindL kindOf ((p,w)::P.zip vs) m p=_
  unfold bindL
  rw[re fun v hv=>(List.nodup_cons.mp nd).1 (List.of_mem_zip hv).1,if_pos hk]
  simp
 |p::P,w::vs,i+1,m,nd,h1,h2,hk=>by
  show bindL kindOf ((p,w)::P.zip vs) m x=_
  unfold bindL
  exact rC (i:=i) (List.nodup_cons.mp nd).2 (by simpa using h1) (by simpa using h2) hk
theorem rM {kindOf:Str->Option NameKind}{x:Str}{v:Value}:∀{P:List Str} {vs:List Value} {i:Nat} {m:Str->Option Value},P.Nodup->P[i]?=some x->vs[i]?=some v->kindOf x≠some .local →
  bindC kindOf (P.zip vs) m x=some v
 |[],_,_,_,_,h,_,_=>by simp at h
 |_::_,[],_,_,_,_,h,_=>by simp at h
 |p::P,w::vs,0,m,nd,h1,h2,hk=>by
  simp at h1 h2;subst h1;subst h2
  show bindC kindOf ((p,w)::P.zip vs) m p=_
  unfold bindC
  rw[rl fun v hv=>(List.nodup_cons.mp nd).1 (List.of_mem_zip hv).1,if_neg hk]
  simp
 |p::P,w::vs,i+1,m,nd,h1,h2,hk=>by
  show bindC kindOf ((p,w)::P.zip vs) m x=_
  unfold bindC
  exact rM (i:=i) (List.nodup_cons.mp nd).2 (by simpa using h1) (by simpa using h2) hk
noncomputable def aQ (N:List Str)(vs:List V):St:=vs.map some++List.replicate (N.length - vs.length) none
noncomputable def lJ (CX:y7)(P:Program)(w:World)(K:PySem.W.Frag)(mg:Str->Option Value)(base:Heap)(N:List Str)(qual:Str)(scope:Scope)(f:Addr)(cd:Value)(A:Around)(outer:List Env)(s:Shared)(H:Hp)(E:XK):Cx where
 prog:=P
 w:=w
 K:=K
 mg:=mg
 base:=base
 A:=A.deeper (envOfC qual scope s.heap.objs.size f cd)
 N:=N
 s₀:=s
 H₀:=H
 env:=envOfC qual scope s.heap.objs.size f cd
 outer:=outer
 stack:=envOfC qual scope s.heap.objs.size f cd::outer
 ex:=[]
 calm:=true
 fn:=fun _=>true
 pn:=[]
 xe:=fun e s'=>wpAny (model P w) (A.deeper (envOfC qual scope s.heap.objs.size f cd)) (leaving (envOfC qual scope s.heap.objs.size f cd) e) (fun _ s''=>CX outer H s E e s'') (fun e' s''=>CX outer H s E e' s'') s'
theorem uN {sc:Scope}{n:Nat}{x:Str}(h:sc.names.lookup x=some .cell):∃c,(cellsFrom n sc.names []).lookup x=some c:=by
 have q:=PySem.W.cellsFrom_some sc.names n [] (.inl h)
 exact Option.isSome_iff_exists.mp q
theorem zA {CX:y7}{P:Program}{w:World}{K:PySem.W.Frag}{mg:Str->Option Value}{base:Heap}{N ps:List Str}{qual:Str}{scope:Scope}{f:Addr}{cd:Value}{A:Around}{outer:List Env}{s s1:Shared}{H:Hp}{E:XK}{us:List Value}{vs:List V}
  (S:FnScope N ps scope) (hd:A.handled=none) (e0:Env0 P w K mg base A outer s H) (hl:vs.length=ps.length) (r:Vals vs us)
  (x:InCallC s s.heap.objs.size (bindL (envOfC qual scope s.heap.objs.size f cd).kindOf (ps.zip us) fun _=>none) (cellsFrom (s.heap.objs.size+1) scope.names []) (bindC (envOfC qual scope s.heap.objs.size f cd).kindOf (ps.zip us) fun _=>none) s1) :
  Inv (lJ CX P w K mg base N qual scope f cd A outer s H E) [] (aQ N vs) H s1:=by
 have hpl:ps.length≤N.length:=by have:=congrArg List.length S.pre;rw[List.length_take] at this;omega
 obtain⟨h1,tk,rfl,hk⟩:=x.done
 have noA:∀b:Addr,b∉(lJ CX P w K mg base N qual scope f cd A outer s H E).ex:=fun b z=>absurd (show b∈([]:List Addr) from z) (by simp)
 refine⟨⟨e0.mod,S.kind,rfl,rfl,Nat.le_refl _,fun y z c h1 h2=>?_,fun y hy=>?_,fun y c _ h=>?_,fun _=>hd,Around.frames_deeper e0.frames,.inr ⟨rfl,rfl⟩,fun b z=>absurd z (noA b),e0.bs,e0.bsz,fun b _ _=>noA b,fun b z=>absurd z (noA b),e0.funs,e0.frf⟩,
  rfl,e0.bare,Un.kept hk,⟨_,x.toInCall.ns,fun i y v h1 h2 h3=>?_⟩,fun y c h=>⟨_,x.cell y c h⟩,e0.hok.fresh (Nat.le_refl _),fun y c h=>?_,fun p hp=>absurd (show p∈([]:List (Addr×Obj)) from hp) (by simp),e0.hok.kept hk,?_⟩
 ·exact name_of_addr x.apart (PySem.mem_of_lookup h1) (PySem.mem_of_lookup h2)
 ·have hy:scope.names.lookup y=some .cell\/scope.names.lookup y=some .free:=hy
  rcases hy with hy|hy
  ·exact uN hy
  ·exact absurd rfl (S.nofree _ (PySem.mem_of_lookup hy))
 ·exact Nat.le_of_lt (x.above y c (PySem.mem_of_lookup h))
 ·have hi:i<vs.length:=by
   unfold aQ at h2
   by_cases hi:i<vs.length
   ·exact hi
   ·rw[List.getElem?_append_right (by simpa using hi)] at h2
    rw[List.getElem?_replicate] at h2
    split at h2<;>cases h2
  have ha:vs[i]?=some v:=by
   unfold aQ at h2
   rw[List.getElem?_append_left (by simpa using hi),List.getElem?_map] at h2
   cases e:vs[i]? with
   |none=>rw[e] at h2;cases h2
   |some a=>rw[e] at h2;cases h2;rfl
  obtain⟨u,hu,rv⟩:=r.get ha
  have hp:ps[i]?=some y:=by
   rw[←S.pre,List.getElem?_take_of_lt (by omega)];exact h1
  have ndP:ps.Nodup:=by rw[←S.pre];exact S.nd.sublist (List.take_sublist _ _)
  refine⟨u,rv,?_⟩
  rcases S.par y (List.mem_of_getElem? hp) with k|k
  ·exact .inl ⟨k,rC ndP hp hu k⟩
  ·obtain⟨c,e⟩:=uN (n:=s.heap.objs.size+1) k
   refine .inr ⟨.inl k,c,e,?_⟩
   have q:=x.cell y c e
   rw[rM ndP hp hu (by show scope.names.lookup y≠_;rw[k];decide)] at q
   exact q
 ·exact e0.hok.fresh (Nat.le_of_lt (x.above y c (PySem.mem_of_lookup h)))
 ·unfold aQ
  show _=N.length
  rw[List.length_append,List.length_map,List.length_replicate]
  omega
theorem MG {CX:y7}{P:Program}{w:World}{K:PySem.W.Frag}{mg:Str->Option Value}{base:Heap}{k:Nat}{f:Addr}{name qual:Str}{params:Arguments}{body:List Stmt}{scope:Scope}{dV kV doc pm cdv ct oc:Value}{an od:Option Addr}
  {osl:Array (Option Value)} {N ps:List Str} {sp:Sp} (lk:K.lookup f=some ⟨oc,od,.func (PySem.W.fnOf name qual params body scope dV kV doc pm an cdv ct),osl⟩) (hcd:PySem.W.codeIn K cdv qual=true) (S:FnScope N ps scope)
  (len:∀vs H Q E,sp vs H Q E->vs.length=ps.length)
  (hbody:∀(A:Around) (outer:List Env) (s:Shared) (H:Hp) (vs:List V) (Q:VK) (E:XK),Room k (A.deeper (envOfC qual scope s.heap.objs.size f cdv))->sp vs H Q E →
   ∃t,PSs (lJ CX P w K mg base N qual scope f cdv A outer s H E) body t/\t { nx:=fun _ H'=>Q .non H',rt:=Q } (aQ N vs) H) :
  FnOk P w K mg base CX (k+1) f (PySem.W.fnOf name qual params body scope dV kV doc pm an cdv ct) ps sp:=by
 refine⟨len,fun A outer s H args us vs Q E hr e0 hb r hsp=>?_⟩
 have hl:=len _ _ _ _ hsp
 have KX:K.In s.heap:=e0.mod.kin.keeps fun b o e=>(e0.bs b o e).1
 have lim:s.heap.NoLimit:=e0.mod.nolimit.keeps fun b o e=>(e0.bs b o e).1
 have hkind:∀y∈ps.zip us,scope.names.lookup y.1=some .local\/(scope.names.lookup y.1=some .cell/\((cellsFrom (s.heap.objs.size+1) scope.names []).lookup y.1).isSome=true):=fun ⟨n,v⟩ hy=>by
  rcases S.par n (List.of_mem_zip hy).1 with q|q
  ·exact .inl q
  ·exact .inr ⟨q,PySem.W.cellsFrom_some _ _ _ (.inl q)⟩
 refine codeAny_call_function hr.depth (KX _ _ lk) rfl S.co S.gen rfl (PySem.W.codeRec_of KX hcd) (hb _ _ _ _ ?_)
 refine wpAny_newFunctionEnv_cells S.kind hkind fun env he s1 x=>?_
 subst he
 refine⟨lim.keeps x.toInCall.keep,codeAny_func ?_⟩
 obtain⟨t,ht,hq⟩:=hbody A outer s H vs Q E (hr.deeper _) hsp
 have I:Inv (lJ CX P w K mg base N qual scope f cdv A outer s H E) [] (aQ N vs) H s1:=zA S hr.hd e0 hl r x
 refine wpAny_mono (ht [] s1 (aQ N vs) H _ I hq) (fun fl s' hs=>?_) fun e s' hs=>hs
 have fin:∀{σ':St} {H':Hp} {v:V} {u:Value},Inv (lJ CX P w K mg base N qual scope f cdv A outer s H E) [] σ' H' s'->RelV v u->Q v H'->CE outer P w H s Q u s':=
  fun {σ' H' v u} J rv q=>⟨v,H',J.os,J.bare,J.base,J.hok,rv,q⟩
 cases fl with
 |ret u=>
  obtain⟨v,σ',H',J,rv,q⟩:=hs
  exact fin J rv q
 |next=>
  obtain⟨σ',H',J,q⟩:=hs
  exact fin (v:=V.non) (u:=Value.none) J rfl q
 |brk=>
  obtain⟨_,_,_,q⟩:=hs
  exact False.elim q
 |cont=>
  obtain⟨_,_,_,q⟩:=hs
  exact False.elim q
end L2
namespace L2
open PySem PySem.Spec PyProof.Rows
section
variable {X:Cx}{x:Str}{p pos:Pos}{e:Expr}{es:List Expr}{t:TA}{id T:String}{r:List V->Hp->VK->Prop}
noncomputable def km (r:List V->Hp->VK->Prop)(t:TA):TE:=fun σ H Q=>t σ H fun vs H1=>r vs H1 Q
theorem cG (hc:d7 X (.builtin id) r)(hg:Gl X x)(hm:X.mg x=none)(hv:bootBuiltins x=some (.builtin id))(ha:PA X (e::es) t)(hn:x ≠ "__name__":=by decide)(hdb:(x==("__debug__" : Str))=false:=by decide)
  (he:starEach (e::es) X.env=(false,eval e X.env)::starEach es X.env:=by rfl) (hpl:(backTo pos (starEach es X.env)).any (·.1)=false:=by rfl):PE X (.Call (.Name x p) (e::es) [] pos) (km r t):=by
 intro pins s σ H Q I h
 refine wpAny_Call_Name_kw (j5 I hg hm hv ?_ hn hdb)
 exact PyProof.Rows.callWith_builtin1 (bL (ha pos pins s σ H _ I h) fun us s1 ⟨vs,H1,I1,r1,q1⟩=>hc pins s1 σ H1 vs us Q I1 r1 q1) he hpl
theorem fq (hc:d7 X (.type T) r)(hg:Gl X x)(hm:X.mg x=none)(hv:bootBuiltins x=some (.type T))(ha:PA X (e::es) t)(hn:x ≠ "__name__":=by decide)(hdb:(x==("__debug__" : Str))=false:=by decide)
  (he:starEach (e::es) X.env=(false,eval e X.env)::starEach es X.env:=by rfl) (hpl:(backTo pos (starEach es X.env)).any (·.1)=false:=by rfl):PE X (.Call (.Name x p) (e::es) [] pos) (km r t):=by
 intro pins s σ H Q I h
 refine wpAny_Call_Name_kw (j5 I hg hm hv ?_ hn hdb)
 exact PyProof.Rows.callWith_type1 (bL (ha pos pins s σ H _ I h) fun us s1 ⟨vs,H1,I1,r1,q1⟩=>hc pins s1 σ H1 vs us Q I1 r1 q1) he hpl
end
end L2
namespace HT
open PySem PyProof.Rows
section
variable {prog:Program}{w:World}{A:Around}{E:Value->Shared->Prop}{s:Shared}
theorem cat_tup {t b:Addr}{vs ws:List Value}{Q:Value->Shared->Prop}(ht:IsTup s.heap t vs.toArray)(hb:IsTup s.heap b ws.toArray)(hv:vs≠[])
  (h1:ws=[]->Q (.ref t) s) (h2:ws≠[]->Q (.ref s.heap.objs.size) { s with heap:=s.heap.push { cls:=.type "tuple",data:=.seq (vs++ws).toArray } })
  (hsz:vs.length+ws.length≤sizeLine):wpAny (model prog w) A (binaryOp .Add (.ref t) (.ref b)) Q E s:=by
 obtain⟨⟨cls,dd,data,sl⟩,ho,hc,n,hd⟩:=id ht
 obtain⟨⟨cls2,dd2,data2,sl2⟩,ho2,hc2,n2,hd2⟩:=id hb
 simp only at hc hd hc2 hd2
 subst hc hd hc2 hd2
 have e:vs.toArray++ws.toArray=(vs++ws).toArray:=by simp
 by_cases hw:ws=[]
 ·exact concat_meets ⟨_,ho,rfl⟩ ⟨_,ho2,rfl⟩ noFill_tuple_add seq_tuple_add PySem.F.slot_tuple_add PySem.F.entry_tuple_add (PySem.F.args_tuple_add_2 _ _)
   (tuple_addW1 t b vs.toArray ws.toArray n n2 dd dd2 sl sl2 (by simpa using hv) (by simp[hw])) ⟨ho,ho2,h1 hw⟩
 ·refine concat_meets ⟨_,ho,rfl⟩ ⟨_,ho2,rfl⟩ noFill_tuple_add seq_tuple_add PySem.F.slot_tuple_add PySem.F.entry_tuple_add (PySem.F.args_tuple_add_2 _ _)
   (tuple_addW2 t b vs.toArray ws.toArray n n2 dd dd2 sl sl2 (by simpa using hv) (by simpa using hw) (by rw[List.size_toArray,List.size_toArray];exact hsz)) ⟨ho,ho2,?_⟩
  rw[e]
  exact h2 hw
noncomputable def sIx (n d:Nat):Option Int->Nat
 |none=>d
 |some v=>if v<0 then (v+(n:Int)).toNat else min v.toNat n
theorem sIx_none (n d:Nat):sIx n d none=d:=rfl
theorem sIx_nat (n d k:Nat):sIx n d (some (k:Int))=min k n:=by
 show (if (k:Int)<0 then ((k:Int)+(n:Int)).toNat else min (k:Int).toNat n)=min k n
 rw[if_neg (by omega),Int.toNat_natCast]
theorem Jg (n d:Nat)(hd:d≤n)(o:Option Int):sIx n d o≤n:=by
 cases o with
 |none=>exact hd
 |some v=>
  show (if v<0 then (v+(n:Int)).toNat else min v.toNat n)≤n
  by_cases hv:v<0
  ·rw[if_pos hv];omega
  ·rw[if_neg hv];exact Nat.min_le_right _ _
theorem x9 (v:Int)(n d:Nat):(if v<0 then max (v+(n:Int)) 0 else min v (n:Int))=((sIx n d (some v):Nat):Int):=by
 show (if v<0 then max (v+(n:Int)) 0 else min v (n:Int))=(((if v<0 then (v+(n:Int)).toNat else min v.toNat n):Nat):Int)
 by_cases hv:v<0
 ·simp only[if_pos hv];omega
 ·simp only[if_neg hv];omega
theorem wY (lo hi:Option Int)(n:Nat):Builtin.Slice.sliceAdjust lo hi 1 (n:Int)=(((sIx n 0 lo:Nat):Int),((sIx n n hi:Nat):Int)):=by
 have h1:¬((1:Int)<0):=by omega
 unfold Builtin.Slice.sliceAdjust
 simp only[h1,if_false]
 refine Prod.ext ?_ ?_
 ·cases lo with
  |none=>rfl
  |some v=>exact x9 v n 0
 ·cases hi with
  |none=>rfl
  |some v=>exact x9 v n n
theorem xt (i j:Nat):Builtin.Slice.slicePlaces (i:Int) (j:Int) 1=j - i:=by
 unfold Builtin.Slice.slicePlaces
 have h1:(1:Int) > 0:=by omega
 simp only[h1,if_true,Int.ediv_one]
 split<;>omega
theorem ou {v:Value}{o:Option Int}{Q:Option Int->Shared->Prop}(p:IsPart v o)(h:Q o s):wpAny (model prog w) A (Builtin.Slice.slicePartIndex v) Q E s:=by
 cases p with
 |none=>exact slicePart_none h
 |int i t=>exact slicePart_int h
theorem jj {sl:Addr}{vl vu:Value}{lo hi:Option Int}{n:Nat}{Q:Int×Int×Nat->Shared->Prop}(hs:s.heap.IsSliceOf sl vl vu .none)(pl:IsPart vl lo)(pu:IsPart vu hi)
  (h:Q (((sIx n 0 lo:Nat):Int),1,sIx n n hi - sIx n 0 lo) s):wpAny (model prog w) A (Builtin.Slice.sliceApplied (.ref sl) (pure (n:Int))) Q E s:=by
 obtain⟨os,hos,hcs,Mu⟩:=id hs
 unfold Builtin.Slice.sliceApplied Builtin.Slice.sliceFields
 refine wpAny_bind (wpAny_bind (wpAny_field hos Mu (x:=vl) rfl (wpAny_bind (wpAny_field hos Mu (x:=vu) rfl (wpAny_bind (wpAny_field hos Mu (x:=.none) rfl (wpAny_pure ?_)))))))
 refine wpAny_bind (slicePart_none ?_)
 show wpAny _ _ (if ((1:Int)==0)=true then _ else _) _ _ s
 rw[if_neg (by decide)]
 refine wpAny_bind (ou pl (wpAny_bind (ou pu (wpAny_bind (wpAny_pure ?_)))))
 show wpAny _ _ (match Builtin.Slice.sliceAdjust lo hi 1 (n:Int) with|(lo,hi)=>pure (lo,(1:Int),Builtin.Slice.slicePlaces lo hi 1)) _ _ s
 rw[wY lo hi n]
 show wpAny _ _ (pure (((sIx n 0 lo:Nat):Int),(1:Int),Builtin.Slice.slicePlaces ((sIx n 0 lo:Nat):Int) ((sIx n n hi:Nat):Int) 1)) _ _ s
 rw[xt]
 exact wpAny_pure h
theorem AX (xs:Array Value)(i k:Nat):((List.range k).filterMap fun (m:Nat)=>xs[((i:Int)+(m:Int) * 1).toNat]?).toArray=((xs.toList.drop i).take k).toArray:=by
 have e:(fun (m:Nat)=>xs[((i:Int)+(m:Int) * 1).toNat]?)=fun m=>xs[i+m]?:=by
  funext m
  have:((i:Int)+(m:Int) * 1).toNat=i+m:=by omega
  rw[this]
 rw[e]
 have:=pick_run xs i k
 rw[List.filterMap_map] at this
 have e2:((fun x=>xs[x]?) ∘ fun x=>i+x)=fun m=>xs[i+m]?:=rfl
 rw[e2] at this
 rw[this]
theorem getItem_tuple_cut {t sl:Addr}{items:Array Value}{vl vu:Value}{lo hi:Option Int}{Q:Value->Shared->Prop}(ht:IsTup s.heap t items)(hs:s.heap.IsSliceOf sl vl vu .none)(pl:IsPart vl lo)(pu:IsPart vu hi)
  (hw:¬(sIx items.size 0 lo=0/\sIx items.size items.size hi=items.size))
  (h:Q (.ref s.heap.objs.size) { s with heap:=s.heap.push { cls:=.type "tuple",data:=.seq ((items.toList.drop (sIx items.size 0 lo)).take (sIx items.size items.size hi - sIx items.size 0 lo)).toArray } })
  (hsz:items.size≤sizeLine):wpAny (model prog w) A (getItem (.ref t) (.ref sl)) Q E s:=by
 have htake:sizeOk (.seq ((items.toList.drop (sIx items.size 0 lo)).take (sIx items.size items.size hi - sIx items.size 0 lo)).toArray):=by
  show ((items.toList.drop (sIx items.size 0 lo)).take (sIx items.size items.size hi - sIx items.size 0 lo)).toArray.size≤sizeLine
  rw[List.size_toArray,List.length_take,List.length_drop,Array.length_toList]
  omega
 have hj:sIx items.size items.size hi≤items.size:=Jg _ _ (Nat.le_refl _) hi
 obtain⟨os,hos,hcs,Mu⟩:=id hs
 have hTs:s.TypeIs (.ref sl) "slice":=⟨os,hos,hcs⟩
 unfold getItem
 try with_reducible refine wpAny_holding ?_
 first|refine wpAny_bind (wpAny_pure ?_)|skip
 refine wpAny_bind (wpAny_sequenceKey ht.typeIs (by decide) ?_)
 refine wpAny_bind (wpAny_callSpecial?_slot (name:=Str.ofString "__getitem__") ht.typeIs PyProof.Rows.slot_tuple_getitem
  (wpAny_call_entry PyProof.Rows.slot_tuple_getitem ht.typeIs entry_tuple_getitem ?_ (args_tuple_getitem _ _)))
 show wpAny _ _ (Builtin.Tuple.tupleItemsOf (.ref t) >>= _) _ _ s
 refine wpAny_bind (tupleItemsOf_ ht ?_)
 refine wpAny_bind (wpAny_typeOf hTs ?_)
 rw[if_pos (by decide)]
 refine wpAny_bind (jj hs pl pu ?_)
 have hno:¬((((sIx items.size 0 lo:Nat):Int)==0&&(1:Int)==1&&(sIx items.size items.size hi - sIx items.size 0 lo)==items.size)=true):=by
  intro q
  rw[Bool.and_eq_true,Bool.and_eq_true] at q
  have q1:((sIx items.size 0 lo:Nat):Int)=0:=eq_of_beq q.1.1
  have q2:sIx items.size items.size hi - sIx items.size 0 lo=items.size:=eq_of_beq q.2
  exact hw ⟨by omega,by omega⟩
 show wpAny _ _ (if (((sIx items.size 0 lo:Nat):Int)==0&&(1:Int)==1&&(sIx items.size items.size hi - sIx items.size 0 lo)==items.size)=true then _ else _) _ _ s
 rw[if_neg hno,AX]
 first
  |exact wpAny_bind (m:=Builtin.Tuple.tupleExact _) (wpAny_newObj_type (wpAny_pure ⟨_,rfl,wpAny_pure h⟩) htake)
  |exact wpAny_bind (m:=Builtin.Tuple.tupleExact _) (wpAny_newObj_type (wpAny_bind (wpAny_pure (wpAny_pure ⟨_,rfl,wpAny_pure h⟩))) htake)
  |exact wpAny_bind (wpAny_bind (m:=Builtin.Tuple.tupleExact _) (wpAny_newObj_type (wpAny_pure (wpAny_pure ⟨_,rfl,wpAny_pure h⟩)) htake))
  |exact wpAny_bind (wpAny_bind (m:=Builtin.Tuple.tupleExact _) (wpAny_newObj_type (wpAny_pure ⟨_,rfl,wpAny_pure h⟩) htake))
end
end HT
namespace L2
open PySem PySem.Spec PyProof.Rows
noncomputable abbrev TO:=St->Hp->(Option Int->Hp->Prop)->Prop
noncomputable def PO (X:Cx)(e:Option Expr)(t:TO):Prop:=
 ∀(pins:List (Addr×Obj)) (s:Shared) (σ:St) (H:Hp) (Q:Option Int->Hp->Prop),Inv X pins σ H s->t σ H Q →
  wpAny (model X.prog X.w) X.A (evalPart e X.env) (fun u s'=>∃o H',Inv X pins σ H' s'/\IsPart u o/\Q o H') X.xe s
noncomputable def aF:TO:=fun _ H Q=>Q none H
noncomputable def cI (t:TE):TO:=fun σ H Q=>t σ H fun x H1=>∃i,x=.int i/\Q (some i) H1
section
variable {X:Cx}{e:Expr}{te:TE}{lo hi:Option Expr}{tl th:TO}{pos p2:Pos}
theorem EA:PO X none aF:=by
 intro pins s σ H Q I h
 rw[evalPart_none]
 exact wpAny_pure ⟨none,H,I,.none,h⟩
theorem E9 (h:PE X e te):PO X (some e) (cI te):=by
 intro pins s σ H Q I hw
 rw[evalPart_some]
 refine bL (h pins s σ H _ I hw) fun u s1 ⟨x,H1,I1,r1,q1⟩=>?_
 obtain⟨i,rfl,q⟩:=q1
 obtain⟨t,rfl⟩:=r1
 exact⟨some i,H1,I1,.int i t,q⟩
noncomputable def SlR (X:Cx)(r:V->Option Int->Option Int->Hp->VK->Prop):Prop:=
 ∀(pins:List (Addr×Obj)) (s:Shared) (σ:St) (H:Hp) (x:V) (v vl vu:Value) (lo hi:Option Int) (sl:Addr) (Q:VK),Inv X pins σ H s->RelV x v->s.heap.IsSliceOf sl vl vu .none->IsPart vl lo->IsPart vu hi->r x lo hi H Q →
  ∃T id,typeLookup (.type T) "__getitem__" = pure (some (.builtin id))/\s.TypeIs v T/\wpAny (model X.prog X.w) X.A (getItem v (.ref sl)) (EP X pins σ Q) X.xe s
noncomputable def mB (r:V->Option Int->Option Int->Hp->VK->Prop)(te:TE)(tl th:TO):TE:=fun σ H Q=>te σ H fun x H1=>tl σ H1 fun l H2=>th σ H2 fun u H3=>r x l u H3 Q
theorem oC {r:V->Option Int->Option Int->Hp->VK->Prop}(hr:SlR X r)(he:PE X e te)(hl:PO X lo tl)(hu:PO X hi th):PE X (.Subscript e (.Slice lo hi none p2) pos) (mB r te tl th):=by
 intro pins s σ H Q I h
 refine Subscript_ (bL (he pins s σ H _ I h) fun v s1 ⟨x,H1,I1,r1,q1⟩=>?_)
 refine wpAny_Slice (bL (hl pins s1 σ H1 _ I1 q1) fun vl s2 ⟨l,H2,I2,pl,q2⟩=>bL (hu pins s2 σ H2 _ I2 q2) fun vu s3 ⟨u,H3,I3,pu,q3⟩=>?_)
 rw[evalPart_none]
 refine wpAny_pure ?_
 have I4:Inv X pins σ H3 { s3 with heap:=s3.heap.push { cls:=.type "slice",data:=.fields #[vl,vu,.none] } }:=I3.kept (t':=s3.toks) fun b ob q=>Heap.get?_push_of_some _ q
 obtain⟨T,id,hT,ht,hg⟩:=hr pins { s3 with heap:=s3.heap.push { cls:=.type "slice",data:=.fields #[vl,vu,.none] } } σ H3 x v vl vu l u s3.heap.objs.size Q I4 r1 (Heap.IsSliceOf.new ..) pl pu q3
 show wpAny (model X.prog X.w) X.A (subscriptTail e (.Slice lo hi none p2) v (.ref s3.heap.objs.size)) (EP X pins σ Q) X.xe { s3 with heap:=s3.heap.push { cls:=.type "slice",data:=.fields #[vl,vu,.none] } }
 exact tail_any (ops:=[.ref s3.heap.objs.size,v]) ht hT hg (by with_unfolding_all rfl)
noncomputable def uG (xs:List V)(lo hi:Option Int):List V:=(xs.drop (HT.sIx xs.length 0 lo)).take (HT.sIx xs.length xs.length hi - HT.sIx xs.length 0 lo)
theorem na (xs:List V)(lo hi:Option Int):(uG xs lo hi).length≤xs.length:=by
 unfold uG
 rw[List.length_take,List.length_drop]
 omega
noncomputable def gm (K:PySem.W.Frag):V->Option Int->Option Int->Hp->VK->Prop:=fun x lo hi H Q=>∃a xs,x=.ref a/\SqT K H a xs ∧
 ¬(HT.sIx xs.length 0 lo=0/\HT.sIx xs.length xs.length hi=xs.length)/\∀p,H p=none->Q (.ref p) (upd H p (.tup (uG xs lo hi)))
theorem K2:SlR X (gm X.K):=by
 intro pins s σ H x v vl vu lo hi sl Q I rx hs pl pu h
 obtain⟨a,xs,rfl,hx,hw,q⟩:=h
 cases rx
 obtain⟨its,r,ht,hz⟩:=I.tuple hx
 have hlen:its.toArray.size=xs.length:=by rw[List.size_toArray];exact r.length.symm
 refine⟨"tuple",_,PyProof.Rows.slot_tuple_getitem.lookup,ht.typeIs,?_⟩
 refine HT.getItem_tuple_cut ht hs pl pu (by rw[hlen];exact hw) ?_ (by rw[hlen];exact hz)
 rw[hlen]
 refine⟨.ref s.heap.objs.size,_,I.laid (t':=s.toks) (o:=.tup (uG xs lo hi)) (fun b ob q=>Heap.get?_push_of_some _ q) (Nat.le_refl _) ?_,rfl,q _ (I.hok.fresh (Nat.le_refl _))⟩
 exact⟨Nat.le_trans (na xs lo hi) hz,_,(r.drop (HT.sIx xs.length 0 lo)).take (HT.sIx xs.length xs.length hi - HT.sIx xs.length 0 lo),IsTup.new _ _⟩
noncomputable def Ih (K:PySem.W.Frag):R2:=fun x y H Q=>∃a b xs ys,x=.ref a/\y=.ref b/\SqT K H a xs/\SqT K H b ys/\xs≠[]/\xs.length+ys.length≤sizeLine ∧
 (ys=[]->Q (.ref a) H)/\(ys≠[]->∀p,H p=none->Q (.ref p) (upd H p (.tup (xs++ys))))
theorem Vals.nil_iff {xs:List V}{us:List Value}(r:Vals xs us):us=[]↔xs=[]:=by
 cases r with
 |nil=>simp
 |cons _ _=>simp
theorem E6:iD X (binaryOp .Add) (Ih X.K):=by
 intro pins s σ H x y v u Q I rx ry h
 obtain⟨a,b,xs,ys,rfl,rfl,ha,hb,hx,hz,q1,q2⟩:=h
 cases rx
 cases ry
 obtain⟨its,r1,p1,_⟩:=I.tuple ha
 obtain⟨its2,r2,p2,_⟩:=I.tuple hb
 refine HT.cat_tup p1 p2 (fun z=>hx (r1.nil_iff.mp z)) (fun z=>⟨.ref a,H,I,rfl,q1 (r2.nil_iff.mp z)⟩) (fun z=>?_) (by rw[←r1.length,←r2.length];exact hz)
 refine⟨.ref s.heap.objs.size,_,I.laid (t':=s.toks) (o:=.tup (xs++ys)) (fun b ob q=>Heap.get?_push_of_some _ q) (Nat.le_refl _) ?_,rfl,q2 (fun w=>z (r2.nil_iff.mpr w)) _ (I.hok.fresh (Nat.le_refl _))⟩
 exact⟨by rw[List.length_append];exact hz,_,r1.append r2,IsTup.new _ _⟩
end
end L2
namespace L2
open PySem PySem.Spec PyProof.Rows
noncomputable def qh (n:Nat)(i:Int):Option Nat:=if 0≤i then (if i<n then some i.toNat else none) else if -(n:Int)≤i then some (i+n).toNat else none
noncomputable def atI {α:Type}(xs:List α)(i:Int):Option α:=(qh xs.length i).bind fun j=>xs[j]?
theorem yV {n:Nat}{i:Int}{j:Nat}(h:qh n i=some j):seqIndex? i n=some j/\j<n/\-(n:Int)≤i/\i<n:=by
 unfold qh at h
 by_cases h0:0≤i
 ·rw[if_pos h0] at h
  by_cases h1:i<n
  ·rw[if_pos h1] at h
   have e:i.toNat=j:=Option.some.inj h
   exact⟨by rw[seqIndex_of h0 h1,e],by omega,by omega,h1⟩
  ·rw[if_neg h1] at h;cases h
 ·rw[if_neg h0] at h
  by_cases h1:-(n:Int)≤i
  ·rw[if_pos h1] at h
   have e:(i+n).toNat=j:=Option.some.inj h
   exact⟨by rw[seqIndex_neg (by omega) h1,e],by omega,h1,by omega⟩
  ·rw[if_neg h1] at h;cases h
theorem nT {α:Type}{xs:List α}{i:Int}{v:α}(h:atI xs i=some v):∃j,seqIndex? i xs.length=some j/\xs[j]?=some v/\j<xs.length/\-(xs.length:Int)≤i/\i<xs.length:=by
 unfold atI at h
 cases e:qh xs.length i with
 |none=>rw[e] at h;cases h
 |some j=>
  rw[e] at h
  obtain⟨h1,h2,h3,h4⟩:=yV e
  exact⟨j,h1,h,h2,h3,h4⟩
theorem gt {α:Type}{xs:List α}{j:Nat}{v:α}(h:xs[j]?=some v):atI xs (j:Int)=some v:=by
 have hj:j<xs.length:=(List.getElem?_eq_some_iff.mp h).1
 have e:qh xs.length (j:Int)=some j:=by
  unfold qh
  rw[if_pos (by omega),if_pos (by omega)];simp
 unfold atI;rw[e];exact h
theorem jd {α:Type}(xs:List α)(v:α):atI (xs++[v]) (-1)=some v:=by
 have hl:(xs++[v]).length=xs.length+1:=by simp
 have e:qh (xs++[v]).length (-1)=some xs.length:=by
  unfold qh
  rw[hl,if_neg (by decide),if_pos (by omega)]
  congr 1
  omega
 unfold atI
 rw[e]
 show (xs++[v])[xs.length]?=some v
 simp
noncomputable def kj (b:Expr):Prop:=∀o i,subscripted b false o i=operate [o,i] (getItem o i)
noncomputable def IxR (X:Cx)(r:R2):Prop:=
 ∀(value slice:Expr) (pins:List (Addr×Obj)) (s:Shared) (σ:St) (H:Hp) (x y:V) (v u:Value) (Q:VK),Inv X pins σ H s->RelV x v->RelV y u->r x y H Q →
  subscripted slice false v u=operate [v,u] (getItem v u)->wpAny (model X.prog X.w) X.A (subscriptTail value slice v u) (EP X pins σ Q) X.xe s
noncomputable def Rj (X:Cx)(id:String)(r:V->List V->Hp->VK->Prop):Prop:=
 ∀(pins:List (Addr×Obj)) (s:Shared) (σ:St) (H:Hp) (x:V) (xs:List V) (v:Value) (us:List Value) (Q:VK),Inv X pins σ H s->RelV x v->Vals xs us->r x xs H Q →
  wpAny (model X.prog X.w) X.A (call (.builtin id) (v::us)) (EP X pins σ Q) X.xe s
section
variable {X:Cx}{a b:Expr}{ta tb:TE}{pos:Pos}
theorem IxR.or {r r':R2}(h:IxR X r)(h':IxR X r'):IxR X (fun x y H Q=>r x y H Q\/r' x y H Q):=by
 intro value slice pins s σ H x y v u Q I rx ry q hs
 rcases q with q|q
 ·exact h value slice pins s σ H x y v u Q I rx ry q hs
 ·exact h' value slice pins s σ H x y v u Q I rx ry q hs
theorem iC {r:R2}(hr:IxR X r)(ha:PE X a ta)(hb:PE X b tb)(hs:kj b):PE X (.Subscript a b pos) (kW r ta tb):=by
 intro pins s σ H Q I h
 exact Subscript_ (Ke ha hb I h fun v u s2 x y H2 I2 rx ry q=>hr a b pins s2 σ H2 x y v u Q I2 rx ry q (hs _ _))
noncomputable def fF (K:PySem.W.Frag):R2:=fun x y H Q=>∃p xs i v,x=.ref p/\y=.int i/\SqL K H p xs/\atI xs i=some v/\Q v H
noncomputable def fP (K:PySem.W.Frag):R2:=fun x y H Q=>∃p xs i v,x=.ref p/\y=.int i/\SqT K H p xs/\atI xs i=some v/\Q v H
noncomputable def Nd:R2:=fun x y H Q=>∃z i c,x=.str z/\y=.int i/\z.length≤sizeLine/\atI z.cps.toList i=some c/\Q (.str ⟨#[c]⟩) H
theorem ix_list:IxR X (fF X.K):=by
 intro value slice pins s σ H x y v u Q I rx ry h hs
 obtain⟨p,xs,i,z,rfl,rfl,hq,he,q⟩:=h
 cases rx
 obtain⟨t,rfl⟩:=ry
 obtain⟨its,r,pl,hz⟩:=I.list hq
 obtain⟨j,h1,h2,h3,h4,h5⟩:=nT he
 obtain⟨w,ew,rw'⟩:=r.get h2
 have hl:=r.length
 have hn:=mR
 have fin:EP X pins σ Q w s:=⟨z,H,I,rw',q⟩
 by_cases h0:0≤i
 ·have hj:i.toNat=j:=by
   rw[seqIndex_of h0 h5] at h1
   exact Option.some.inj h1
  exact item_listR pl.isList h0 (by omega) (by rw[hj];simpa using ew) fin hs
 ·have hj:(i+(its.toArray.size:Int)).toNat=j:=by
   rw[seqIndex_neg (by omega) h4] at h1
   rw[List.size_toArray,←hl]
   exact Option.some.inj h1
  exact subscriptTail_builtinR (x:=w) pl.isList.typeIs slot_list_getitem.lookup
   (wpAny_getItem_list_neg (Q:=fun r s'=>r=w/\EP X pins σ Q r s') pl.isList (by omega) (by rw[List.size_toArray]<;>omega) (by omega) (by rw[hj];simpa using ew) ⟨rfl,fin⟩) hs
theorem ix_tup:IxR X (fP X.K):=by
 intro value slice pins s σ H x y v u Q I rx ry h hs
 obtain⟨p,xs,i,z,rfl,rfl,hq,he,q⟩:=h
 cases rx
 obtain⟨t,rfl⟩:=ry
 obtain⟨its,r,pl,hz⟩:=I.tuple hq
 obtain⟨j,h1,h2,h3,h4,h5⟩:=nT he
 obtain⟨w,ew,rw'⟩:=r.get h2
 have hl:=r.length
 have hn:=mR
 have fin:EP X pins σ Q w s:=⟨z,H,I,rw',q⟩
 exact subscriptTail_builtinR (x:=w) pl.typeIs slot_tuple_getitem.lookup
  (getItem_tuple (j:=j) (Q:=fun r s'=>r=w/\EP X pins σ Q r s') pl (by omega) (by omega) (by rw[List.size_toArray,←hl];exact h1) (by simpa using ew) ⟨rfl,fin⟩) hs
theorem KM:IxR X Nd:=by
 intro value slice pins s σ H x y v u Q I rx ry h hs
 obtain⟨z,i,c,rfl,rfl,hz,he,q⟩:=h
 obtain⟨t,rfl⟩:=rx
 obtain⟨t',rfl⟩:=ry
 obtain⟨j,h1,h2,h3,h4,h5⟩:=nT he
 have hl:z.cps.toList.length=z.length:=by simp[Str.length]
 rw[hl] at h1 h4 h5
 have hn:=mR
 exact tail_any (typeIs_str s z t) slot_str_getitem.lookup (getItem_str (c:=c) (by
  have e1:decide (i < -(2 ^ 63:Int))=false:=decide_eq_false (by omega)
  have e2:decide (i ≥ 2 ^ 63)=false:=decide_eq_false (by omega)
  rw[e1,e2,Bool.or_false]) (by rw[h1];simpa using h2) ⟨.str ⟨#[c]⟩,H,I.tok _,⟨_,rfl⟩,q⟩) hs
noncomputable def aN (K:PySem.W.Frag):R2:=fun x y H Q=>fF K x y H Q\/fP K x y H Q\/Nd x y H Q
theorem K4:IxR X (aN X.K):=ix_list.or (ix_tup.or KM)
theorem wt (its:List Value)(n j:Nat)(u:Value):Obj.mapSeq (·.setIfInBounds j u) { cls:=.type "list",data:=.seq its.toArray n }={ cls:=.type "list",data:=.seq (its.set j u).toArray n }:=by
 simp[Obj.mapSeq]
theorem Inv.lst {pins:List (Addr×Obj)}{σ:St}{H:Hp}{s:Shared}{p:Addr}{xs:List V}(I:Inv X pins σ H s)(h:H p=some (.lst xs)) :
  ∃(its:List Value) (n:Nat),Vals xs its/\s.heap.get? p=some { cls:=.type "list",data:=.seq its.toArray n }/\xs.length≤sizeLine:=by
 obtain⟨z,its,n,r,e⟩:=I.hok p _ h
 exact⟨its,n,r,e,z⟩
theorem Inv.lstUpd {pins:List (Addr×Obj)}{σ:St}{H:Hp}{s:Shared}{p:Addr}{xs ys:List V}{its its':List Value}{n n':Nat}{f:Obj->Obj}(I:Inv X pins σ H s)(h:H p=some (.lst xs))
  (ho:s.heap.get? p=some { cls:=.type "list",data:=.seq its.toArray n }) (hf:f { cls:=.type "list",data:=.seq its.toArray n }={ cls:=.type "list",data:=.seq its'.toArray n' }) (r:Vals ys its') (hz:ys.length≤sizeLine) (t:Nat) :
  Inv X pins σ (upd H p (.lst ys)) { s with heap:=s.heap.update p f,toks:=t }:=by
 have e:(s.heap.update p f).get? p=some { cls:=.type "list",data:=.seq its'.toArray n' }:=by
  rw[Heap.get?_update_self f ho (by rw[hf]<;>rfl),hf]
 refine I.write (x:=p) (e:=p) (by rw[h];trivial) (.inl rfl) (fun b u hb q=>(Heap.get?_update_other _ _ (Ne.symm hb)).trans q) ⟨_,e⟩ ?_
 exact⟨hz,its',n',r,e⟩
noncomputable def b7:V->V->V->Hp->(Hp->Prop)->Prop:=fun o i v H Q=>∃p xs k j,o=.ref p/\i=.int k/\H p=some (.lst xs)/\qh xs.length k=some j/\Q (upd H p (.lst (xs.set j v)))
theorem jf:Lm X b7:=by
 intro pins s σ H o i v ov iv u Q I ro ri rv h
 obtain⟨p,xs,k,j,rfl,rfl,hp,hj,q⟩:=h
 cases ro
 obtain⟨t,rfl⟩:=ri
 obtain⟨its,n,r,ho,hz⟩:=I.lst hp
 obtain⟨h1,h2,h3,h4⟩:=yV hj
 have hl:=r.length
 have hn:=mR
 have I':Inv X pins σ (upd H p (.lst (xs.set j v))) { s with heap:=s.heap.update p (Obj.mapSeq (·.setIfInBounds j u)) }:=
  I.lstUpd hp ho (wt its n j u) (r.set rv j) (by rw[List.length_set];exact hz) s.toks
 by_cases h0:0≤k
 ·have hk:k.toNat=j:=by
   rw[seqIndex_of h0 h4] at h1
   exact Option.some.inj h1
  exact PySem.W.ki_setAt ho h0 (by omega) (by rw[List.size_toArray,←hl];exact h4) (by rw[hk];exact⟨_,I',q⟩)
 ·have hk:(k+(its.toArray.size:Int)).toNat=j:=by
   rw[seqIndex_neg (by omega) h3] at h1
   rw[List.size_toArray,←hl]
   exact Option.some.inj h1
  exact PySem.W.ki_setBack ho (by omega) (by rw[List.size_toArray,←hl];exact h3) (by omega) (by rw[hk];exact⟨_,I',q⟩)
theorem sQ (lo hi:Option Int)(n:Nat):(sliceBounds lo hi none n).1=((HT.sIx n 0 lo:Nat):Int)/\(sliceBounds lo hi none n).2.1=((HT.sIx n n hi:Nat):Int)/\(sliceBounds lo hi none n).2.2=1:=by
 refine⟨?_,?_,rfl⟩
 ·cases lo with
  |none=>simp[sliceBounds,HT.sIx]
  |some i=>
   simp only[sliceBounds,HT.sIx,Option.getD_none,show (1:Int) > 0 by decide,if_true]
   by_cases h:i<0
   ·simp only[h,if_true]<;>omega
   ·simp only[h,if_false]<;>omega
 ·cases hi with
  |none=>simp[sliceBounds,HT.sIx]
  |some i=>
   simp only[sliceBounds,HT.sIx,Option.getD_none,show (1:Int) > 0 by decide,if_true]
   by_cases h:i<0
   ·simp only[h,if_true]<;>omega
   ·simp only[h,if_false]<;>omega
theorem qa (its:List Value)(lo hi:Option Int):slicePick its.toArray lo hi none=((its.drop (HT.sIx its.length 0 lo)).take (HT.sIx its.length its.length hi - HT.sIx its.length 0 lo)).toArray:=by
 obtain⟨h1,h2,h3⟩:=sQ lo hi its.toArray.size
 unfold slicePick
 rw[h1,h2,h3]
 simp only[sliceRange_one,pick_run,List.size_toArray]<;>rfl
noncomputable def gh (K:PySem.W.Frag):V->Option Int->Option Int->Hp->VK->Prop:=fun x lo hi H Q=>∃a xs,x=.ref a/\SqL K H a xs/\∀p,H p=none->Q (.ref p) (upd H p (.lst (uG xs lo hi)))
theorem Fz:SlR X (gh X.K):=by
 intro pins s σ H x v vl vu lo hi sl Q I rx hs pl pu h
 obtain⟨a,xs,rfl,hx,q⟩:=h
 cases rx
 obtain⟨its,r,ht,hz⟩:=I.list hx
 have hlen:=r.length
 refine⟨"list",_,slot_list_getitem.lookup,ht.isList.typeIs,?_⟩
 refine wpAny_getItem_list_slice ht.isList hs pl pu .none (by simp) ?_ (by rw[List.size_toArray]<;>omega)
 rw[qa,←hlen]
 refine⟨.ref s.heap.objs.size,_,I.laid (t':=s.toks) (o:=.lst (uG xs lo hi)) (fun b ob q=>Heap.get?_push_of_some _ q) (Nat.le_refl _) ?_,rfl,q _ (I.hok.fresh (Nat.le_refl _))⟩
 exact⟨Nat.le_trans (na xs lo hi) hz,_,0,(r.drop (HT.sIx xs.length 0 lo)).take (HT.sIx xs.length xs.length hi - HT.sIx xs.length 0 lo),Heap.get?_push_size _ rfl⟩
noncomputable def o5:V->Bool
 |.non=>true
 |.bl _=>true
 |.int _=>true
 |.str _=>true
 |_=>false
noncomputable def Da:V->V->Bool
 |.non,.non=>true
 |.bl a,.bl b=>a==b
 |.bl a,.int b=>(if a then 1 else 0)==b
 |.int a,.bl b=>a==(if b then 1 else 0)
 |.int a,.int b=>a==b
 |.str a,.str b=>a==b
 |_,_=>false
noncomputable def R4 (x:V)(xs:List V):Bool:=xs.any fun y=>Da y x
noncomputable def E4 (K:PySem.W.Frag)(neg:Bool):R2:=fun x y H Q=>∃p xs,y=.ref p/\(SqL K H p xs\/SqT K H p xs)/\o5 x=true/\xs.all o5=true/\Q (.bl (if neg then !R4 x xs else R4 x xs)) H
theorem lK:d7 X (.type "list") (fun xs H Q=>∃p ys,xs=[.ref p]/\(SqL X.K H p ys\/SqT X.K H p ys)/\∀l,H l=none->Q (.ref l) (upd H l (.lst ys))):=by
 intro pins s σ H xs us Q I r h
 obtain⟨p,ys,rfl,hq,q⟩:=h
 obtain⟨u,rfl,rx⟩:=gX r
 cases rx
 have fin:∀(its:List Value),Vals ys its->ys.length≤sizeLine->∀(h':Heap) (c':Nat),(∀b o',s.heap.get? b=some o'->h'.get? b=some o') →
   h'.get? s.heap.objs.size=some { cls:=.type "list",dict:=none,data:=.seq its.toArray c',slots:=#[] }->EP X pins σ Q (.ref s.heap.objs.size) { s with heap:=h' }:=fun its r' hz h' c' kp e=>
  ⟨.ref s.heap.objs.size,_,I.laid (t':=s.toks) kp (Nat.le_refl _) (show ObjOk X.prog X.w _ h' _ (.lst ys) from⟨hz,its,c',r',e⟩),rfl,q _ (I.hok.fresh (Nat.le_refl _))⟩
 rcases hq with hq|hq
 ·obtain⟨its,r',pl,hz⟩:=I.list hq
  have hlen:=r'.length
  obtain⟨o,ho,hc,n,hd⟩:=pl.isList
  exact call_list_seq p (.inl rfl) ho hc hd (fun h' c' kp e=>fin its r' hz h' c' kp e) (by simp only[List.size_toArray]<;>omega)
 ·obtain⟨its,r',pl,hz⟩:=I.tuple hq
  have hlen:=r'.length
  obtain⟨o,ho,hc,n,hd⟩:=pl
  exact call_list_seq p (.inr rfl) ho hc hd (fun h' c' kp e=>fin its r' hz h' c' kp e) (by simp only[List.size_toArray]<;>omega)
theorem kK:d7 X (.type "tuple") (fun xs H Q=>∃p ys,xs=[.ref p]/\((SqL X.K H p ys/\∀l,H l=none->Q (.ref l) (upd H l (.tup ys)))\/(SqT X.K H p ys/\Q (.ref p) H))):=by
 intro pins s σ H xs us Q I r h
 obtain⟨p,ys,rfl,h⟩:=h
 obtain⟨u,rfl,rx⟩:=gX r
 cases rx
 rcases h with ⟨hq,q⟩|⟨hq,q⟩
 ·obtain⟨its,r',pl,hz⟩:=I.list hq
  have hlen:=r'.length
  refine call_tuple_list pl.isList (fun h' kp=>?_) (by simp only[List.size_toArray]<;>omega)
  have I1:Inv X pins σ H { s with heap:=h' }:=I.kept (t':=s.toks) kp
  have I2:Inv X pins σ (upd H h'.objs.size (.tup ys)) { s with heap:=h'.push { cls:=.type "tuple",data:=.seq its.toArray } }:=
   I1.laid (t':=s.toks) (fun b o e=>Heap.get?_push_of_some _ e) (Nat.le_refl _) (show ObjOk X.prog X.w _ _ _ (.tup ys) from⟨hz,its,r',IsTup.new _ _⟩)
  exact⟨.ref h'.objs.size,_,I2,rfl,q _ (I1.hok.fresh (Nat.le_refl _))⟩
 ·obtain⟨its,r',pl,hz⟩:=I.tuple hq
  exact call_tuple_same pl ⟨.ref p,H,I,rfl,q⟩
noncomputable def QN (K:PySem.W.Frag)(T:String)(x:V)(H:Hp):Prop:=match x with
 |.str _=>T = "str"
 |.int _=>T = "int"
 |.ref p=>(T = "list"/\∃xs,SqL K H p xs)\/(T = "tuple"/\∃o,K.lookup p=some o/\o.cls=.type "tuple"/\o.dict=none) ∨
   (T = "dict"/\((∃kvs,H p=some (.dK kvs))\/∃kvs,H p=some (.dT kvs)))\/(T = "set"/\∃S n,H p=some (.set S n))
 |_=>False
theorem AS {pins:List (Addr×Obj)}{σ:St}{H:Hp}{s:Shared}{T:String}{x:V}{v:Value}(I:Inv X pins σ H s)(r:RelV x v)(ty:QN X.K T x H) :
  s.TypeIs v T/\∀a,v=.ref a->∃ob,s.heap.get? a=some ob/\ob.dict=none:=by
 cases x with
 |str z=>
  obtain⟨t,rfl⟩:=r
  cases (show T = "str" from ty)
  exact⟨typeIs_str s z t,fun _ e=>nomatch e⟩
 |int i=>
  obtain⟨t,rfl⟩:=r
  cases (show T = "int" from ty)
  exact⟨typeIs_int s i t,fun _ e=>nomatch e⟩
 |ref p=>
  cases r
  rcases ty with ⟨rfl,xs,hq⟩|⟨rfl,o,hk,hc,hd⟩|⟨rfl,hk⟩|⟨rfl,S,n,hk⟩
  ·obtain⟨its,_,pl,_⟩:=I.list hq
   refine⟨pl.isList.typeIs,fun a e=>?_⟩
   cases e
   obtain⟨o,n,e,c,hd,_⟩:=pl
   exact⟨o,e,hd⟩
  ·refine⟨⟨o,I.kIn p o hk,hc⟩,fun a e=>?_⟩
   cases e
   exact⟨o,I.kIn _ o hk,hd⟩
  ·have z:∃o,s.heap.get? p=some o/\o.ExactDict:=by
    rcases hk with ⟨kvs,hk⟩|⟨kvs,hk⟩
    ·obtain⟨_,_,_,_,o,_,_,e,ex,_⟩:=I.hok p _ hk
     exact⟨o,e,ex⟩
    ·obtain⟨_,_,_,_,o,_,_,e,ex,_⟩:=I.hok p _ hk
     exact⟨o,e,ex⟩
   obtain⟨o,e,ex⟩:=z
   refine⟨⟨o,e,ex.1⟩,fun a e2=>?_⟩
   cases e2
   exact⟨o,e,ex.2.1⟩
  ·obtain⟨o,_,_,_,e,ex,_⟩:=I.hok p _ hk
   refine⟨⟨o,e,ex.1⟩,fun a e2=>?_⟩
   cases e2
   exact⟨o,e,ex.2.1⟩
 |_=>exact False.elim ty
noncomputable def JQ (K:PySem.W.Frag)(T:String)(r:V->List V->Hp->VK->Prop)(to:TE):TE:=fun σ H Q=>to σ H fun x H1=>QN K T x H1/\r x [] H1 Q
noncomputable def ma (K:PySem.W.Frag)(T:String)(r:V->List V->Hp->VK->Prop)(to:TE)(t:TA):TE:=fun σ H Q=>to σ H fun x H1=>QN K T x H1/\t σ H1 fun xs H2=>r x xs H2 Q
variable {o e:Expr}{es:List Expr}{to:TE}{t:TA}{name:Str}{apos cpos:Pos}{T id:String}{r:V->List V->Hp->VK->Prop}
theorem A0 (pa:PlainAttrs T)(slot:Slot T name id)(hty:typeOf (.builtin id)=pure (.type "method_descriptor"))(hm:Rj X id r)(ho:PE X o to)
  (hbase:attributeBase o name X.env (eval o X.env)=eval o X.env:=by rfl) (hline:(apos.endLine==cpos.line)=true:=by rfl):PE X (.Call (.Attribute o name apos) [] [] cpos) (JQ X.K T r to):=by
 intro pins s σ H Q I h
 refine wpAny_Call_method0_late hbase hline (bL (ho pins s σ H _ I h) fun v s1 ⟨x,H1,I1,r1,ty,q1⟩=>?_)
 obtain⟨h1,h2⟩:=AS I1 r1 ty
 exact⟨T,id,pa,slot,hty,h1,h2,Calls.callWith_builtin rfl (PySem.evalArgs_none (hm pins s1 σ H1 x [] v [] Q I1 r1 .nil q1))⟩
theorem NA (pa:PlainAttrs T)(slot:Slot T name id)(hty:typeOf (.builtin id)=pure (.type "method_descriptor"))(hm:Rj X id r)(ho:PE X o to)(ha:PA X (e::es) t)
  (hbase:attributeBase o name X.env (eval o X.env)=eval o X.env:=by rfl)
  (hfew:((backTo cpos (starEach (e::es) X.env)).all (fun x=>!x.1)&&(backToKw cpos (keywordEach [] X.env)).all (fun x=>x.1.isSome)
   && decide ((e::es).length+([]:List Keyword).length+(if ([]:List Keyword).isEmpty then 0 else 1)<30))=true:=by rfl)
  (hline:(apos.endLine==cpos.line)=true:=by rfl) (hs:starEach (e::es) X.env=(false,eval e X.env)::starEach es X.env:=by rfl) (hplain:(backTo cpos (starEach es X.env)).any (·.1)=false:=by rfl) :
  PE X (.Call (.Attribute o name apos) (e::es) [] cpos) (ma X.K T r to t):=by
 intro pins s σ H Q I h
 refine wpAny_Call_method_late hbase hfew hline rfl (bL (ho pins s σ H _ I h) fun v s1 ⟨x,H1,I1,r1,ty,q1⟩=>?_)
 obtain⟨h1,h2⟩:=AS I1 r1 ty
 refine⟨T,id,pa,slot,hty,h1,h2,?_⟩
 have hA:=ha cpos pins s1 σ H1 _ I1 q1
 rw[hs] at hA ⊢
 refine Calls.callWith_builtin (by show (false || (backTo cpos (starEach es X.env)).any (·.1))=false;rw[hplain]<;>rfl) (Calls.evalArgs_plain ?_)
 exact bL hA fun us s2 ⟨vs,H2,I2,r2,q2⟩=>hm pins s2 σ H2 x vs v us Q I2 r1 r2 q2
end
end L2
namespace L2
open PySem PySem.Spec PyProof.Rows
noncomputable def RP (X:Cx)(id:String)(r:V->List V->Hp->VK->Prop):Prop:=
 ∀(pins:List (Addr×Obj)) (s:Shared) (σ:St) (H:Hp) (x:V) (xs:List V) (v:Value) (us:List Value) (Q:VK),Inv X pins σ H s->RelV x v->Vals xs us->r x xs H Q →
  wpAny (model X.prog X.w) X.A (call (.builtin id) (v::us)) (EP X pins σ Q) X.xe s
theorem Vals.one:∀{x:V} {us:List Value},Vals [x] us->∃u,us=[u]/\RelV x u
 |_,_,.cons r .nil=>⟨_,rfl,r⟩
theorem Vals.zero:∀{us:List Value},Vals [] us->us=[]
 |_,.nil=>rfl
theorem Vals.reverse {xs:List V}{us:List Value}(h:Vals xs us):Vals xs.reverse us.reverse:=by
 induction h with
 |nil=>exact .nil
 |cons r t ih=>rw[List.reverse_cons,List.reverse_cons];exact Vals.append ih (.cons r .nil)
theorem Vals.rep {xs:List V}{us:List Value}(h:Vals xs us):∀k:Nat,Vals (List.replicate k xs).flatten (List.replicate k us).flatten
 |0=>.nil
 |k+1=>by
  rw[List.replicate_succ,List.replicate_succ,List.flatten_cons,List.flatten_cons]
  exact Vals.append h (Vals.rep h k)
theorem mU (its:List Value):∀(k:Nat) (acc:List Value),
  List.foldl (fun x1 x2=>x1++x2) acc.toArray (List.replicate k its.toArray)=(acc++(List.replicate k its).flatten).toArray
 |0,acc=>by simp
 |k+1,acc=>by
  have e:acc.toArray++its.toArray=(acc++its).toArray:=by simp
  have e2:(acc++its)++(List.replicate k its).flatten=acc++(List.replicate (k+1) its).flatten:=by
   rw[List.replicate_succ,List.flatten_cons,List.append_assoc]
  rw[←e2,←mU its k (acc++its),←e,List.replicate_succ,List.foldl_cons]
section
variable {X:Cx}{pins:List (Addr×Obj)}{σ:St}{H:Hp}{s:Shared}{l b:Addr}{xs ys zs:List V}
theorem Inv.lset {its its':List Value}{n:Nat}{f:Array Value->Array Value}{t':Nat}(I:Inv X pins σ H s)(hH:H l=some (.lst xs))
  (e:s.heap.get? l=some { cls:=.type "list",data:=.seq its.toArray n }) (hf:f its.toArray=its'.toArray) (hv:Vals ys its') (hz:ys.length≤sizeLine) :
  Inv X pins σ (upd H l (.lst ys)) { s with heap:=s.heap.update l (Obj.mapSeq f),toks:=t' }:=by
 have q:=PySem.IsL.update e f
 rw[hf] at q
 refine I.write (x:=l) (e:=l) (by rw[hH];exact trivial) (.inl rfl) (fun b' u hb hu=>(Heap.get?_update_other s.heap (Obj.mapSeq f) (Ne.symm hb)).trans hu) ⟨_,q⟩ ?_
 exact⟨hz,its',_,hv,q⟩
theorem Inv.lnew {its:List Value}{t':Nat}(I:Inv X pins σ H s)(hv:Vals ys its)(hz:ys.length≤sizeLine) :
  Inv X pins σ (upd H s.heap.objs.size (.lst ys)) { s with heap:=s.heap.push { cls:=.type "list",data:=.seq its.toArray },toks:=t' }:=
 I.laid (fun _ _ q=>Heap.get?_push_of_some _ q) (Nat.le_refl _) ⟨hz,its,0,hv,Heap.get?_push_size _ rfl⟩
theorem Inv.fresh (I:Inv X pins σ H s):H s.heap.objs.size=none:=I.hok.fresh (Nat.le_refl _)
theorem Inv.lstM (I:Inv X pins σ H s)(hH:H l=some (.lst xs)):xs.length≤sizeLine/\∃(its:List Value) (n:Nat),Vals xs its/\xs.length=its.length/\s.heap.get? l=some { cls:=.type "list",data:=.seq its.toArray n }:=by
 obtain⟨z,its,n,r,e⟩:=I.hok l _ hH
 exact⟨z,its,n,r,r.length,e⟩
theorem AT {n:Nat}(h:n≤sizeLine):Builtin.List.listTooLong n=false:=by
 unfold Builtin.List.listTooLong
 exact decide_eq_false (by omega)
end
section
variable {X:Cx}
noncomputable def rY:V->List V->Hp->VK->Prop:=fun x vs H Q=>∃l xs y,x=.ref l/\vs=[y]/\H l=some (.lst xs)/\xs.length<sizeLine/\Q .non (upd H l (.lst (xs++[y])))
theorem AF:RP X "list.append" rY:=by
 intro pins s σ H x vs v us Q I rx rv h
 obtain⟨l,xs,y,rfl,rfl,hH,hz,q⟩:=h
 cases rx
 obtain⟨u,rfl,ru⟩:=rv.one
 obtain⟨z,its,n,r,hl,e⟩:=I.lstM hH
 refine call_meets F.slot_list_append ⟨_,e,rfl⟩ F.entry_list_append (F.args_list_append_2 _ _) (PySem.list_append l its.toArray n u (by rw[List.size_toArray];omega)) ⟨e,?_⟩
 refine⟨.non,_,I.lset (its':=its++[u]) hH e (by simp) (r.append (.cons ru .nil)) ?_,rfl,q⟩
 rw[List.length_append,List.length_singleton]
 omega
noncomputable def o7:V->List V->Hp->VK->Prop:=fun x vs H Q=>∃l xs,x=.ref l/\vs=[]/\H l=some (.lst xs)/\Q .non (upd H l (.lst xs.reverse))
theorem xm:RP X "list.reverse" o7:=by
 intro pins s σ H x vs v us Q I rx rv h
 obtain⟨l,xs,rfl,rfl,hH,q⟩:=h
 cases rx
 have hus:=rv.zero
 subst hus
 obtain⟨z,its,n,r,hl,e⟩:=I.lstM hH
 refine call_meets F.slot_list_reverse ⟨_,e,rfl⟩ F.entry_list_reverse (F.args_list_reverse_1 _) (AutoSeq1.list_reverse_list_0 l its.toArray n (by rw[List.size_toArray];omega)) ⟨e,?_⟩
 refine⟨.non,_,I.lset (its':=its.reverse) hH e (by simp) r.reverse ?_,rfl,q⟩
 rw[List.length_reverse]
 omega
noncomputable def Qj:R2:=fun x y H Q=>∃l b xs zs,x=.ref l/\y=.ref b/\H l=some (.lst xs)/\H b=some (.lst zs)/\xs.length+zs.length≤sizeLine/\∀p,H p=none->Q (.ref p) (upd H p (.lst (xs++zs)))
theorem LJ:iD X (binaryOp .Add) Qj:=by
 intro pins s σ H x y v u Q I rx ry h
 obtain⟨l,b,xs,zs,rfl,rfl,hH,hB,hz,q⟩:=h
 cases rx
 cases ry
 obtain⟨z,its,n,r,hl,e⟩:=I.lstM hH
 obtain⟨z2,its2,n2,r2,hl2,e2⟩:=I.lstM hB
 refine PySem.P.add_list e e2 ?_ (by rw[List.size_toArray,List.size_toArray];omega)
 have ea:its.toArray++its2.toArray=(its++its2).toArray:=by simp
 rw[ea]
 exact⟨.ref _,_,I.lnew (t':=s.toks) (r.append r2) (by rw[List.length_append];omega),rfl,q _ I.fresh⟩
noncomputable def Ra:R2:=fun x y H Q=>∃l k xs,x=.ref l/\y=.int k/\H l=some (.lst xs)/\-(2 ^ 63)≤k/\k<2 ^ 63/\xs.length * k.toNat≤sizeLine ∧
 ∀p,H p=none->Q (.ref p) (upd H p (.lst (List.replicate k.toNat xs).flatten))
theorem tx {α:Type}(xs:List α)(k:Nat):(List.replicate k xs).flatten.length=k * xs.length:=by
 induction k with
 |zero=>simp
 |succ k ih=>rw[List.replicate_succ,List.flatten_cons,List.length_append,ih,Nat.succ_mul,Nat.add_comm]
theorem LK:iD X (binaryOp .Mult) Ra:=by
 intro pins s σ H x y v u Q I rx ry h
 obtain⟨l,k,xs,rfl,rfl,hH,h1,h2,hz,q⟩:=h
 cases rx
 obtain⟨t,rfl⟩:=ry
 obtain⟨z,its,n,r,hl,e⟩:=I.lstM hH
 have hlen:its.toArray.size * k.toNat≤sizeLine:=by rw[List.size_toArray,←hl];exact hz
 have hcap:¬its.toArray.size * k.toNat > (2 ^ 63 - 1) / 8:=by
  have:(sizeLine:Nat)≤(2 ^ 63 - 1) / 8:=by decide
  omega
 have hfit:¬(!Builtin.List.listFitsIndex k)=true:=by
  rw[fitsIndex_both h1 h2]
  exact Bool.false_ne_true
 have hlong:¬Builtin.List.listTooLong (its.toArray.size * k.toNat)=true:=by
  rw[AT hlen]
  exact Bool.false_ne_true
 have hnew:List.foldl (fun x1 x2=>x1++x2) #[] (List.replicate (if its.toArray.isEmpty=true then 0 else k.toNat) its.toArray)=(List.replicate k.toNat its).flatten.toArray:=by
  have f0:∀m:Nat,List.foldl (fun x1 x2=>x1++x2) #[] (List.replicate m its.toArray)=(List.replicate m its).flatten.toArray:=fun m=>by
   have:=mU its m []
   rw[List.nil_append] at this
   exact this
  rw[f0]
  cases its with
  |nil=>simp
  |cons a r'=>rw[if_neg (by simp)]
 refine wpAny_binaryOp_repeat_ref (T:="list") (U:="int") (by decide) ⟨_,e,rfl⟩ (fun s'=>typeIs_int s' k t) noFill_list_mul F.fills_int_mul F.slot_int_rmul repeat_list F.slot_int_index.lookup
  (call_meets F.slot_int_rmul (typeIs_int s k t) F.entry_int_rmul (F.args_int_rmul_2 _ _) (int___rmul___int_list k t l its.toArray n)
   ⟨e,rfl,⟨_,e,rfl⟩,call_meets F.slot_list_mul ⟨_,e,rfl⟩ F.entry_list_mul (F.args_list_mul_2 _ _) (AutoListH.list___mul___list_int_3 l its.toArray n k t hfit hcap hlong) ⟨e,?_⟩⟩)
 rw[hnew]
 exact⟨.ref _,_,I.lnew (t':=s.toks) (r.rep k.toNat) (by rw[tx,Nat.mul_comm];exact hz),rfl,q _ I.fresh⟩
end
section
variable {prog:Program}{w:World}{A:Around}{E:Value->Shared->Prop}{s:Shared}
set_option maxRecDepth 100000 in
end
end L2
namespace Att
open PySem PySem.W PySem.Calls PyProof.Rows
theorem nF {P:Params}{h:Heap}:∀(ns:List Int) (vs:List Value),WellAll P h vs (ns.map WData.int)->IntsAre vs ns:=by
 intro ns
 induction ns with
 |nil=>
  intro vs w
  rw[List.map_nil] at w
  cases w
  exact .nil
 |cons n ns ih=>
  intro vs w
  rw[List.map_cons] at w
  cases w with
  |cons a b=>
   cases a
   exact .cons _ _ (ih _ b)
theorem AD {l:OpenLaw}{n:Nat}(hn:l.most=some n){P:Params}{h:Heap}{args:List WData}{vals:List Value}
  (hpre:l.row.toRowW.claim.pre args=true) (hwl:WellAll P h vals args) :
  ∃a vs ns,vals=[Value.ref a]/\args=[WData.list (ns.map WData.int)]/\h.get? a=some { cls:=.type "list",data:=.seq vs.toArray }/\IntsAre vs ns/\ns.length≤n:=by
 have hsh:WShape.hasAll [] args [.list .int]=true:=(pre_splitW hpre).1
 have hc:l.pre.holds [] { args:=args }=true:=(pre_splitW hpre).2
 obtain⟨d,r,rfl,h1,h2⟩:=hasAllW_cons hsh
 obtain rfl:=hasAllW_nil h2
 obtain⟨xs,rfl,h3⟩:=hasW_list h1
 obtain⟨ns,rfl⟩:=items_int h3
 have hlen:ns.length≤n:=by
  unfold OpenLaw.pre at hc
  have h4:(WTm.not (.lt (.lit (.int (n:Int))) (.len (.arg 0)))).holds [] { args:=[.list (ns.map .int)] }=true:=by
   have h4:=(holds_andW hc).1
   rw[hn] at h4
   exact h4
  have h5:=condW_of h4 (w_not (w_lt w_lit (w_len_list (w_arg rfl))))
  rw[List.length_map] at h5
  refine Nat.le_of_not_lt fun q=>?_
  have q':(n:Int)<((ns.length:Nat):Int):=by omega
  first
   |(rw[decide_eq_true q'] at h5;exact absurd h5 (by decide))
   |(simp at h5;omega)
 cases hwl with
 |cons w1 w2=>
  cases w2
  cases w1 with
  |list ho hall=>exact⟨_,_,ns,rfl,rfl,ho,nF ns _ hall,hlen⟩
theorem Au (l:OpenLaw)(args:List WData):l.row.toRowW.claim.post args (.bool true) args=true:=
 postW_of (r:=l.row.toRowW) (X:=(true==true))
  (show WShape.has [] (.bool true) .bool=true by first|rfl|decide|simp[WShape.has,WShape.arms,WShape.armsAll])
  (show (WTm.eq .res (.lit (.bool true))).value [] { args:=args,res:=some (.bool true),after:=args }=some (.bool (true==true)) from w_eq_bool (w_res rfl) w_lit) rfl
theorem attach_call {l:OpenLaw}{n:Nat}{q:Program}{loose:List Str}{XP:(Str->Option Value)->Heap->Prop}{YP:World->Heap->Prop}{d:DefRec}
  (hn:l.most=some n) (hdf:d.params.defaults=[])
  (call:∀(w:World) (s₀ s₁:Shared) (mg mb:Str->Option Value) (fa:Addr) (o:Obj) (pm cd doc:Value) (a:Addr) (vs:List Value) (ns:List Int),
   Ground q loose [] XP w s₀ mg mb s₁.heap->YP w s₁.heap →
   s₁.heap.get? fa=some o->o.data=.func (docDef d.name d.params d.body d.scope pm cd doc)->s₁.heap.CodeRec cd d.name->mg d.name=some (.ref fa) →
   s₁.heap.get? a=some { cls:=.type "list",data:=.seq vs.toArray }->IntsAre vs ns->ns.length≤n->s₁.gens = #[] →
   codeAny (model l.prog w) callerA (.call (.ref fa) ⟨[.ref a],[]⟩) (fun r s'=>r=.ok (.ret (.bool true))/\OldK s₁.heap s'.heap/\s'.os=s₁.os/\AllBare s'.gens) s₁) :
  WalkO q loose XP YP l.row.toRowW d [] (fun f vs=>PySem.call f vs):=by
 intro w s₀ s₁ mg mb G Y fa o pm cd doc dV kV ho hd hcd hD hmg hg args vals as hpre hlay hrd hwl hlo
 obtain rfl:dV=.none:=Dflts.none hD hdf
 obtain rfl:kV=.none:=Dflts.noKw hD
 obtain⟨a,vs,ns,rfl,rfl,hobj,hints,hlen⟩:=AD hn hpre hwl
 refine enter_call (codeAny_mono (call w s₀ s₁ mg mb fa o pm cd doc a vs ns G Y ho (fd_plain hd) hcd hmg hobj hints hlen hg) fun r s' hq=>?_)
 obtain⟨rfl,h2,h3,h4⟩:=hq
 exact⟨.inl ⟨.bool true,.bool true,[],rfl,fun _=>rfl,.bool true,Au l _,fun _=>⟨List.Pairwise.nil,fun _ hm=>(nomatch hm)⟩⟩,h2,h3,h4⟩
section
variable {prog:Program}{w:World}{A:Around}{E:Value->Shared->Prop}{s:Shared}{K:Frag}
noncomputable def ledger (h:Heap)(L d:Addr):List (Addr×Obj):=(List.range h.objs.size).filterMap fun a=>if a=L\/a=d then none else (h.get? a).map fun o=>(a,o)
end
end Att
namespace L2
open PySem PySem.Spec PyProof.Rows
theorem rL:∀{vs:List Value} {ns:List Int},IntsAre vs ns->Vals (ns.map V.int) vs
 |_,_,.nil=>.nil
 |_,_,.cons n t h=>.cons ⟨t,rfl⟩ (rL h)
noncomputable def Ja (H:Hp):Prop:=∀b,H b=none\/∃o xs,H b=some (.frz o (.lst xs))
theorem Bu {P:Program}{w:World}{K:PySem.W.Frag}{mg mb:Str->Option Value}{CX:y7}{k:Nat}{fa a:Addr}{fd:FuncData}{x:Str}{sp:Sp}{s₁:Shared}{vs:List Value}{ns:List Int}
  (KX:K.In s₁.heap) (hns:s₁.heap.Ns mainGlobals mg) (hb:s₁.heap.Ns builtinsNs mb) (hbb:∀x:Str,x ≠ "__name__"->mb x=bootBuiltins x) (hlim:s₁.heap.NoLimit) (hg:s₁.gens = #[])
  (ha:s₁.heap.get? a=some { cls:=.type "list",data:=.seq vs.toArray }) (hi:IntsAre vs ns) (hl:ns.length≤sizeLine) (hr:Room k callerA)
  (F:∀base:Heap,K.In base->base.Ns mainGlobals mg->FnOk P w K mg base CX k fa fd [x] sp) (hbind:∀(s:Shared) (u:Value),BindsTo s fd ⟨[u],[]⟩ [(x,u)])
  (hsp:∀H:Hp,Ja H->SqL K H a (ns.map V.int)->sp [.ref a] H (fun v _=>v=.bl true) fun _ _ _=>False)
  (hCX:∀H e s',CX [] H s₁ (fun _ _ _=>False) e s'->False) :
  codeAny (model P w) callerA (.call (.ref fa) ⟨[.ref a],[]⟩) (fun r s'=>r=.ok (.ret (.bool true))/\OldK s₁.heap s'.heap/\s'.os=s₁.os/\AllBare s'.gens) s₁:=by
 have rv:=rL hi
 have lenV:=hi.length
 have core:∀H:Hp,Ja H->SqL K H a (ns.map V.int)->HOk P w H s₁.heap->(∀b,H b≠none->b=a)->(H a≠none->K.lookup a=none) →
   codeAny (model P w) callerA (.call (.ref fa) ⟨[.ref a],[]⟩) (fun r s'=>r=.ok (.ret (.bool true))/\OldK s₁.heap s'.heap/\s'.os=s₁.os/\AllBare s'.gens) s₁:=by
  intro H hO hS hok hA hK
  have base_of:∀{b:Addr} {o:Obj},s₁.heap.get? b=some o->H b=none->(sH s₁.heap H).get? b=some o:=fun e n=>AR e n
  have noA:∀{b:Addr} {o:Obj} {es:Array DictEntry} {ep:Nat},s₁.heap.get? b=some o->o.data=.dict es ep->H b=none:=fun {b o es ep} e d=>by
   cases q:H b with
   |none=>rfl
   |some u=>
    have e':b=a:=hA b (by rw[q];simp)
    subst e'
    rw[ha] at e;cases e
    have d':Data.seq vs.toArray _=Data.dict es ep:=d
    cases d'
  have nsK:∀{b:Addr} {m:Str->Option Value},s₁.heap.Ns b m->(sH s₁.heap H).Ns b m:=fun {b m} ⟨o,es,ep,e,d,r⟩=>⟨o,es,ep,base_of e (noA e d),d,r⟩
  have hKb:K.In (sH s₁.heap H):=fun b o e=>base_of (KX b o e) (by
   cases q:H b with
   |none=>rfl
   |some u=>
    have e':b=a:=hA b (by rw[q];simp)
    subst e'
    rw[hK (by rw[q];simp)] at e;cases e)
  have hM:Mod K mg (sH s₁.heap H):=⟨hKb,nsK hns,⟨mb,nsK hb,hbb⟩,let ⟨mc,h1,h2⟩:=hlim;⟨mc,nsK h1,h2⟩⟩
  have e0:Env0 P w K mg (sH s₁.heap H) callerA [] s₁ H:=⟨rfl,hM,fun b o e=>GL e,Nat.le_of_eq (zk _ _),trivial,fun b hb=>absurd (show b∈([]:List Addr) from hb) (by simp),hok,.of_eq hg⟩
  refine codeAny_mono ((F _ hKb (nsK hns)).run callerA [] s₁ H ⟨[.ref a],[]⟩ [.ref a] [.ref a] _ _ hr e0 (hbind s₁ (.ref a)) (.cons rfl .nil) (hsp H hO hS)) fun r s' h=>?_
  cases r with
  |error e=>exact (hCX H e s' h).elim
  |ok fl=>
   cases fl with
   |next=>exact False.elim h
   |brk=>exact False.elim h
   |cont=>exact False.elim h
   |ret u=>
    obtain⟨v,H',os,bare,un,hok',r',q⟩:=h
    have q':v=.bl true:=q
    subst q'
    obtain rfl:u=Value.bool true:=r'
    refine⟨rfl,OldK.of_keep fun b o e=>?_,os,bare⟩
    cases q:H b with
    |none=>exact un.keep b o e q (by intro z;exact absurd (show b∈([]:List Addr) from z) (by simp)) (by simp)
    |some u=>
     rcases hO b with z|⟨ob,xs,z⟩
     ·rw[q] at z;cases z
     ·have z2:=un.frzs b ob _ z
      obtain⟨e1,_⟩:=hok b _ z
      obtain⟨e2,_⟩:=hok' b _ z2
      rw[e] at e1;cases e1
      exact e2
 cases hk:K.lookup a with
 |some o=>
  have e:=KX a o hk
  rw[ha] at e
  cases e
  refine core (fun _=>none) (fun _=>.inl rfl) (.inr ⟨_,vs.toArray,_,hk,rfl,rfl,rfl,by rw[List.size_toArray,lenV];exact hl,by simpa using rv⟩) (fun b u z=>by have z':(none:Option HO)=some u:=z;cases z') (fun b z=>absurd rfl z) fun z=>absurd rfl z
 |none=>
  refine core (fun b=>if b=a then some (.frz { cls:=.type "list",data:=.seq vs.toArray } (.lst (ns.map V.int))) else none) (fun b=>?_) (.inl (.inr ⟨{ cls:=.type "list",data:=.seq vs.toArray },if_pos rfl⟩)) (fun b u z=>?_) (fun b z=>?_) fun _=>hk
  ·by_cases hb:b=a
   ·exact .inr ⟨_,_,if_pos hb⟩
   ·exact .inl (if_neg hb)
  ·by_cases hb:b=a
   ·have z':=(if_pos hb).symm.trans z
    cases z'
    subst hb
    exact⟨ha,by rw[List.length_map];exact hl,vs,_,rv,ha⟩
   ·have z':=(if_neg hb).symm.trans z
    cases z'
  ·by_cases hb:b=a
   ·exact hb
   ·exact absurd (if_neg hb) z
end L2
namespace L2
open PySem PySem.Spec PyProof.Rows
theorem Fh {l:PySem.W.OpenLaw}{n k:Nat}{q:Program}{loose:List Str}{XP:(Str->Option Value)->Heap->Prop}{YP:World->Heap->Prop}{d:DefRec}{K:Params->PySem.W.Frag}{CX:World->y7}{sp:World->Sp}{x:Str}
  (hn:l.most=some n) (hn2:n≤sizeLine) (hdf:d.params.defaults=[]) (hr:Room k callerA)
  (hY:∀(w:World) (h:Heap),YP w h->(K w.params).In h)
  (F:∀(w:World) (mg:Str->Option Value) (fa:Addr) (h:Heap),(K w.params).In h->h.Ns mainGlobals mg->mg d.name=some (.ref fa) →
   ∃fd:FuncData,(∀(s:Shared) (u:Value),BindsTo s fd ⟨[u],[]⟩ [(x,u)]) ∧
    ∀base:Heap,(K w.params).In base->base.Ns mainGlobals mg->FnOk l.prog w (K w.params) mg base (CX w) k fa fd [x] (sp w))
  (hsp:∀(w:World) (H:Hp) (a:Addr) (ns:List Int),ns.length≤n->Ja H->SqL (K w.params) H a (ns.map V.int)->sp w [.ref a] H (fun v _=>v=.bl true) fun _ _ _=>False)
  (hCX:∀(w:World) (H:Hp) (s:Shared) (e:Value) (s':Shared),CX w [] H s (fun _ _ _=>False) e s'->False) :
  PySem.W.WalkO q loose XP YP l.row.toRowW d [] (fun f vs=>PySem.call f vs):=by
 refine Att.attach_call hn hdf fun w s₀ s₁ mg mb fa o pm cd doc a vs ns G Y ho hd hcd hmg hobj hints hlen hg=>?_
 have KX:=hY w _ Y
 obtain⟨fd,hb,hF⟩:=F w mg fa _ KX G.T.g hmg
 exact Bu KX G.T.g G.T.b G.T.builtins G.T.nolimit hg hobj hints (Nat.le_trans hlen hn2) hr hF hb (fun H hO hS=>hsp w H a ns hlen hO hS) fun H e s'=>hCX w H s₁ e s'
end L2
namespace L2
open PySem PySem.Spec PyProof.Rows
noncomputable def aj (s:Stmt):Arguments:=match s with
 |.FunctionDef _ a _ _ _ _ _ _ _ _=>a
 |_=>{ posonlyargs:=[],args:=[],vararg:=none,kwonlyargs:=[],kw_defaults:=[],kwarg:=none,defaults:=[] }
noncomputable def ag (s:Stmt):List Stmt:=match s with
 |.FunctionDef _ _ b _ _ _ _ _ _ _=>b
 |_=>[]
noncomputable def ad (s:Stmt):Scope:=match s with
 |.FunctionDef _ _ _ _ _ _ sc _ _ _=>sc
 |_=>{ kind:=.function,names:=[],isGenerator:=false,isCoroutine:=false }
noncomputable abbrev vX:y7:=fun _ _ _ _ _ _=>False
noncomputable abbrev E0:XK:=fun _ _ _=>False
theorem Dt {X:Cx}:sS vX X E0:=fun _ _ _ _ _ _ _ h=>h.elim
structure Fun (K:PySem.W.Frag)(x qual:Str)(st:Stmt)(f:Addr)(fd:FuncData):Prop where
 ex:∃(oc:Value) (od:Option Addr) (kV doc pm:Value) (an:Option Addr) (cdv ct:Value) (osl:Array (Option Value)),
  fd=PySem.W.fnOf x qual (aj st) (ag st) (ad st) .none kV doc pm an cdv ct/\K.lookup f=some ⟨oc,od,.func fd,osl⟩/\PySem.W.codeIn K cdv qual=true
 kp:PySem.W.keepIn K (.ref f)=true
section
variable {P:Program}{w:World}{K:PySem.W.Frag}{mg:Str->Option Value}{base:Heap}
theorem Fun.ok {x qual:Str}{st:Stmt}{f:Addr}{fd:FuncData}{N ps:List Str}{k:Nat}{sp:Sp}(F:Fun K x qual st f fd)(S:FnScope N ps (ad st))(len:∀vs H Q E,sp vs H Q E->vs.length=ps.length)
  (hbody:∀(cdv:Value) (A:Around) (outer:List Env) (s:Shared) (H:Hp) (vs:List V) (Q:VK) (E:XK),Room k (A.deeper (envOfC qual (ad st) s.heap.objs.size f cdv))->sp vs H Q E →
   ∃t,PSs (lJ vX P w K mg base N qual (ad st) f cdv A outer s H E).nox (ag st) t/\t { nx:=fun _ H'=>Q .non H',rt:=Q } (aQ N vs) H):FnOk P w K mg base vX (k+1) f fd ps sp:=by
 obtain⟨oc,od,kV,doc,pm,an,cdv,ct,osl,rfl,lk,hcd⟩:=F.ex
 refine MG lk hcd S len fun A outer s H vs Q E hr hsp=>?_
 obtain⟨t,h,q⟩:=hbody cdv A outer s H vs Q E hr hsp
 exact⟨t,h.nox,q⟩
theorem KS {x qual:Str}{st:Stmt}{f:Addr}{oc:Value}{od an:Option Addr}{osl:Array (Option Value)}{kV doc pm cdv ct:Value}(l:K.lookup f=some ⟨oc,od,.func (PySem.W.fnOf x qual (aj st) (ag st) (ad st) .none kV doc pm an cdv ct),osl⟩)
  (c:PySem.W.codeIn K cdv qual=true) (k:PySem.W.keepIn K (.ref f)=true):Fun K x qual st f (PySem.W.fnOf x qual (aj st) (ag st) (ad st) .none kV doc pm an cdv ct):=⟨⟨oc,od,kV,doc,pm,an,cdv,ct,osl,rfl,l,c⟩,k⟩
end
theorem qK {n:Nat}(h:n≤1000):n<sizeLine:=Nat.lt_of_le_of_lt h (by decide)
section
variable {X:Cx}
theorem pv (i:Nat){x:Str}{pos:Pos}(hN:X.N[i]?=some x:=by rfl)(hv:Ij X.env.scope x:=by first|exact Or.inl rfl|exact Or.inr (Or.inl rfl)|exact Or.inr (Or.inr rfl))(hd:(x==("__debug__" : Str))=false:=by decide)
  (hcd:(x==("__classdict__" : Str))=false:=by decide):PE X (.Name x pos) (cR i):=wN hN hv hd hcd
end
noncomputable def Same (H H':Hp):Prop:=∀b o,H b=some o->H' b=some o
theorem Same.refl (H:Hp):Same H H:=fun _ _ h=>h
theorem Same.trans {H H1 H2:Hp}(a:Same H H1)(b:Same H1 H2):Same H H2:=fun c o h=>b c o (a c o h)
theorem Same.free {H H':Hp}(e:Same H H'){l:Addr}(h:H' l=Option.none):H l=Option.none:=by
 cases q:H l with
 |none=>rfl
 |some o=>
  rw[e l o q] at h
  cases h
theorem Same.seq {K:PySem.W.Frag}{H H':Hp}{a:Addr}{xs:List V}(e:Same H H')(h:SqL K H a xs):SqL K H' a xs:=by
 rcases h with (h|⟨o,h⟩)|h
 ·exact .inl (.inl (e _ _ h))
 ·exact .inl (.inr ⟨o,e _ _ h⟩)
 ·exact .inr h
end L2
set_option maxHeartbeats 4000000
section
namespace L2
open PySem PySem.Spec PyProof.Rows
section
variable {κ:Type}[DecidableEq κ]
end
theorem B0 {P:Program}{w:World}{k:jI}{u:Value}(r:RelV (kV k) u):(dv P w).is k u=true:=by
 cases k with
 |inl i=>obtain⟨t,e⟩:=(show ∃t,u=Value.int i t from r);subst e;exact vt P w i t
 |inr x=>obtain⟨t,e⟩:=(show ∃t,u=Value.str x t from r);subst e;exact gL P w x t
section
variable {X:Cx}{pins:List (Addr×Obj)}{σ:St}{H:Hp}{s:Shared}{a:Addr}{y v:V}{u r:Value}{o:Option V}{A:Around}{E:Value->Shared->Prop}
end
noncomputable def Nn (i:Expr):Prop:=∀ov iv,subscripted i false ov iv=operate [ov,iv] (getItem ov iv)
theorem Fd {prog:Program}{w:World}{A:Around}{E:Value->Shared->Prop}{s:Shared}{env:Env}{value slice:Expr}{pos:Pos}{T id:String}{Q:Value->Shared->Prop}
  (hl:typeLookup (.type T) "__getitem__" = pure (some (.builtin id))) (hs:Nn slice)
  (h:wpAny (model prog w) A (eval value env) (fun o s₁=>wpAny (model prog w) A (eval slice env) (fun i s₂=>s₂.TypeIs o T/\wpAny (model prog w) A (getItem o i) Q E s₂) E s₁) E s) :
  wpAny (model prog w) A (eval (.Subscript value slice pos) env) Q E s:=by
 refine Subscript_ (wpAny_mono h (fun o s₁ h₁=>wpAny_mono h₁ (fun i s₂ h₂=>?_) fun _ _ x=>x) fun _ _ x=>x)
 obtain⟨hT,h₂⟩:=h₂
 unfold subscriptTail
 refine wpAny_bind ?_
 rw[getitemInPython_of_ne hT.not_modules]
 refine wpAny_bind (wpAny_specialOf hT hl ?_)
 have fin:wpAny (model prog w) A (subscripted slice false o i) (fun r s₃=>wpAny (model prog w) A (letTemporaryGo value o r >>= fun _=>pure r) Q E s₃) E s₂:=by
  rw[hs o i]
  exact wpAny_operating (wpAny_mono h₂ (fun r s₃ h₃=>wpAny_bind (wpAny_letTemporaryGo (wpAny_pure h₃))) fun _ _ x=>x)
 first
  |exact wpAny_pure (wpAny_bind fin)
  |exact wpAny_bind (wpAny_pure (wpAny_bind fin))
  |exact wpAny_bind fin
structure M1 (X:Cx)(o:Expr)(m:Str)(apos:Pos)(e:Expr)(cpos:Pos):Prop where
 base:attributeBase o m X.env (eval o X.env)=eval o X.env
 few:((backTo cpos (starEach [e] X.env)).all (fun x=>!x.1)&&(backToKw cpos (keywordEach [] X.env)).all (fun x=>x.1.isSome)
  && decide (([e]:List Expr).length+([]:List Keyword).length+(if ([]:List Keyword).isEmpty then 0 else 1)<30))=true
 line:(apos.endLine==cpos.line)=true
 trees:backTo cpos (starEach [e] X.env)=[(false,eval e X.env)]
end L2
end
section
namespace L2
open PySem PySem.Spec PyProof.Rows
noncomputable def kw (cells:List (Str×Addr)):List (Str×NameKind)->List (Str×Addr)->List (Str×Addr)
 |[],acc=>acc
 |(n,k)::r,acc=>if k==.free then kw cells r ((n,(cells.lookup n).getD 0)::acc) else kw cells r acc
theorem oA {scope:Scope}{env:Env}(h:∀y∈scope.names,y.2=.free->(env.cells.lookup y.1).isSome=true):closureFor scope env=pure (kw env.cells scope.names []):=by
 unfold closureFor
 generalize scope.names=names at h ⊢
 generalize ([]:List (Str×Addr))=acc
 dsimp only
 induction names generalizing acc with
 |nil=>rfl
 |cons x r ih=>
  obtain⟨n,k⟩:=x
  have hr:=ih (fun y hy=>h y (List.mem_cons_of_mem _ hy))
  rw[List.forIn_cons]
  unfold kw
  by_cases hk:(k==NameKind.free)=true
  ·have hs:=h (n,k) List.mem_cons_self (by simpa using hk)
   obtain⟨c,hc⟩:=Option.isSome_iff_exists.mp hs
   have hc':cellOf env n=pure c:=by unfold cellOf;rw[show env.cells.lookup n=some c from hc]
   simp only[hk,if_true]
   rw[hc',show (env.cells.lookup n).getD 0=c by rw[show env.cells.lookup n=some c from hc];rfl]
   exact hr _
  ·simp only[hk]
   exact hr _
theorem mf {cells:List (Str×Addr)}{x:Str}{c:Addr}:∀{names:List (Str×NameKind)} {acc:List (Str×Addr)},(∀y∈names,y.2=.free->(cells.lookup y.1).isSome=true)->(∀x c,acc.lookup x=some c->cells.lookup x=some c) →
  (kw cells names acc).lookup x=some c->cells.lookup x=some c
 |[],_,_,ha,h=>ha x c h
 |(n,k)::r,acc,hs,ha,h=>by
  unfold kw at h
  by_cases hk:(k==NameKind.free)=true
  ·rw[if_pos hk] at h
   refine mf (fun y hy=>hs y (List.mem_cons_of_mem _ hy)) (fun z d hz=>?_) h
   obtain⟨e,he⟩:=Option.isSome_iff_exists.mp (hs (n,k) List.mem_cons_self (by simpa using hk))
   have he':cells.lookup n=some e:=he
   rw[List.lookup_cons] at hz
   cases hzn:z==n with
   |true=>
    rw[hzn] at hz
    have:z=n:=by simpa using hzn
    subst this
    rw[he'] at hz ⊢
    exact hz
   |false=>rw[hzn] at hz;exact ha z d hz
  ·rw[if_neg hk] at h
   exact mf (fun y hy=>hs y (List.mem_cons_of_mem _ hy)) ha h
theorem oO {cells:List (Str×Addr)}{x:Str}:∀{names:List (Str×NameKind)} {acc:List (Str×Addr)},(acc.lookup x).isSome=true->((kw cells names acc).lookup x).isSome=true
 |[],_,h=>h
 |(n,k)::r,acc,h=>by
  unfold kw
  split
  ·refine oO ?_
   rw[List.lookup_cons]
   split
   ·rfl
   ·exact h
  ·exact oO h
theorem ll {cells:List (Str×Addr)}{x:Str}:∀{names:List (Str×NameKind)} {acc:List (Str×Addr)},(x,NameKind.free)∈names->((kw cells names acc).lookup x).isSome=true
 |[],_,h=>nomatch h
 |(n,k)::r,acc,h=>by
  unfold kw
  rcases List.mem_cons.mp h with e|h
  ·cases e
   rw[if_pos (by rfl)]
   exact oO (by rw[List.lookup_cons];simp)
  ·split
   ·exact ll h
   ·exact ll h
noncomputable def Cx.blk (X:Cx)(scope:Scope)(N':List Str)(C:Addr)(s:Shared)(H:Hp)(ex:List Addr):Cx:=
 { X with N:=N',s₀:=s,H₀:=H,env:=compEnvC scope (kw X.env.cells scope.names []) C X.env,outer:=X.stack,ex:=ex,fn:=fun _=>false,pn:=[],xe:=fun _ _=>False }
noncomputable def cc (fm:List (Option Nat))(σ:St):St:=fm.map fun o=>o.bind fun j=>(σ[j]?).join
structure BlkOk (X:Cx)(scope:Scope)(N':List Str)(fm:List (Option Nat)):Prop where
 kind:scope.kind=.function
 nocell:∀y∈scope.names,y.2≠.cell
 names:∀y∈scope.names,y.2=.local->scope.names.lookup y.1=some .local
 free:∀y∈scope.names,y.2=.free->X.env.kindOf y.1=some .cell
 len:fm.length=N'.length
 out:∀(i j:Nat) (x:Str),fm[i]?=some (some j)->N'[i]?=some x->X.N[j]?=some x/\scope.names.lookup x=some .free/\X.env.kindOf x=some .cell
theorem BlkOk.has {X:Cx}{scope:Scope}{N':List Str}{fm:List (Option Nat)}(B:BlkOk X scope N' fm)(ok:X.Ok):∀y∈scope.names,y.2=.free->(X.env.cells.lookup y.1).isSome=true:=fun y hy e=>by
 obtain⟨c,hc⟩:=ok.has y.1 (.inl (B.free y hy e))
 rw[hc];rfl
noncomputable def lf (kind:ScopeKind)(names:List (Str×NameKind))(kindOf:Str->Option NameKind)(N N':List Str)(fm:List (Option Nat)):Bool:=
 kind==.function&&(names.all fun y=>y.2 != .cell)&&(names.all fun y=>y.2 != .local || names.lookup y.1==some .local)&&(names.all fun y=>y.2 != .free || kindOf y.1==some .cell)&&fm.length==N'.length &&
  ((fm.zip N').all fun p=>match p.1 with|none=>true|some j=>N[j]?==some p.2&&names.lookup p.2==some .free&&kindOf p.2==some .cell)
theorem Ei {X:Cx}{scope:Scope}{N':List Str}{fm:List (Option Nat)}(h:lf scope.kind scope.names X.env.kindOf X.N N' fm=true):BlkOk X scope N' fm:=by
 unfold lf at h
 simp only[Bool.and_eq_true,beq_iff_eq,List.all_eq_true,Bool.or_eq_true,bne_iff_ne,ne_eq] at h
 obtain⟨⟨⟨⟨⟨h1,h2⟩,h3⟩,h4⟩,h5⟩,h6⟩:=h
 refine⟨h1,h2,fun y hy e=>(h3 y hy).resolve_left fun z=>z e,fun y hy e=>(h4 y hy).resolve_left fun z=>z e,h5,fun i j x e1 e2=>?_⟩
 have hm:(some j,x)∈fm.zip N':=by
  refine List.mem_of_getElem? (i:=i) ?_
  rw[List.getElem?_zip_eq_some]
  exact⟨e1,e2⟩
 have z:=h6 _ hm
 simp only[Bool.and_eq_true,beq_iff_eq] at z
 exact⟨z.1.1,z.1.2,z.2⟩
theorem fI {env:Env}:∀{names:List (Str×NameKind)} {x:Str} {k:NameKind},(names.map fun (n,k)=>if (k==NameKind.free&&env.scope.kind==.function&&env.kindOf n==some .cell) then (n,NameKind.cell) else (n,k)).lookup x=some k →
  (k=.cell/\env.kindOf x=some .cell/\(x,NameKind.free)∈names)\/(x,k)∈names
 |[],_,_,h=>by simp at h
 |(n,k0)::r,x,k,h=>by
  rw[List.map_cons] at h
  by_cases hc:(k0==NameKind.free&&env.scope.kind==.function&&env.kindOf n==some .cell)=true
  ·dsimp only at h
   rw[if_pos hc,List.lookup_cons] at h
   cases hx:x==n with
   |true=>
    rw[hx] at h
    have e:x=n:=by simpa using hx
    subst e
    cases h
    simp only[Bool.and_eq_true,beq_iff_eq] at hc
    exact .inl ⟨rfl,hc.2,by rw[←hc.1.1];exact List.mem_cons_self⟩
   |false=>
    rw[hx] at h
    rcases fI h with ⟨a,b,c⟩|c
    ·exact .inl ⟨a,b,List.mem_cons_of_mem _ c⟩
    ·exact .inr (List.mem_cons_of_mem _ c)
  ·dsimp only at h
   rw[if_neg hc,List.lookup_cons] at h
   cases hx:x==n with
   |true=>
    rw[hx] at h
    have e:x=n:=by simpa using hx
    subst e
    cases h
    exact .inr List.mem_cons_self
   |false=>
    rw[hx] at h
    rcases fI h with ⟨a,b,c⟩|c
    ·exact .inl ⟨a,b,List.mem_cons_of_mem _ c⟩
    ·exact .inr (List.mem_cons_of_mem _ c)
theorem g7 {env:Env}(hk:env.scope.kind=.function):∀{names:List (Str×NameKind)} {x:Str},names.lookup x=some .free->env.kindOf x=some .cell →
  (names.map fun (n,k)=>if (k==NameKind.free&&env.scope.kind==.function&&env.kindOf n==some .cell) then (n,NameKind.cell) else (n,k)).lookup x=some .cell
 |[],_,h,_=>by simp at h
 |(n,k)::r,x,h,hc=>by
  rw[List.map_cons]
  dsimp only
  cases hx:x==n with
  |true=>
   rw[List.lookup_cons,hx] at h
   cases h
   have e:x=n:=by simpa using hx
   subst e
   rw[hc,hk,if_pos (by rfl),List.lookup_cons,hx]
  |false=>
   rw[List.lookup_cons,hx] at h
   have ih:=g7 hk h hc
   split
   ·rw[List.lookup_cons,hx];exact ih
   ·rw[List.lookup_cons,hx];exact ih
section
variable {X:Cx}{scope:Scope}{N':List Str}{fm:List (Option Nat)}{pins:List (Addr×Obj)}{σ:St}{H:Hp}{s:Shared}
theorem Jv (B:BlkOk X scope N' fm)(I:Inv X pins σ H s){C:Addr}{ex:List Addr}(hC:s.heap.objs.size≤C)(hex:∀b∈ex,lG X pins H b)(hlt:∀b∈ex,b<s.heap.objs.size):(X.blk scope N' C s H ex).Ok:=by
 have sub:∀x c,(kw X.env.cells scope.names []).lookup x=some c->X.env.cells.lookup x=some c:=fun x c h=>mf (B.has I.ok) (fun _ _ z=>by simp at z) h
 refine⟨I.ok.mod,?_,I.ok.glob,I.ok.blt,hC,fun x y c h1 h2=>I.ok.inj x y c (sub x c h1) (sub y c h2),fun x hx=>?_,fun x c h _=>(Bool.false_ne_true h).elim,I.ok.hd,I.ok.frames,.inl rfl,fun b hb=>⟨?_,fun x c h=>(hex b hb).2.2.2.2.1 x c (sub x c h)⟩,I.bs,?_,fun b o e hb=>?_,fun b hb hf=>?_,I.stack,I.stkFree⟩
 ·show (relabel scope X.env).kind=.function
  exact B.kind
 ·have hx':(relabel scope X.env).names.lookup x=some .cell\/(relabel scope X.env).names.lookup x=some .free:=hx
  have mem:(x,NameKind.free)∈scope.names:=by
   rcases hx' with h|h
   ·rcases fI h with ⟨_,_,z⟩|z
    ·exact z
    ·exact absurd rfl (B.nocell _ z)
   ·rcases fI h with ⟨z,_,_⟩|z
    ·cases z
    ·exact z
  exact Option.isSome_iff_exists.mp (ll (cells:=X.env.cells) (acc:=[]) mem)
 ·exact Nat.ne_of_lt (Nat.lt_of_lt_of_le (hlt b hb) hC)
 ·exact Nat.le_trans I.ok.bsz I.sz
 ·have hb':b∈ex:=hb
  rcases (hex b hb').2.2.2.1 with z|z
  ·exact I.ok.noex b o e z
  ·exact absurd (Nat.lt_of_lt_of_le (Heap.lt_size (I.ok.bs b o e).1) z) (Nat.lt_irrefl _)
 ·have hb':b∈ex:=hb
  have hf':b∈wR X.stack:=hf
  rcases List.mem_cons.mp (I.stkSub b hf') with z|z
  ·exact (hex b hb').2.1 z
  ·exact (hex b hb').2.2.1 z
theorem uJ {fm:List (Option Nat)}{σ:St}{i:Nat}{v:V}(h:(cc fm σ)[i]?=some (some v)):∃j,fm[i]?=some (some j)/\σ[j]?=some (some v):=by
 unfold cc at h
 rw[List.getElem?_map] at h
 cases e:fm[i]? with
 |none=>rw[e] at h;cases h
 |some o=>
  rw[e] at h
  cases o with
  |none=>cases h
  |some j=>
   refine⟨j,rfl,?_⟩
   have h':some ((σ[j]?).join)=some (some v):=h
   cases e2:σ[j]? with
   |none=>rw[e2] at h';cases h'
   |some w=>rw[e2] at h';exact congrArg some (Option.some.inj h')
theorem G6 (B:BlkOk X scope N' fm)(I:Inv X pins σ H s){C:Addr}{ex:List Addr}{h1:Heap}{tk:Nat}{m:Str->Option Value}(hC:s.heap.objs.size≤C)(hex:∀b∈ex,lG X pins H b)(hlt:∀b∈ex,b<s.heap.objs.size)
  (hn:h1.Ns C m) (old:∀b o,s.heap.get? b=some o->h1.get? b=some o):Inv (X.blk scope N' C s H ex) [] (cc fm σ) H { s with heap:=h1,toks:=tk }:=by
 have sub:∀x c,(kw X.env.cells scope.names []).lookup x=some c->X.env.cells.lookup x=some c:=fun x c h=>mf (B.has I.ok) (fun _ _ z=>by simp at z) h
 refine⟨Jv B I hC hex hlt,rfl,I.bare,Un.kept old,⟨m,hn,fun i x v hi hσ hv=>?_⟩,fun x c h=>?_,I.hok.fresh hC,fun x c h=>I.freeC x c (sub x c h),fun p hp=>absurd (show p∈([]:List (Addr×Obj)) from hp) (by simp),I.hok.kept old,?_⟩
 ·obtain⟨j,ej,es⟩:=uJ hσ
  obtain⟨hN,hf,hk⟩:=B.out i j x ej hi
  obtain⟨m0,_,hl⟩:=I.loc
  obtain⟨u,r,l⟩:=hl j x v hN es (.inr (.inl hk))
  refine⟨u,r,.inr ⟨.inl (g7 I.ok.kind hf hk),?_⟩⟩
  rcases l with ⟨z,_⟩|⟨_,c,hc,z⟩
  ·rw[hk] at z;cases z
  ·obtain⟨c',hc'⟩:=Option.isSome_iff_exists.mp (ll (cells:=X.env.cells) (acc:=[]) (PySem.mem_of_lookup hf))
   have e:=sub x c' hc'
   rw[hc] at e
   cases e
   exact⟨c,hc',z.keeps old⟩
 ·obtain⟨v,z⟩:=I.cell x c (sub x c h)
  exact⟨v,z.keeps old⟩
 ·show (cc fm σ).length=N'.length
  unfold cc
  rw[List.length_map]
  exact B.len
end
noncomputable def PIf (X:Cx)(ifs:List Expr)(t:TT):Prop:=
 ∀(pins:List (Addr×Obj)) (s:Shared) (σ:St) (H:Hp) (Q:Bool->Hp->Prop),Inv X pins σ H s->t σ H Q →
  wpAny (model X.prog X.w) X.A (forIn ifs true fun c r=>if r=true then do let ok ←isTrue c X.env (eval c X.env);pure (ForInStep.yield ok) else pure (ForInStep.yield r)) (TP X pins σ Q) X.xe s
noncomputable def fO:TT:=fun _ H Q=>Q true H
theorem EG {X:Cx}:PIf X [] fO:=fun _ s _ H _ I h=>wpAny_tests_nil ⟨H,I,h⟩
theorem GN {X:Cx}{c:Expr}{t:TT}(hc:PT X c t):PIf X [c] t:=fun pins s σ H Q I h=>wpAny_tests_one (hc pins s σ H Q I h)
theorem jN {prog:Program}{w:World}{A:Around}{R:Result->Shared->Prop}{s:Shared}{elt target iter:Expr}{ifs:List Expr}{scope:Scope}{pos:Pos}{it acc:Value}{env:Env}(I:Nat->Shared->Prop)
  (turn:∀n s,I n s->wpAny (model prog w) A (pyNext it) (fun r s₁=>match r with
   |none=>R (.ok .next) s₁
   |some v=>wpAny (model prog w) A (letOwnedTupleGo target it v) (fun _ s₁=>wpAny (model prog w) A (assign target env v) (fun _ s₂=>
     wpAny (model prog w) A (forIn ifs true fun c r=>if r=true then do let ok ←isTrue c env (eval c env);pure (ForInStep.yield ok) else pure (ForInStep.yield r)) (fun ok s₃=>
      if ok=true then wpAny (model prog w) A (eval elt env) (fun x s₄=>
       wpAny (model prog w) A (call (.builtin "list.append") [acc,x]) (fun _ s₅=>∃m,m<n/\I m s₅) (fun _ _=>False) s₄) (fun _ _=>False) s₃
      else ∃m,m<n/\I m s₃) (fun _ _=>False) s₂) (fun _ _=>False) s₁) (fun _ _=>False) s₁) (fun _ _=>False) s)
  (n:Nat) (h:I n s) :
  codeAny (model prog w) A (.compLoop (.ListComp elt [⟨target,iter,ifs,0⟩] scope pos) 0 it acc env) R s:=by
 refine codeAny_loop rfl I (fun n s hI=>?_) n h
 show wpAny _ A ((compTurn (.ListComp elt [⟨target,iter,ifs,0⟩] scope pos) 0 it acc env).onRaise (fun x=>do noteFrame x env;theTreesLotGoes x)) _ _ s
 refine wpAny_noted ?_
 rw[compTurn_list]
 refine wpAny_bind (wpAny_standAt (wpAny_bind (wpAny_mono (turn n s hI) (fun r s₁ h₁=>?_) fun _ _ h'=>h'.elim)))
 cases r with
 |none=>exact wpAny_pure h₁
 |some v=>
  refine wpAny_bind (wpAny_mono h₁ (fun _ s₁ h₁=>?_) fun _ _ h'=>h'.elim)
  refine wpAny_bind (wpAny_mono h₁ (fun _ s₂ h₂=>wpAny_bind (wpAny_mono h₂ (fun ok s₃ h₃=>?_) fun _ _ h'=>h'.elim)) fun _ _ h'=>h'.elim)
  cases ok with
  |false=>exact wpAny_pure ⟨rfl,h₃⟩
  |true=>
   exact wpAny_bind (wpAny_bind (wpAny_mono h₃ (fun x s₄ h₄=>wpAny_bind (wpAny_mono h₄ (fun _ s₅ h₅=>wpAny_pure (wpAny_pure ⟨rfl,h₅⟩)) fun _ _ h'=>h'.elim)) fun _ _ h'=>h'.elim))
noncomputable def Ej (fm:List (Option Nat))(g:TG)(tc:TT)(te:TE)(σ:St)(J:It)(H1:Hp)(Q:List V->Hp->Prop):Prop:=
 ∃(W:Nat->List V->Hp->Prop) (n:Nat),W 0 [] H1/\(∀i ys H,W i ys H->i≤n/\ys.length<sizeLine)/\∀i ys H,W i ys H →
  (J.stop i H/\Q ys H)\/(J.go i H/\∀x H',J.yld i H x H'->g x (cc fm σ) H' fun σ2 H2=>tc σ2 H2 fun b H3=>if b=true then te σ2 H3 fun y H4=>W (i+1) (ys++[y]) H4 else W (i+1) ys H3)
noncomputable def i5 (fm:List (Option Nat))(wi:TI)(g:TG)(tc:TT)(te:TE):TE:=fun σ H Q=>wi σ H fun J H1=>Ej fm g tc te σ J H1 fun ys H2=>∀l,H2 l=none->Q (.ref l) (upd H2 l (.lst ys))
noncomputable def rA (fm:List (Option Nat))(g:TG):Prop:=∀x σ H N,g x σ H N->g x σ H fun σ' H'=>N σ' H'/\σ'.length=σ.length/\∀(i j:Nat),fm[i]?=some (some j)->σ'[i]?=σ[i]?
end L2
end
section
namespace L2
open PySem PySem.Spec PyProof.Rows
section
variable {X:Cx}{scope:Scope}{N':List Str}{fm:List (Option Nat)}{pins:List (Addr×Obj)}{σ:St}{H:Hp}{s:Shared}{tg iter elt:Expr}{ifs:List Expr}{pos:Pos}{g:TG}{tc:TT}{te:TE}
theorem oz (B:BlkOk X scope N' fm)(hc:X.calm=true)(hg:∀C s H ex,PG (X.blk scope N' C s H ex) tg g)(hk:rA fm g)(ht:∀C s H ex,PIf (X.blk scope N' C s H ex) ifs tc)(he:∀C s H ex,PE (X.blk scope N' C s H ex) elt te)
  (I:Inv X pins σ H s) {it:Addr} {fp:List Addr} {tn:Nat->Heap->Prop} {J:It} (T:Turn X.prog X.w X.K tg J fp it tn) (st:tn 0 s.heap) (hf:∀b∈fp,lG X pins H b) {Qf:List V->Hp->Prop} (q:Ej fm g tc te σ J H Qf)
  {RR:Value->Addr->Result->Shared->Prop} {E:Value->Shared->Prop}
  (hRR:∀D C H' ys s',Inv X pins σ (upd H' D (.lst ys)) s'->H' D=none->Qf ys H'->lG X pins (upd H' D (.lst ys)) C->(∃m,s'.heap.Ns C m)->RR (.ref D) C (.ok .next) s') :
  wpAny (model X.prog X.w) X.A (newList []) (fun acc s₃=>wpAny (model X.prog X.w) X.A (newFunctionEnv scope X.env.globals (kw X.env.cells scope.names []) [] X.env.qual none .none (some X.env)) (fun cenv s₄=>
   codeAny (model X.prog X.w) X.A (.compStart (.ListComp elt [⟨tg,iter,ifs,0⟩] scope pos) 0 (.ref it) acc { cenv with scope:=relabel scope X.env }) (RR acc cenv.locals) s₄) E s₃) E s:=by
 refine wpAny_newObj_type (wpAny_newFunctionEnv B.nocell (by intro y hy;simp at hy) (fun h₁ hns₁ hsb₁=>?_) B.kind)
 dsimp only at hns₁ hsb₁ ⊢
 generalize hH2:s.heap.push { cls:=.type "list",dict:=none,data:=.seq ([]:List Value).toArray }=H2 at hns₁ hsb₁ ⊢
 have hC:H2.objs.size=s.heap.objs.size+1:=by rw[←hH2,Heap.size_push]
 generalize hCC:H2.objs.size=C at hns₁ hsb₁ hC ⊢
 generalize hDD:s.heap.objs.size=D at hC ⊢
 have hDC:D≠C:=by omega
 have hCle:s.heap.objs.size≤C:=by omega
 have lt:∀(b:Nat) (o:Obj),s.heap.get? b=some o->b<D:=fun b o e=>by rw[←hDD];exact Heap.lt_size e
 have old:∀b o,s.heap.get? b=some o->h₁.get? b=some o:=fun b o e=>hsb₁.extBut b o (Nat.ne_of_lt (Nat.lt_trans (lt b o e) (by rw[hC];exact Nat.lt_succ_self _))) (Heap.get?_push_of_some _ (hH2▸Heap.get?_push_of_some _ e))
 have hacc:h₁.PlainList D #[]:=⟨_,hsb₁.extBut _ _ hDC (Heap.get?_push_of_some _ (by rw[←hH2,←hDD];exact Heap.get?_push_size _ rfl))⟩
 have hlt:∀b∈fp,b<s.heap.objs.size:=fun b hb=>by
  obtain⟨o,e,_⟩:=T.obj 0 s.heap st b hb
  exact Heap.lt_size e
 have hDf:D∉fp:=fun hm=>by have z:=hlt _ hm;rw[hDD] at z;exact Nat.lt_irrefl D z
 have st1:tn 0 h₁:=T.keep 0 _ _ st fun b _ o e=>old b o e
 obtain⟨W,n0,w0,hb,turn⟩:=q
 have sub:∀x c,(kw X.env.cells scope.names []).lookup x=some c->X.env.cells.lookup x=some c:=fun x c h=>mf (B.has I.ok) (fun _ _ z=>by simp at z) h
 have I1:∀tk,Inv (X.blk scope N' C s H fp) [] (cc fm σ) H { s with heap:=h₁,toks:=tk }:=fun tk=>G6 B I hCle hf hlt hns₁ old
 have hDfs:D∉wR X.stack:=fun hm=>by
  obtain⟨_,o,e,_⟩:=I.stack.mem hm
  exact Nat.lt_irrefl D (lt D o e)
 have stat:∀{H':Hp} {oD:Obj},(∀b∈fp,H' b=none)->∀b∈fp,lG (X.blk scope N' C s H fp) [(D,oD)] H' b:=fun {H' oD} hn b hb=>by
  have l:=hlt b hb
  obtain⟨f0,f1,f2,f3,f4,f5⟩:=hf b hb
  refine⟨hn b hb,fun z=>?_,fun z=>?_,.inl hb,fun x c h=>f4 x c (sub x c h),fun p hp z=>?_⟩
  ·have z':b=C:=z
   exact Nat.lt_irrefl C (by rw[←z'] at hCle ⊢;exact Nat.lt_of_lt_of_le l hCle)
  ·rcases List.mem_cons.mp (I.stkSub b z) with y|y
   ·exact f1 y
   ·exact f2 y
  ·have e:p=(D,oD):=by simpa [Cx.blk] using hp
   subst e
   have z':D=b:=z
   exact hDf (z'▸hb)
 have loop:∀tk,codeAny (model X.prog X.w) X.A (.compLoop (.ListComp elt [⟨tg,iter,ifs,0⟩] scope pos) 0 (.ref it) (.ref D) (compEnvC scope (kw X.env.cells scope.names []) C X.env)) (RR (.ref D) C) { s with heap:=h₁,toks:=tk }:=by
  intro tk
  refine jN (fun n s'=>∃i ys its H',n=n0+1 - i/\Inv (X.blk scope N' C s H fp) [] (cc fm σ) H' s'/\tn i s'.heap/\(∀b∈fp,H' b=none)/\Vals ys its/\s'.heap.PlainList D its.toArray/\H' D=none/\W i ys H') ?_ (n0+1)
   ⟨0,[],[],H,rfl,I1 tk,st1,fun b hb=>(hf b hb).1,.nil,hacc,I.hok.fresh (by omega),w0⟩
  rintro n s3 ⟨i,ys,its,H3,rfl,I3,st3,fr3,rv,⟨nn,hd⟩,hD,w3⟩
  obtain⟨hi,hys⟩:=hb i ys H3 w3
  have I3':Inv (X.blk scope N' C s H fp) [(D,{ cls:=.type "list",data:=.seq its.toArray nn })] (cc fm σ) H3 s3:=I3.pins_of fun p hp=>by
   have e:p=(D,{ cls:=.type "list",data:=.seq its.toArray nn }):=by simpa using hp
   subst e
   exact⟨hd,hD,hDC,hDfs,fun v z=>by cases z⟩
  rcases turn i ys H3 w3 with ⟨stop,qf⟩|⟨go,step⟩
  ·refine bL (T.done (X.blk scope N' C s H fp) rfl rfl rfl hc i _ s3 _ H3 _ I3' (stat fr3) st3 stop) fun r s4 ⟨hr,I4⟩=>?_
   subst hr
   have hd4:=(I4.pin (D,{ cls:=.type "list",data:=.seq its.toArray nn }) (by simp)).1
   have ne:∀b o,H3 b=some o->b≠D:=fun b o e z=>by subst z;rw[hD] at e;cases e
   have U:Un (wR X.stack) fp H H3 s.heap s4.heap:=I4.base
   have U':Un (wR X.stack) fp H (upd H3 D (.lst ys)) s.heap s4.heap:=⟨U.keep,U.slot,fun b o e n hx=>by rw[au (Nat.ne_of_lt (lt b o e))];exact U.free b o e n hx,U.there,
    fun b xs e=>by have z:=U.tups b xs e;rw[au (ne b _ z)];exact z,fun b o u e=>by have z:=U.frzs b o u e;rw[au (ne b _ z)];exact z,
    fun b ps e=>by obtain⟨more,z⟩:=U.tbls b ps e;exact⟨more,by rw[au (ne b _ z)];exact z⟩⟩
   have hok:HOk X.prog X.w (upd H3 D (.lst ys)) s4.heap:=fun b o e=>by
    by_cases hbD:b=D
    ·subst hbD
     rw[af] at e
     cases e
     exact⟨Nat.le_of_lt hys,its,nn,rv,hd4⟩
    ·rw[au hbD] at e
     exact (show ObjOk X.prog X.w H3 s4.heap b o from I4.hok b o e).stay (fun _ _ _ z=>z) (fun c z=>by rw[au (ne c _ z)];exact z) fun c xs z=>by rw[au (ne c _ z)];exact z
   have I5:Inv X pins σ (upd H3 D (.lst ys)) s4:=I.call' (I4.os) U' hok I4.bare fun b hb=>by
    obtain⟨f0,f1,f2,f3,f4,f5⟩:=hf b hb
    exact⟨f3,f1,f4,f5⟩
   obtain⟨m4,hn4,_⟩:=I4.loc
   exact hRR D C H3 ys s4 I5 hD qf (I.fpOk hCle (by rw[au (Ne.symm hDC)];exact I4.free)) ⟨m4,hn4⟩
  ·refine bL (T.item (X.blk scope N' C s H fp) rfl rfl rfl hc i _ s3 _ H3 _ I3' (stat fr3) st3 go) fun r s4 ⟨u,hr,h4⟩=>?_
   subst hr
   refine bL h4 fun _ s5 ⟨x,H5,I5,r5,y5,st5,fr5⟩=>?_
   have I5':=I5.pinned (stat fr5) (T.obj _ _ st5)
   refine bL (hg C s H fp _ s5 _ H5 x u _ I5' r5 (hk _ _ _ _ (step x H5 y5))) fun _ s6 ⟨σ6,H6,I6,q6,l6,k6⟩=>?_
   have back:∀{H7:Hp} {s7:Shared} {P7:List (Addr×Obj)},Inv (X.blk scope N' C s H fp) P7 σ6 H7 s7->Inv (X.blk scope N' C s H fp) [] (cc fm σ) H7 s7:=fun {H7 s7 P7} I7=>(I7.weak l6.symm fun a v e=>by
     obtain⟨j,ej,_⟩:=uJ e
     rw[k6 a j ej];exact e).pins_of fun p hp=>nomatch hp
   have still:∀{H7:Hp} {s7:Shared},Inv (X.blk scope N' C s H fp) ([(D,{ cls:=.type "list",data:=.seq its.toArray nn })]++o3 fp s5.heap) σ6 H7 s7->tn (i+1) s7.heap/\(∀b∈fp,H7 b=none)/\s7.heap.get? D=some { cls:=.type "list",data:=.seq its.toArray nn }/\H7 D=none:=fun {H7 s7} I7=>by
    refine⟨T.keep _ _ _ st5 fun b hb o e=>(I7.pin (b,o) (List.mem_append_right _ (List.mem_append_right _ (jw hb e)))).1,fun b hb=>?_,?_,?_⟩
    ·obtain⟨o,e,d⟩:=T.obj _ _ st5 b hb
     exact (I7.pin (b,o) (List.mem_append_right _ (List.mem_append_right _ (jw hb e)))).2.1
    ·exact (I7.pin (D,_) (List.mem_append_right _ (List.mem_append_left _ (List.mem_singleton.mpr rfl)))).1
    ·exact (I7.pin (D,{ cls:=.type "list",data:=.seq its.toArray nn }) (List.mem_append_right _ (List.mem_append_left _ (List.mem_singleton.mpr rfl)))).2.1
   refine bL (ht C s H fp _ s6 σ6 H6 _ I6 q6) fun ok s7 ⟨H7,I7,q7⟩=>?_
   cases ok with
   |false=>
    rw[if_neg Bool.false_ne_true] at q7 ⊢
    obtain⟨a1,a2,a3,a4⟩:=still I7
    exact⟨n0+1 - (i+1),by omega,i+1,ys,its,H7,rfl,back I7,a1,a2,rv,⟨nn,a3⟩,a4,q7⟩
   |true=>
    rw[if_pos rfl] at q7 ⊢
    refine bL (he C s H fp _ s7 σ6 H7 _ I7 q7) fun y s8 ⟨v8,H8,I8,r8,w8⟩=>?_
    obtain⟨a1,a2,a3,a4⟩:=still I8
    have hsz:its.toArray.size≤sizeLine:=by
     have:=rv.length
     rw[List.size_toArray]
     omega
    refine wpAny_list_append_plain (hsz:=hsz) ⟨nn,a3⟩ fun h9 hl9 sb9=>?_
    have I8':=back I8
    have I9:Inv (X.blk scope N' C s H fp) [] (cc fm σ) H8 { s8 with heap:=h9 }:=I8'.turned (t':=s8.toks) (fun b o hb e=>(sb9.2 b hb).trans e) a4 hDC (.inr (by show s.heap.objs.size≤D;omega)) (fun x c h z=>by
      obtain⟨v,o,ho,hdd⟩:=I8'.cell x c h
      rw[z,a3] at ho
      cases ho
      cases hdd) fun p hp=>nomatch hp
    refine⟨n0+1 - (i+1),by omega,i+1,ys++[v8],its++[y],H8,rfl,I9,T.keep _ _ _ a1 fun b hb o e=>(sb9.2 b (fun z=>hDf (z▸hb))).trans e,a2,Vals.append rv (.cons r8 .nil),?_,a4,w8⟩
    have e:its.toArray.push y=(its++[y]).toArray:=by simp
    rw[←e]
    exact hl9
 refine codeAny_compStart_list (loop _) (T.self _ 0 _ _ _ st1 (loop _))
end
end L2
end
section
namespace L2
open PySem PySem.Spec PyProof.Rows
section
variable {X:Cx}{scope:Scope}{N':List Str}{fm:List (Option Nat)}{tg iter elt:Expr}{ifs:List Expr}{pos spos px:Pos}{g:TG}{tc:TT}{te:TE}{wi:TI}
theorem G7 (B:BlkOk X scope N' fm)(hc:X.calm=true)(hi:PI X tg iter wi)(hg:∀C s H ex,PG (X.blk scope N' C s H ex) tg g)(hk:rA fm g)(ht:∀C s H ex,PIf (X.blk scope N' C s H ex) ifs tc)(he:∀C s H ex,PE (X.blk scope N' C s H ex) elt te)
  (hs:∀x,foldedSetIterable iter X.env x=pure x:=by intro _;rfl):PE X (.ListComp elt [⟨tg,iter,ifs,0⟩] scope pos) (i5 fm wi g tc te):=by
 intro pins s σ H Q I h
 rw[eval_ListComp]
 refine wpAny_comprehension_free (use:=none) rfl hs (oA (B.has I.ok)) B.kind B.names (bL (hi pins s σ H _ I h) fun v s1 h1=>bL h1 fun itv s2 h2=>?_)
 obtain⟨it,fp,tn,J,H2,e,I2,T,AK,f2,q⟩:=h2
 subst e
 refine oz B hc hg hk ht he I2 T AK f2 q (RR:=fun acc C=>compPost (model X.prog X.w) X.A X.xe none (EP X pins σ Q) acc C) fun D C H' ys s' I' hD qf fC ⟨m,hn⟩=>?_
 refine⟨m,hn,fun h' sb=>⟨.ref D,upd H' D (.lst ys),?_,rfl,qf D hD⟩⟩
 obtain⟨f0,f1,f2,f3,f4,f5⟩:=fC
 exact I'.turned (t':=s'.toks) (fun b o hb e=>sb.extBut b o hb e) f0 f1 f3 f4 f5
theorem xl {i:Nat}{x:Str}(hN:X.N.Nodup)(hi':X.N[i]?=some x)(hx:X.env.kindOf x=some .local)(B:BlkOk X scope N' fm)(hc:X.calm=true)(hi:PI X tg iter wi)(hg:∀C s H ex,PG (X.blk scope N' C s H ex) tg g)(hk:rA fm g)
  (ht:∀C s H ex,PIf (X.blk scope N' C s H ex) ifs tc) (he:∀C s H ex,PE (X.blk scope N' C s H ex) elt te) (hsw:swapsWith (.ListComp elt [⟨tg,iter,ifs,0⟩] scope pos) (some (.Name x px)) spos.line X.env=pure true:=by rfl)
  (hs:∀x,foldedSetIterable iter X.env x=pure x:=by intro _;rfl):PS X (.Assign [.Name x px] (.ListComp elt [⟨tg,iter,ifs,0⟩] scope pos) spos) (cv (i5 fm wi g tc te) (aO i)):=by
 intro pins s σ H D I h
 rw[exec_Assign_Name_used _ _ _ _ hsw]
 refine wpAny_bind (wpAny_standAt (wpAny_bind ?_))
 show wpAny _ X.A (do let _ ←comprehension (.ListComp elt [⟨tg,iter,ifs,0⟩] scope pos) scope X.env _ (newList []) false (eval iter X.env) (some (assign (.Name x px) X.env))) _ _ s
 refine wpAny_bind (bL (wpAny_comprehension_free (use:=some (assign (.Name x px) X.env)) (Q:=fun _ s'=>SP X pins D .next s') rfl hs (oA (B.has I.ok)) B.kind B.names (bL (hi pins s σ H _ I h) fun v s1 h1=>bL h1 fun itv s2 h2=>?_)) fun _ s' q=>wpAny_pure (wpAny_pure q))
 obtain⟨it,fp,tn,J,H2,e,I2,T,AK,f2,q⟩:=h2
 subst e
 refine oz B hc hg hk ht he I2 T AK f2 q (RR:=fun acc C=>compPost (model X.prog X.w) X.A X.xe (some (assign (.Name x px) X.env)) (fun _ s'=>SP X pins D .next s') acc C) fun D' C H' ys s' I' hD qf fC ⟨m,hn⟩=>?_
 obtain⟨f0,f1,f2,f3,f4,f5⟩:=fC
 show wpAny (model X.prog X.w) X.A (assign (.Name x px) X.env (.ref D')) _ X.xe s'
 refine wpAny_assign_Name (rb I' hN hi' (.inl hx) (v:=.ref D') rfl (fun s2 I2 ⟨a,sb,ha⟩=>?_) (.inr hx))
 have hCa:C≠a:=by
  rcases ha with z|z
  ·rw[z];exact f1
  ·exact fun e=>f4 x a z e.symm
 refine⟨m,hn.sameBut sb hCa,fun h' sb'=>⟨_,upd H' D' (.lst ys),I2.turned (t':=s2.toks) (fun b o hb e=>sb'.extBut b o hb e) f0 f1 f3 f4 f5,qf D' hD⟩⟩
end
theorem mW {X:Cx}:d7 X (.builtin "isinstance") (fun xs H Q=>∃x n t b,xs=[x,.ty n]/\TyOf X.K H x t/\PySem.W.kitOne X.K t (.type n)=some b/\Q (.bl b) H):=by
 intro pins s σ H xs us Q I r h
 obtain⟨x,n,t,b,rfl,ty,e,q⟩:=h
 cases r with
 |cons r1 r2=>
  cases r2 with
  |cons r2 r3=>
   cases r3
   cases (show _=Value.type n from r2)
   exact zI I r1 ty e fun tk=>⟨.bl b,H,I.tok tk,rfl,q⟩
theorem Bd {bs:List Bool}{its:List Value}(r:Vals (bs.map V.bl) its){i:Nat}{v:Value}(h:its[i]?=some v):v=Value.bool (bs.getD i false):=by
 have hl:=r.length
 have hi:i<its.length:=(List.getElem?_eq_some_iff.mp h).1
 rw[List.length_map] at hl
 have hb:i<bs.length:=by omega
 obtain⟨u,e1,e2⟩:=r.get (i:=i) (x:=V.bl bs[i]) (by rw[List.getElem?_map,List.getElem?_eq_getElem hb]<;>rfl)
 rw[h] at e1
 cases e1
 have e2':v=Value.bool bs[i]:=e2
 rw[e2',List.getD_eq_getElem?_getD,List.getElem?_eq_getElem hb]<;>rfl
theorem zt {bs:List Bool}:(List.range bs.length).all (fun i=>bs.getD i false)=bs.all id:=by
 induction bs with
 |nil=>rfl
 |cons b r ih=>
  rw[List.length_cons,List.range_succ_eq_map,List.all_cons,List.all_map,List.all_cons,←ih]<;>rfl
theorem zZ {bs:List Bool}:(List.range bs.length).any (fun i=>bs.getD i false)=bs.any id:=by
 induction bs with
 |nil=>rfl
 |cons b r ih=>
  rw[List.length_cons,List.range_succ_eq_map,List.any_cons,List.any_map,List.any_cons,←ih]<;>rfl
end L2
end
section
namespace L2
open PySem PySem.Spec PyProof.Rows
theorem mh {h:Heap}{a:Addr}{o:Obj}(e:h.get? a=some o):a≠h.objs.size:=Nat.ne_of_lt (Heap.lt_size e)
theorem AY {X:Cx}(hc:X.calm=true):d7 X (.builtin "all") (fun xs H Q=>∃(p:Addr) (bs:List Bool),xs=[.ref p]/\SqL X.K H p (bs.map V.bl)/\Q (.bl (bs.all id)) H):=by
 intro pins s σ H xs us Q I r h
 obtain⟨p,bs,rfl,hq,q⟩:=h
 obtain⟨u,rfl,rx⟩:=gX r
 cases rx
 obtain⟨its,rv,pl,hz⟩:=I.list hq
 have hl:its.length=bs.length:=by rw[←rv.length,List.length_map]
 refine call_all_walk (wpAny_pyIter_list pl.isList ?_)
 obtain⟨o,ho,hrest⟩:=id pl.isList
 have hne:p≠s.heap.objs.size:=mh ho
 refine⟨s.heap.objs.size,_,_,_,_,_,fun i=>bs.getD i false,rfl,Walks.list (A:=X.A.in1) (I.ok.hd hc) s.heap.objs.size p hne its.toArray,⟨⟨_,Heap.get?_push_size _ rfl,rfl,rfl⟩,⟨o,Heap.get?_push_of_some _ ho,hrest⟩⟩,fun i v s' Q' E' hP hQ=>?_,fun h' tk hk=>?_⟩
 ·have e:v=Value.bool (bs.getD i false):=Bd rv (by simpa using hP)
  subst e
  exact wpAny_truthy_bool hQ
 ·have e2:(List.range its.toArray.size).all (fun i=>bs.getD i false)=bs.all id:=by rw[List.size_toArray,hl];exact zt
  rw[e2]
  exact⟨.bl (bs.all id),H,I.kept (t':=tk) fun b o' e=>hk b o' (fun z=>mh e (List.mem_singleton.mp z)) (Heap.get?_push_of_some _ e),rfl,q⟩
theorem Dh {X:Cx}(hc:X.calm=true):d7 X (.builtin "any") (fun xs H Q=>∃(p:Addr) (bs:List Bool),xs=[.ref p]/\SqL X.K H p (bs.map V.bl)/\Q (.bl (bs.any id)) H):=by
 intro pins s σ H xs us Q I r h
 obtain⟨p,bs,rfl,hq,q⟩:=h
 obtain⟨u,rfl,rx⟩:=gX r
 cases rx
 obtain⟨its,rv,pl,hz⟩:=I.list hq
 have hl:its.length=bs.length:=by rw[←rv.length,List.length_map]
 refine call_any_walk (wpAny_pyIter_list pl.isList ?_)
 obtain⟨o,ho,hrest⟩:=id pl.isList
 have hne:p≠s.heap.objs.size:=mh ho
 refine⟨s.heap.objs.size,_,_,_,_,_,fun i=>bs.getD i false,rfl,Walks.list (A:=X.A.in1) (I.ok.hd hc) s.heap.objs.size p hne its.toArray,⟨⟨_,Heap.get?_push_size _ rfl,rfl,rfl⟩,⟨o,Heap.get?_push_of_some _ ho,hrest⟩⟩,fun i v s' Q' E' hP hQ=>?_,fun h' tk hk=>?_⟩
 ·have e:v=Value.bool (bs.getD i false):=Bd rv (by simpa using hP)
  subst e
  exact wpAny_truthy_bool hQ
 ·have e2:(List.range its.toArray.size).any (fun i=>bs.getD i false)=bs.any id:=by rw[List.size_toArray,hl];exact zZ
  rw[e2]
  exact⟨.bl (bs.any id),H,I.kept (t':=tk) fun b o' e=>hk b o' (fun z=>mh e (List.mem_singleton.mp z)) (Heap.get?_push_of_some _ e),rfl,q⟩
noncomputable def p8 (n:Nat):List V:=(List.range n).map fun i:Nat=>V.int (i:Int)
theorem mX (n:Nat):(p8 n).length=n:=by unfold p8;simp
noncomputable def HZ:List V->Hp->VK->Prop:=fun xs H Q=>∃j:Int,xs=[.int j]/\-(2 ^ 62)≤j/\j<2 ^ 62/\∀p,H p=none->Q (.ref p) (upd H p (.rng 0 j))
theorem vE {X:Cx}:d7 X (.type "range") HZ:=by
 intro pins s σ H xs us Q I r h
 obtain⟨j,rfl,h1,h2,q⟩:=h
 obtain⟨u,rfl,t,rfl⟩:=gX r
 refine call_range_1 ?_
 exact⟨.ref s.heap.objs.size,_,I.laid (fun b o e=>Heap.get?_push_of_some _ e) (Nat.le_refl _) (show ObjOk X.prog X.w _ _ _ (.rng 0 j) from⟨_,_,_,Heap.get?_push_size _ rfl⟩),rfl,q _ (I.hok.fresh (Nat.le_refl _))⟩
theorem oJ {n:Nat}{acc:Array Value}(h:ItemsOf (fun i v=>∃t,v=.int ((0:Int)+i * 1) t) acc n):Vals (p8 n) acc.toList:=by
 obtain⟨hs,hi⟩:=h
 have gen:∀(l:List Value) (k:Nat),(∀j v,l[j]?=some v->∃t,v=Value.int ((k+j:Nat):Int) t)->Vals ((List.range' k l.length).map fun i:Nat=>V.int (i:Int)) l:=by
  intro l
  induction l with
  |nil=>intro k _;exact .nil
  |cons a r ih=>
   intro k hk
   rw[List.length_cons,List.range'_succ,List.map_cons]
   refine .cons ?_ (ih (k+1) fun j v hj=>?_)
   ·obtain⟨t,e⟩:=hk 0 a rfl
    exact⟨t,by simpa using e⟩
   ·obtain⟨t,e⟩:=hk (j+1) v (by simpa using hj)
    exact⟨t,by rw[e];congr 1;omega⟩
 have e:acc.toList.length=n:=by simpa using hs
 have z:=gen acc.toList 0 fun j v hj=>by
  obtain⟨t,e⟩:=hi j v (by simpa using hj)
  exact⟨t,by rw[e];congr 1;omega⟩
 rw[e] at z
 unfold p8
 rw[List.range_eq_range']
 exact z
theorem qc {X:Cx}(hc:X.calm=true):d7 X (.type "list") (fun xs H Q=>∃p j,xs=[.ref p]/\H p=some (.rng 0 j)/\0≤j/\j≤1000000/\∀l,H l=none->Q (.ref l) (upd H l (.lst (p8 j.toNat)))):=by
 intro pins s σ H xs us Q I r h
 obtain⟨p,j,rfl,hp,h1,h2,q⟩:=h
 obtain⟨u,rfl,rx⟩:=gX r
 cases rx
 obtain⟨t,u,v,e⟩:=(show ObjOk X.prog X.w H s.heap p (.rng 0 j) from I.hok p _ hp)
 refine call_list_range (I.ok.hd hc) (r:=p) (a:=0) (b:=j) (c:=1) (n:=j.toNat) e (small_one (by omega) (by omega) (by omega) (by omega)) (by rw[rangeSize_one];split<;>omega) (by omega) fun h' tk acc' c' hk hS hacc=>?_
 have z:sizeLine ≥ 1000000:=by decide
 refine⟨.ref s.heap.objs.size,_,I.laid (t':=tk) hk (Nat.le_refl _) (show ObjOk X.prog X.w _ h' _ (.lst (p8 j.toNat)) from⟨by rw[mX];omega,acc'.toList,c',oJ hacc,hS⟩),rfl,q _ (I.hok.fresh (Nat.le_refl _))⟩
theorem qI {xs:List V}{its:List Value}(r:Vals xs its){j:Nat}(h:j<its.toArray.size):RelV (xs.getD j .non) its.toArray[j]:=by
 have hl:=r.length
 have h1:j<its.length:=by simpa using h
 have h2:j<xs.length:=by omega
 obtain⟨u,e1,e2⟩:=r.get (i:=j) (x:=xs[j]) (List.getElem?_eq_getElem h2)
 have e3:its.toArray[j]=u:=by
  rw[List.getElem?_eq_getElem h1] at e1
  simpa using e1
 rw[e3,List.getD_eq_getElem?_getD,List.getElem?_eq_getElem h2]
 exact e2
end L2
end
section
namespace L2
open PySem PySem.Spec PyProof.Rows
theorem bj {H:Hp}{p:Addr}(h:H p=none)(o:HO):Same H (upd H p o):=fun b u q=>by rw[au (aS q h)];exact q
theorem SqT.of' {K:PySem.W.Frag}{H:Hp}{a:Addr}{xs:List V}(h:H a=some (.tup xs)):SqT K H a xs:=SqT.of h
theorem my:fillsNumberSlot (.type "tuple") "mul" = pure false:=by first|rfl|decide +kernel|kernel_rfl
end L2
end
section
namespace L2
open PySem PySem.Spec PyProof.Rows
theorem sC:seqRepeat? (.type "tuple")=pure (some (.builtin "tuple.__mul__")):=by
 unfold seqRepeat?
 rw[PySem.seqSlot_of (T:="tuple") (name:="__mul__") (id:="tuple.__mul__") PySem.F.slot_tuple_mul.lookup (by decide +kernel),PySem.seqSlot_of (T:="tuple") (name:="__rmul__") (id:="tuple.__rmul__") PySem.F.slot_tuple_rmul.lookup (by decide +kernel)]
 rfl
theorem oV (a:Int)(t:Tok)(l:Addr)(items:Array Value)(n:Nat)(dd:Option Addr)(sl:Array (Option Value)) :
  Meets (Builtin.«int.__rmul__» ⟨[.int a t,.ref l],[]⟩) (fun _ R s=>s.heap.get? l=some { cls:=.type "tuple",dict:=dd,data:=.seq items n,slots:=sl }/\R (.ok (.ret Value.notImplemented)) s):=
 .of_wp fun prog w A R s h=>by obtain⟨hp,g,d,tk,os⟩:=s;obtain⟨hl,h⟩:=h;wp_walk;exact⟨_,rfl,h⟩
theorem o0 (l:Addr)(items:Array Value)(n:Nat)(dd:Option Addr)(sl:Array (Option Value))(t:Tok) :
  Meets (Builtin.«tuple.__mul__» ⟨[.ref l,.int 1 t],[]⟩) (fun _ R s=>s.heap.get? l=some { cls:=.type "tuple",dict:=dd,data:=.seq items n,slots:=sl }/\R (.ok (.ret (Value.ref l))) s):=
 .of_wp fun prog w A R s h=>by obtain⟨hp,g,d,tk,os⟩:=s;obtain⟨hl,h⟩:=h;have f1:=AutoSeq1.idx_int;have f2:=AutoSeq1.sub_tuple_tuple;have hc:(items.isEmpty || (1:Int)==1)=true:=(by simp);wp_walk using wpAny_loadPart' hl;exact⟨_,rfl,h⟩
theorem qE (l:Addr)(items:Array Value)(n:Nat)(dd:Option Addr)(sl:Array (Option Value))(k:Int)(t:Tok)(h1:¬(decide (k < -(2 ^ 63)) || decide (k ≥ 2 ^ 63))=true)(h2:¬(items.isEmpty || k==1)=true)(h3:¬(decide (k≤0) || items.isEmpty)=true)
  (h4:¬(items.size * k > (2 ^ 63 - 1) / 8)) (h5:¬Builtin.Tuple.tupleTooMany (items.size * k)=true) (h6:((List.replicate k.toNat items).foldl (·++·) #[]).size≤sizeLine) :
  Meets (Builtin.«tuple.__mul__» ⟨[.ref l,.int k t],[]⟩) (fun _ R s=>s.heap.get? l=some { cls:=.type "tuple",dict:=dd,data:=.seq items n,slots:=sl }/\R (.ok (.ret (Value.ref s.heap.objs.size))) { s with heap:=s.heap.push { cls:=Value.type "tuple",data:=Data.seq ((List.replicate k.toNat items).foldl (·++·) #[]) },toks:=s.toks }):=
 .of_wp fun prog w A R s h=>by obtain⟨hp,g,d,tk,os⟩:=s;obtain⟨hl,h⟩:=h;have f1:=AutoSeq1.idx_int;have f2:=AutoSeq1.sub_tuple_tuple;wp_walk using wpAny_loadPart' hl;rw[if_neg h1];wp_walk using wpAny_loadPart' hl;rw[if_neg h4];(try dsimp only);rw[if_neg h5];wp_walk using wpAny_loadPart' hl;exact⟨_,rfl,h⟩
theorem oU (its:List Value)(m:Nat):List.foldl (fun x1 x2=>x1++x2) #[] (List.replicate m its.toArray)=(List.replicate m its).flatten.toArray:=by
 have:=mU its m []
 rw[List.nil_append] at this
 exact this
end L2
end
section
namespace L2
open PySem PySem.Spec PyProof.Rows
namespace HT
section
variable {prog:Program}{w:World}{A:Around}{E:Value->Shared->Prop}{s:Shared}
theorem Dk {α β:Type}{f:α->Option β}{g:α->β}:∀{l:List α},(∀k∈l,f k=some (g k))->l.filterMap f=l.map g
 |[],_=>rfl
 |a::r,h=>by
  rw[List.filterMap_cons,h a List.mem_cons_self,List.map_cons,Dk fun k hk=>h k (List.mem_cons_of_mem _ hk)]
theorem pick_rev (xs:List Value):(List.range xs.length).filterMap (fun (k:Nat)=>xs.toArray[(((xs.length:Nat):Int) - 1+(k:Int) * (-1)).toNat]?)=xs.reverse:=by
 rw[Dk (g:=fun k=>xs.getD (xs.length - 1 - k) .none)]
 ·apply List.ext_getElem
  ·simp
  ·intro i h1 h2
   have h3:i<xs.length:=by simpa using h2
   have h4:xs.length - 1 - i<xs.length:=by omega
   rw[List.getElem_map,List.getElem_range,List.getElem_reverse]
   simp[h4]
 ·intro k hk
  have hk':k<xs.length:=List.mem_range.mp hk
  have e1:(((xs.length:Nat):Int) - 1+(k:Int) * (-1)).toNat=xs.length - 1 - k:=by omega
  have h2:xs.length - 1 - k<xs.length:=by omega
  rw[e1]
  simp[h2]
end
end HT
end L2
end
section
namespace L2
open PySem PySem.Spec PyProof.Rows PySem.W
noncomputable def Leaf {α:Type}(n:Nat)(P:α->Prop):KasT α->Prop
 |.ret a=>P a
 |.ask i j k=>i<n/\j<n/\∀b,Leaf n P (k b)
theorem Leaf.bind {α β:Type}{n:Nat}{P:α->Prop}{R:β->Prop}{f:α->KasT β}(hf:∀a,P a->Leaf n R (f a)):∀{t:KasT α},Leaf n P t->Leaf n R (t.bind f)
 |.ret a,h=>hf a h
 |.ask i j k,h=>⟨h.1,h.2.1,fun b=>Leaf.bind hf (h.2.2 b)⟩
noncomputable abbrev OfN (n:Nat)(p:Array Nat):Prop:=p.toList.Perm (List.range n)
theorem OfN.lt {n:Nat}{p:Array Nat}(h:OfN n p)(hn:0<n)(k:Nat):p.getD k 0<n:=by
 by_cases hk:k<p.size
 ·have e:p.getD k 0=p[k]:=by simp[Array.getD,hk]
  rw[e]
  exact List.mem_range.mp (h.subset (by simp))
 ·have e:p.getD k 0=0:=by simp[Array.getD,hk]
  rw[e];exact hn
theorem OfN.rev {n:Nat}{p:Array Nat}(h:OfN n p)(i j:Nat):OfN n (kas_rev p i j):=(mirror_perm p i j _).toList.trans h
theorem OfN.bub {n:Nat}{p:Array Nat}(h:OfN n p)(i j:Nat):OfN n (bubble p i j):=(bubble_perm p i j).toList.trans h
theorem oG {n:Nat}{p:Array Nat}(hp:OfN n p)(hn:0<n):∀f k,Leaf n (fun _=>True) (kas_asc p f k)
 |0,_=>True.intro
 |f+1,k=>⟨hp.lt hn _,hp.lt hn _,fun b=>by
  cases b with
  |true=>exact True.intro
  |false=>exact oG hp hn f (k+1)⟩
theorem kq {n:Nat}(hn:0<n):∀f (p:Array Nat) k q,OfN n p->Leaf n (fun r=>OfN n r.1) (kas_desc f p k q)
 |0,_,_,_,hp=>hp
 |f+1,p,k,q,hp=>⟨hp.lt hn _,hp.lt hn _,fun b=>by
  cases b with
  |true=>
   show Leaf n _ (if q > 0 then kas_desc f (kas_rev p (k - (q+1)) k) (k+1) 0 else kas_desc f p (k+1) 0)
   split
   ·exact kq hn f _ _ _ (hp.rev _ _)
   ·exact kq hn f _ _ _ hp
  |false=>
   refine⟨hp.lt hn _,hp.lt hn _,fun c=>?_⟩
   cases c with
   |true=>exact hp
   |false=>exact kq hn f _ _ _ hp⟩
theorem pE {n:Nat}(hn:0<n){p:Array Nat}(hp:OfN n p)(a b:Nat):Leaf n (fun r=>OfN n r.2) (kas_tail3 a b p):=by
 unfold kas_tail3
 exact Leaf.bind (P:=fun _=>True) (R:=fun r:Nat×Array Nat=>OfN n r.2) (f:=fun m=>KasT.ret (m,kas_rev p 0 a)) (fun m _=>(show OfN n (kas_rev p 0 a) from hp.rev 0 a)) (oG (hp.rev 0 a) hn _ _)
theorem kA {n:Nat}(hn:0<n){p:Array Nat}(hp:OfN n p)(a b:Nat):Leaf n (fun r=>OfN n r.2) (kas_descPart a b p):=by
 refine Leaf.bind (fun r hr=>?_) (kq hn _ _ _ _ hp)
 split
 ·exact pE hn (OfN.rev hr _ _) _ _
 ·exact pE hn hr _ _
theorem xf {n:Nat}(hn:0<n){p:Array Nat}(hp:OfN n p)(b:Nat):Leaf n (fun r=>OfN n r.2) (kas_count b p):=by
 refine Leaf.bind (fun r _=>?_) (oG hp hn _ _)
 split
 ·exact hp
 ·split
  ·refine⟨hp.lt hn _,hp.lt hn _,fun c=>?_⟩
   cases c with
   |true=>exact hp
   |false=>exact kA hn (hp.rev _ _) _ _
  ·exact kA hn hp _ _
theorem lb {n:Nat}(hn:0<n){p:Array Nat}(hp:OfN n p)(k:Nat):∀f l r,Leaf n (fun _=>True) (kas_place p k f l r)
 |0,_,_=>True.intro
 |f+1,l,r=>by
  show Leaf n _ (if l ≥ r then .ret l else .ask (p.getD k 0) (p.getD ((l+r) / 2) 0) fun c=>if c=true then kas_place p k f l ((l+r) / 2) else kas_place p k f ((l+r) / 2+1) r)
  split
  ·exact True.intro
  ·refine⟨hp.lt hn _,hp.lt hn _,fun c=>?_⟩
   cases c with
   |true=>exact lb hn hp k f _ _
   |false=>exact lb hn hp k f _ _
theorem vx {n:Nat}(hn:0<n):∀f (p:Array Nat) k,OfN n p->Leaf n (OfN n) (kas_bin f p k)
 |0,_,_,hp=>hp
 |f+1,p,k,hp=>Leaf.bind (fun l _=>vx hn f _ _ (hp.bub _ _)) (lb hn hp k _ _ _)
theorem rh {n:Nat}(hn:0<n):Leaf n (OfN n) (kas_sort n):=by
 refine Leaf.bind (fun r hr=>?_) (xf hn (show OfN n (List.toArray (List.range n)) from .refl _) n)
 split
 ·exact vx hn _ _ _ hr
 ·exact hr
theorem HOk.stands {P:Program}{w:World}{H:Hp}{h:Heap}{a:Addr}{o:HO}(x:HOk P w H h)(e:H a=some o):∃ob,h.get? a=some ob:=by
 have y:=x a o e
 cases o with
 |lst xs=>obtain⟨_,_,_,_,z⟩:=y;exact⟨_,z⟩
 |tup xs=>obtain⟨_,_,_,ob,z,_⟩:=y;exact⟨_,z⟩
 |dK kvs=>obtain⟨_,_,_,_,ob,_,_,z,_⟩:=y;exact⟨_,z⟩
 |dT kvs=>obtain⟨_,_,_,_,ob,_,_,z,_⟩:=y;exact⟨_,z⟩
 |set S n=>obtain⟨ob,_,_,_,z,_⟩:=y;exact⟨_,z⟩
 |ins C dx fs=>obtain⟨_,_,_,z,_⟩:=y;exact⟨_,z⟩
 |own y'=>exact y
 |xd fs=>obtain⟨_,⟨ob,_,_,z,_⟩,_⟩:=y;exact⟨_,z⟩
 |rng lo hi=>obtain⟨_,_,_,z⟩:=y;exact⟨_,z⟩
 |frz ob u=>exact⟨_,y.1⟩
 |tbl ps=>exact⟨_,(show h.get? a=some { cls:=.none,data:=.fields ps } from y)⟩
 |met f y'=>exact⟨_,(show h.get? a=some (PySem.W.methodObj (.ref f) (.ref y')) from y)⟩
 |ext φ=>exact y.2.1
theorem Kk {h:Heap}{L:Addr}{m m':Str->Option Value}(a:h.Ns L m)(b:h.Ns L m'):m=m':=by
 obtain⟨o,es,ep,h1,h2,h3,h4⟩:=a
 obtain⟨o',es',ep',h1',h2',h3',h4'⟩:=b
 rw[h1] at h1'
 cases h1'
 rw[h2] at h2'
 cases h2'
 funext x
 rw[←h4 x,←h4' x]
section
variable {X:Cx}{pins:List (Addr×Obj)}{σ:St}{H:Hp}{s:Shared}
theorem Inv.ledger {h':Heap}{m:Str->Option Value}{D:Addr}{ys:List V}{out:List Value}{c:Nat}(I:Inv X pins σ H s)(F0:Fr X.base X.env.locals s.heap m)(F:Fr X.base X.env.locals h' m)(N:News X.base X.env.locals h' ((D,listOf (List.toArray out) c)::md X.base s.heap X.env.locals))
  (hD:s.heap.get? D=none) (r:Vals ys out) (hz:ys.length≤sizeLine):Inv X pins σ (upd H D (.lst ys)) { s with heap:=h' }/\H D=none:=by
 have hHD:H D=none:=by
  cases e:H D with
  |none=>rfl
  |some o=>
   obtain⟨ob,z⟩:=I.hok.stands e
   rw[hD] at z;cases z
 have kept:∀b o,b≠X.env.locals->s.heap.get? b=some o->h'.get? b=some o:=fun b o hb e=>by
  cases q:X.base.get? b with
  |some u=>
   have z:=I.bk b u q
   rw[e] at z;cases z
   exact F.keep b _ q
  |none=>exact (N (b,o) (List.mem_cons_of_mem _ (kg hb q e))).1
 have ne:∀b o,H b=some o->b≠D:=fun b o e z=>by subst z;rw[hHD] at e;cases e
 have neL:∀b o,H b=some o->b≠X.env.locals:=fun b o e z=>by subst z;rw[I.free] at e;cases e
 have hd:=(N (D,listOf (List.toArray out) c) (List.mem_cons_self)).1
 refine⟨I.step (g':=s.gens) (t':=s.toks) (d':=s.drawn) (ch:=[]) (fun _ z=>nomatch z) (fun b o hL _ _ e _=>kept b o hL e) (fun b o hL _ _ e _=>⟨o.slots,kept b o hL e⟩) (fun b o _ e n=>?_) (fun b o _ e=>?_)
  (fun b xs e=>by rw[au (ne b _ e)];exact e) (fun b o u e=>by rw[au (ne b _ e)];exact e) (fun b ps e=>⟨#[],by rw[au (ne b _ e),e];simp⟩) (fun m1 hm=>?_) (fun b o e=>?_) I.bare,hHD⟩
 ·rw[au (fun z=>by subst z;rw[hD] at e;cases e)];exact n
 ·by_cases hb:b=X.env.locals
  ·subst hb
   obtain⟨o',_,_,z,_⟩:=F.ns
   exact⟨o',z⟩
  ·exact⟨o,kept b o hb e⟩
 ·rw[Kk hm F0.ns];exact F.ns
 ·by_cases hb:b=D
  ·subst hb
   rw[af] at e
   cases e
   exact⟨hz,out,c,r,hd⟩
  ·rw[au hb] at e
   refine (I.hok b o e).stay (fun d u hc q=>kept d u ?_ q) (fun d z=>by rw[au (ne d _ z)];exact z) fun d xs z=>by rw[au (ne d _ z)];exact z
   rcases hc with z|z
   ·rw[z];exact neL b _ e
   ·exact neL d _ z
end
section
variable {prog:Program}{w:World}{A:Around}{E:Value->Shared->Prop}{s:Shared}
theorem wG {a:Addr}{vs:List Value}{n:Nat}{P:PySem.Fin->Shared->Prop}(ho:s.heap.get? a=some (seqObj "list" vs.toArray n))(h2:vs.length<2)
  (h:P (.done (.ret .none)) { s with heap:=sortedHeap s.heap a vs vs.toArray }):wpAny (model prog w) A (Builtin.«list.sort» ⟨[.ref a],[]⟩) P E s:=by
 rw[list_sort_plain]
 have ha:=Heap.lt_size ho
 refine wpAny_bind (listItems_at ho rfl (wpAny_bind (listUpdate_at ho rfl ?_ (by rw[List.size_toArray,sizeLine_eq];omega) (Nat.zero_le _))))
 obtain⟨e1,ho1⟩:∃e1,(s.heap.update a (Obj.mapSeq fun _=>(#[]:Array Value))).get? a=some (seqObj "list" #[] e1):=⟨_,get?_update_seq ho fun _=>#[]⟩
 refine wpAny_bind (seqEpoch_at ho1 rfl (wpAny_bind (wpAny_newTuple (wpAny_bind (wpAny_newList (wpAny_holding ?_) (Nat.zero_le _))) (by show vs.length≤_;rw[sizeLine_eq];omega))))
 have ho6:(((s.heap.update a (Obj.mapSeq fun _=>(#[]:Array Value))).push (seqObj "tuple" vs.toArray 0)).push (seqObj "list" #[] 0)).get? a=some (seqObj "list" #[] e1):=Heap.get?_push_of_some _ (Heap.get?_push_of_some _ ho1)
 show wpAny (model prog w) A _ P E { s with heap:=((s.heap.update a (Obj.mapSeq fun _=>(#[]:Array Value))).push (seqObj "tuple" vs.toArray 0)).push (seqObj "list" #[] 0) }
 dsimp only
 have hlt:vs.toArray.size<2:=by rw[List.size_toArray];exact h2
 rw[if_pos hlt,if_pos hlt]
 refine wpAny_bind (wpAny_pure ?_)
 rw[StateT.run_pure]
 have hsn:(arrOf (SortSt.mk' general' (vs.toArray.zip vs.toArray) #[] 7 none)).map (·.2)=vs.toArray:=by
  show (vs.toArray.zip vs.toArray).map (·.2)=vs.toArray
  apply Array.toList_inj.mp
  simp
  exact List.map_snd_zip (by simp)
 refine wpAny_bind (wpAny_pure ?_)
 dsimp only
 refine wpAny_bind (seqEpoch_at ho6 rfl ?_)
 refine wpAny_bind (listUpdate_at ho6 rfl ?_ (Nat.zero_le _) (by rw[hsn,List.size_toArray,sizeLine_eq];omega))
 simp only[bne_self_eq_false,Bool.false_eq_true,if_false]
 rw[hsn]
 exact wpAny_pure h
theorem tL {l:Addr}{vs:List Value}{Q:Value->Shared->Prop}(hl:s.heap.IsList l vs.toArray)(h2:vs.length<2)(h:Q (.ref (s.heap.objs.size+1)) { s with heap:=sortedAll s.heap vs vs.toArray }) :
  wpAny (model prog w) A (call (.builtin "sorted") [.ref l]) Q E s:=by
 refine Calls.call_function_entry kind_sorted plain_sorted entry_sorted (args_sorted1 _) ?_
 unfold Builtin.«sorted»
 refine wpAny_bind (m:=checkCount "sorted" 1 1 _) (wpAny_pure (wpAny_bind (collect_list hl (wpAny_bind (wpAny_newList ?_ (by rw[sizeLine_eq];omega))) (by rw[sizeLine_eq];omega))))
 have hsz:((s.heap.push (seqObj "list" #[] 0)).update s.heap.objs.size (Obj.mapSeq (·++vs.toArray))).objs.size=s.heap.objs.size+1:=(Heap.size_update ..).trans (size_push' ..)
 have hoL:(((s.heap.push (seqObj "list" #[] 0)).update s.heap.objs.size (Obj.mapSeq (·++vs.toArray))).push (seqObj "list" vs.toArray 0)).get? (s.heap.objs.size+1)=some (seqObj "list" vs.toArray 0):=hsz▸Heap.get?_push_size _ rfl
 show wpAny _ _ _ _ _ { s with heap:=((s.heap.push (seqObj "list" #[] 0)).update s.heap.objs.size (Obj.mapSeq (·++vs.toArray))).push (seqObj "list" vs.toArray 0) }
 rw[hsz]
 refine wpAny_bind (wpAny_holding (wpAny_call_entry slot_list_sort ⟨_,hoL,rfl⟩ entry_list_sort (wG hoL h2 ⟨_,rfl,?_⟩) (args_list_sort _)))
 exact wpAny_pure ⟨_,rfl,h⟩
end
end L2
end
section
namespace L2
open PySem PySem.Spec PyProof.Rows PySem.W
theorem jR {α:Type}(d:α):∀(xs:List α),(List.range xs.length).map (fun i=>xs.getD i d)=xs:=fun xs=>by
 apply List.ext_getElem
 ·simp
 ·intro i h1 h2
  rw[List.getElem_map,List.getElem_range]
  simp[h2]
theorem ua {ts:List V}{its:List Value}(r:Vals ts its):∀{p:List Nat},(∀i∈p,i<its.length)->Vals (p.map fun i=>ts.getD i .non) (p.map fun i=>its.getD i Value.none)
 |[],_=>.nil
 |i::p,h=>by
  have hi:=h i List.mem_cons_self
  have hz:=qI r (j:=i) (by simpa using hi)
  have e:its.getD i Value.none=its.toArray[i]'(by simpa using hi):=by simp[hi]
  refine .cons ?_ (ua r fun j hj=>h j (List.mem_cons_of_mem _ hj))
  show RelV (ts.getD i .non) (its.getD i Value.none)
  rw[e];exact hz
end L2
end
section
namespace L2
open PySem PySem.Spec PyProof.Rows
noncomputable def FunD (K:PySem.W.Frag)(mg:Str->Option Value)(x:Str)(st:Stmt)(ps:List Str):Prop:=∃f fd,Fun K x x st f fd/\(∀us:List Value,us.length=ps.length->bindArgs fd ⟨us,[]⟩=pure (ps.zip us))/\mg x=some (.ref f)
noncomputable def Def (P:Program)(w:World)(K:PySem.W.Frag)(mg:Str->Option Value)(base:Heap)(k:Nat)(x:Str)(ps:List Str)(sp:Sp):Prop:=
 ∃f fd,FnOk P w K mg base vX k f fd ps sp/\Binds K fd ps []/\PySem.W.keepIn K (.ref f)=true/\mg x=some (.ref f)
section
variable {P:Program}{w:World}{K:PySem.W.Frag}{mg:Str->Option Value}{base:Heap}
theorem FunD.ok {x:Str}{st:Stmt}{N ps:List Str}{k:Nat}{sp:Sp}(F:FunD K mg x st ps)(S:FnScope N ps (ad st))(len:∀vs H Q E,sp vs H Q E->vs.length=ps.length)
  (hbody:∀(f:Addr) (cdv:Value) (A:Around) (outer:List Env) (s:Shared) (H:Hp) (vs:List V) (Q:VK) (E:XK),Room k (A.deeper (envOfC x (ad st) s.heap.objs.size f cdv))->sp vs H Q E →
   ∃t,PSs (lJ vX P w K mg base N x (ad st) f cdv A outer s H E).nox (ag st) t/\t { nx:=fun _ H'=>Q .non H',rt:=Q } (aQ N vs) H):Def P w K mg base (k+1) x ps sp:=by
 obtain⟨f,fd,F,b,m⟩:=F
 exact⟨f,fd,F.ok S len (hbody f),.all b,F.kp,m⟩
end
theorem FunD.top {P:Program}{w:World}{K:PySem.W.Frag}{mg:Str->Option Value}{x y:Str}{st:Stmt}{fa:Addr}{k:Nat}{sp:Sp}{N:List Str}{R:Heap->Prop}(F:FunD K mg x st [y])(hm:mg x=some (.ref fa))(S:FnScope N [y] (ad st))(len:∀vs H Q E,sp vs H Q E->vs.length=1)
  (hbody:∀base,R base->∀(f:Addr) (cdv:Value) (A:Around) (outer:List Env) (s:Shared) (H:Hp) (vs:List V) (Q:VK) (E:XK),Room k (A.deeper (envOfC x (ad st) s.heap.objs.size f cdv))->sp vs H Q E →
   ∃t,PSs (lJ vX P w K mg base N x (ad st) f cdv A outer s H E).nox (ag st) t/\t { nx:=fun _ H'=>Q .non H',rt:=Q } (aQ N vs) H) :
  ∃fd:FuncData,(∀(s:Shared) (u:Value),BindsTo s fd ⟨[u],[]⟩ [(y,u)])/\∀base:Heap,R base->FnOk P w K mg base vX (k+1) fa fd [y] sp:=by
 obtain⟨f,fd,F,b,m⟩:=F
 rw[hm] at m
 cases m
 exact⟨fd,fun s u=>.of_eq (b [u] rfl),fun base hb=>F.ok S len (hbody base hb fa)⟩
section
variable {X:Cx}{k j:Nat}{ps:List Str}{sp:Sp}{x:Str}{p pos:Pos}{e:Expr}{es:List Expr}{t:TA}
theorem lg (d:Def X.prog X.w X.K X.mg X.base j x ps sp)(hr:Room k X.A)(ha:PA X (e::es) t)(hj:j≤k:=by decide)(hg:Gl X x:=by rfl)(hdb:(x==("__debug__" : Str))=false:=by decide)(he:starEach (e::es) X.env=(false,eval e X.env)::starEach es X.env:=by rfl)
  (hpl:(backTo pos (starEach es X.env)).any (·.1)=false:=by rfl):PE X (.Call (.Name x p) (e::es) [] pos) (bf sp [] E0 t):=by
 obtain⟨f,fd,F,b,kp,m⟩:=d
 exact EE F (hr.mono hj) hg m kp b .nil Dt ha hdb he hpl
theorem zC (d:Def X.prog X.w X.K X.mg X.base j x ps sp)(hr:Room k X.A)(hj:j≤k:=by decide)(hg:Gl X x:=by rfl)(hdb:(x==("__debug__" : Str))=false:=by decide):PE X (.Call (.Name x p) [] [] pos) (bf sp [] E0 fg):=by
 obtain⟨f,fd,F,b,kp,m⟩:=d
 exact A8 F (hr.mono hj) hg m kp b .nil Dt hdb
end
section
variable {X:Cx}{scope:Scope}{tg iter elt:Expr}{ifs:List Expr}{pos spos px:Pos}{g:TG}{tc:TT}{te:TE}{wi:TI}
theorem yq (N':List Str)(fm:List (Option Nat))(hi:PI X tg iter wi)(hg:∀C s H ex,PG (X.blk scope N' C s H ex) tg g)(ht:∀C s H ex,PIf (X.blk scope N' C s H ex) ifs tc)(he:∀C s H ex,PE (X.blk scope N' C s H ex) elt te)(hk:rA fm g)
  (hB:lf scope.kind scope.names X.env.kindOf X.N N' fm=true:=by rfl) (hc:X.calm=true:=by rfl) (hs:∀x,foldedSetIterable iter X.env x=pure x:=by intro _;rfl):PE X (.ListComp elt [⟨tg,iter,ifs,0⟩] scope pos) (i5 fm wi g tc te):=
 G7 (Ei hB) hc hi hg hk ht he hs
theorem ud {i:Nat}{x:Str}(N':List Str)(fm:List (Option Nat))(hN:X.N.Nodup)(hi:PI X tg iter wi)(hg:∀C s H ex,PG (X.blk scope N' C s H ex) tg g)(ht:∀C s H ex,PIf (X.blk scope N' C s H ex) ifs tc)(he:∀C s H ex,PE (X.blk scope N' C s H ex) elt te)(hk:rA fm g)
  (hi':X.N[i]?=some x:=by rfl) (hx:X.env.kindOf x=some .local:=by rfl)
  (hB:lf scope.kind scope.names X.env.kindOf X.N N' fm=true:=by rfl) (hc:X.calm=true:=by rfl) (hsw:swapsWith (.ListComp elt [⟨tg,iter,ifs,0⟩] scope pos) (some (.Name x px)) spos.line X.env=pure true:=by rfl)
  (hs:∀x,foldedSetIterable iter X.env x=pure x:=by intro _;rfl):PS X (.Assign [.Name x px] (.ListComp elt [⟨tg,iter,ifs,0⟩] scope pos) spos) (cv (i5 fm wi g tc te) (aO i)):=
 xl hN hi' hx (Ei hB) hc hi hg hk ht he hsw hs
end
theorem am {K:PySem.W.Frag}{mg:Str->Option Value}{x:Str}{st:Stmt}{f:Addr}{oc:Value}{od an:Option Addr}{osl:Array (Option Value)}{kV doc pm cdv ct:Value}{ps:List Str}(l:K.lookup f=some ⟨oc,od,.func (PySem.W.fnOf x x (aj st) (ag st) (ad st) .none kV doc pm an cdv ct),osl⟩)
  (c:PySem.W.codeIn K cdv x=true) (k:PySem.W.keepIn K (.ref f)=true) (m:mg x=some (.ref f))
  (h:∀(kV doc pm:Value) (an:Option Addr) (cdv ct:Value) (us:List Value),us.length=ps.length->bindArgs (PySem.W.fnOf x x (aj st) (ag st) (ad st) .none kV doc pm an cdv ct) ⟨us,[]⟩=pure (ps.zip us)):FunD K mg x st ps:=
 ⟨f,_,KS l c k,h kV doc pm an cdv ct,m⟩
noncomputable def uq (H:Hp):V->Option (List V)
 |.ref a=>match H a with
  |some (.tup xs)=>some xs
  |_=>none
 |_=>none
noncomputable def jU (H:Hp):V->Option (List V)
 |.ref a=>match H a with
  |some (.lst xs)=>some xs
  |_=>none
 |_=>none
section
variable {X:Cx}{x:Str}{pos:Pos}
theorem IE {n:String}(hm:X.mg x=none)(hv:bootBuiltins x=some (.type n))(hg:Gl X x:=by rfl)(hn:x ≠ "__name__":=by decide)(hd:(x==("__debug__" : Str))=false:=by decide):PE X (.Name x pos) (tC (.ty n)):=F6 hg hm hv rfl hn hd
theorem Me {i:Int}(h:∃t,X.mg x=some (.int i t))(hg:Gl X x:=by rfl)(hd:(x==("__debug__" : Str))=false:=by decide):PE X (.Name x pos) (tC (.int i)):=by
 obtain⟨t,h⟩:=h
 exact ku hg h ⟨t,rfl⟩ hd
end
theorem JK:bootBuiltins "len" = some (.builtin "len"):=by decide +kernel
theorem JN:bootBuiltins "abs" = some (.builtin "abs"):=by decide +kernel
theorem Cb:bootBuiltins "max" = some (.builtin "max"):=by decide +kernel
theorem Br:bootBuiltins "min" = some (.builtin "min"):=by decide +kernel
theorem KH:bootBuiltins "all" = some (.builtin "all"):=by decide +kernel
theorem JU:bootBuiltins "any" = some (.builtin "any"):=by decide +kernel
theorem kI:bootBuiltins "isinstance" = some (.builtin "isinstance"):=by decide +kernel
theorem rN:bootBuiltins "sorted" = some (.builtin "sorted"):=by decide +kernel
theorem Bj:bootBuiltins "int" = some (.type "int"):=by decide +kernel
theorem Fg:bootBuiltins "bool" = some (.type "bool"):=by decide +kernel
theorem CP:bootBuiltins "str" = some (.type "str"):=by decide +kernel
theorem nS:bootBuiltins "list" = some (.type "list"):=by decide +kernel
theorem lD:bootBuiltins "tuple" = some (.type "tuple"):=by decide +kernel
theorem Fe:bootBuiltins "dict" = some (.type "dict"):=by decide +kernel
theorem AU:bootBuiltins "range" = some (.type "range"):=by decide +kernel
end L2
end
section
namespace L2
open PySem PySem.Spec PyProof.Rows
theorem Same.upd {H H':Hp}{l:Addr}(s:Same H H')(h:H' l=none)(o:HO):Same H (L2.upd H' l o):=s.trans (bj h o)
section
variable {X:Cx}{K:PySem.W.Frag}(h:X.K=K)
include h
theorem jF:IxR X (fF K):=by subst h;exact ix_list
theorem Bg:d7 X (.builtin "isinstance") (fun xs H Q=>∃x n t b,xs=[x,.ty n]/\TyOf K H x t/\PySem.W.kitOne K t (.type n)=some b/\Q (.bl b) H):=by subst h;exact mW
theorem zr:d7 X (.type "list") (fun xs H Q=>∃p ys,xs=[.ref p]/\(SqL K H p ys\/SqT K H p ys)/\∀l,H l=none->Q (.ref l) (upd H l (.lst ys))):=by subst h;exact lK
theorem wj:d7 X (.type "tuple") (fun xs H Q=>∃p ys,xs=[.ref p]/\((SqL K H p ys/\∀l,H l=none->Q (.ref l) (upd H l (.tup ys)))\/(SqT K H p ys/\Q (.ref p) H))):=by subst h;exact kK
theorem wV {es:List Expr}{k:Nat}{t:ve}{n:Nat}{pos:Pos}(hc:X.calm=true)(hh:MC X es t)(hn:(assignEach es X.env).length=n:=by rfl)(hst:(assignEach es X.env).findIdx? (·.1)=none:=by rfl):PG X (.Tuple es k pos) (eL K n t):=by subst h;exact C2 hc hh hn hst
end
theorem gp {CX:y7}{P:Program}{w:World}{K:PySem.W.Frag}{mg:Str->Option Value}{base:Heap}{N:List Str}{qual:Str}{scope:Scope}{f:Addr}{cd:Value}{A:Around}{outer:List Env}{s:Shared}{H:Hp}{E:XK}:(lJ CX P w K mg base N qual scope f cd A outer s H E).K=K:=rfl
theorem jg {X:Cx}{scope:Scope}{N':List Str}{C:Addr}{s:Shared}{H:Hp}{ex:List Addr}:(X.blk scope N' C s H ex).K=X.K:=rfl
noncomputable def NS (e:Expr):Prop:=∀(es:List Expr) (env:Env),starEach (e::es) env=(false,eval e env)::starEach es env
theorem aD {k p}:NS (.Name k p):=fun _ _=>rfl
theorem He {a o b p}:NS (.Call a o b p):=fun _ _=>rfl
theorem az {X:Cx}{e:Expr}{es:List Expr}{te:TE}{t:TA}(h:NS e)(ha:PE X e te)(hr:PA X es t):PA X (e::es) (bE te t):=EU ha hr (h es X.env)
end L2
end
section
namespace L2
open PySem PySem.Spec PyProof.Rows
inductive TabEs (w:World):List DictEntry->List (Str×Addr)->Prop where
 |nil:TabEs w [] []
 |cons {x:Str} {t:Tok} {f:Addr} {es:List DictEntry} {kvs:List (Str×Addr)}:TabEs w es kvs->TabEs w (⟨PyData.keyHash w.params x,.str x t,.ref f⟩::es) ((x,f)::kvs)
structure Tab (w:World)(K:PySem.W.Frag)(a:Addr)(kvs:List (Str×Addr)):Prop where
 sys:(a==sysModules)=false
 nd:(kvs.map (·.1)).Nodup
 it:∃(es:Array DictEntry) (ep:Nat),K.lookup a=some ⟨.type "dict",none,.dict es ep,#[]⟩/\TabEs w es.toList kvs
noncomputable def wP (kvs:List (Str×Addr)):List (jI×Value):=kvs.map fun p=>(.inr p.1,.ref p.2)
theorem TabEs.ok {P:Program}{w:World}:∀{es:List DictEntry} {kvs:List (Str×Addr)},TabEs w es kvs->(∀e∈es,∃k,(dv P w).is k e.key=true/\e.hash=(dv P w).hash k)/\Pairs (dv P w) es (wP kvs)
 |_,_,.nil=>⟨fun _ h=>(by cases h),.nil⟩
 |_,_,@TabEs.cons _ x t f es kvs r=>by
  obtain⟨a,b⟩:=r.ok (P:=P)
  refine⟨fun e he=>?_,.cons (gL P w x t) rfl b⟩
  rcases List.mem_cons.mp he with rfl|he
  ·exact⟨.inr x,gL P w x t,rfl⟩
  ·exact a e he
theorem Tab.dict {w:World}{K:PySem.W.Frag}{a:Addr}{kvs:List (Str×Addr)}{P:Program}{h:Heap}(T:Tab w K a kvs)(X:K.In h):h.DictOf (dv P w) a (wP kvs):=by
 obtain⟨s,nd,es,ep,l,r⟩:=T
 obtain⟨a1,a2⟩:=r.ok (P:=P)
 refine⟨_,es,ep,X a _ l,⟨rfl,rfl,rfl⟩,rfl,fun e he=>a1 e (Array.mem_toList_iff.mpr he),a2,?_⟩
 have:(wP kvs).map (·.1)=(kvs.map (·.1)).map (Sum.inr:Str->jI):=by simp[wP]
 rw[this]
 exact nd.map _ fun _ _ ne e=>ne (Sum.inr.inj e)
noncomputable def dn (kvs:List (Str×Addr))(x:Str):Option Addr:=(kvs.find? fun p=>decide (p.1=x)).map (·.2)
theorem yW (kvs:List (Str×Addr))(x:Str):valueAt (wP kvs) (.inr x)=(dn kvs x).map Value.ref:=by
 induction kvs with
 |nil=>rfl
 |cons p t ih=>
  by_cases h:p.1=x
  ·simp[valueAt,wP,dn,h]
  ·have h':¬((Sum.inr p.1:jI)=Sum.inr x):=fun e=>h (Sum.inr.inj e)
   simp only[valueAt,wP,dn,List.map_cons,List.find?_cons,decide_eq_false h,decide_eq_false h'] at ih ⊢
   exact ih
section
variable {X:Cx}{a:Addr}{kvs:List (Str×Addr)}{o i:Expr}{to ti:TE}{pos:Pos}
noncomputable def Qi (kvs:List (Str×Addr))(a:Addr)(to ti:TE):TE:=fun σ H Q=>to σ H fun x H1=>ti σ H1 fun y H2=>∃n f,x=.ref a/\y=.str n/\dn kvs n=some f/\Q (.ref f) H2
noncomputable def K3 (kvs:List (Str×Addr))(a:Addr)(ti to:TE):TE:=fun σ H Q=>ti σ H fun y H1=>to σ H1 fun x H2=>∃n,x=.ref a/\y=.str n/\Q (.bl (dn kvs n).isSome) H2
theorem KW (T:Tab X.w X.K a kvs)(ho:PE X o to)(hi:PE X i ti)(hs:Nn i):PE X (.Subscript o i pos) (Qi kvs a to ti):=by
 intro pins s σ H Q I h
 refine Fd PySem.F.slot_dict_getitem.lookup hs (bL (ho pins s σ H _ I h) fun u s1 ⟨x,H1,I1,rx,q1⟩=>bL (hi pins s1 σ H1 _ I1 q1) fun iv s2 ⟨y,H2,I2,ry,n,f,ex,ey,g,q2⟩=>?_)
 subst ex ey
 obtain rfl:u=Value.ref a:=rx
 have d:=T.dict (P:=X.prog) I2.kIn
 refine⟨d.mapOf.typeIs,wpAny_getItem_of (B0 (k:=.inr n) ry) d.mapOf (by rw[yW,g];rfl) ?_⟩
 exact⟨.ref f,H2,I2.tok _,rfl,q2⟩
theorem KJ (T:Tab X.w X.K a kvs)(hi:PE X i ti)(ho:PE X o to):PC X .In i o (K3 kvs a ti to):=by
 intro pins s σ H Q I h
 refine bL (hi pins s σ H _ I h) fun iv s1 ⟨y,H1,I1,ry,q1⟩=>bL (ho pins s1 σ H1 _ I1 q1) fun u s2 ⟨x,H2,I2,rx,n,ex,ey,q2⟩=>?_
 subst ex ey
 obtain rfl:u=Value.ref a:=rx
 have d:=T.dict (P:=X.prog) I2.kIn
 refine wpAny_in_of (B0 (k:=.inr n) ry) T.sys d.mapOf ?_
 rw[yW,Option.isSome_map]
 exact⟨.bl _,H2,I2.tok _,rfl,q2⟩
end
noncomputable def DefA (P:Program)(w:World)(K:PySem.W.Frag)(mg:Str->Option Value)(base:Heap)(k:Nat)(f:Addr)(ps:List Str)(sp:Sp):Prop:=
 ∃fd,FnOk P w K mg base vX k f fd ps sp/\Binds K fd ps []/\PySem.W.keepIn K (.ref f)=true
theorem Def.at {P:Program}{w:World}{K:PySem.W.Frag}{mg:Str->Option Value}{base:Heap}{k:Nat}{x:Str}{ps:List Str}{sp:Sp}{f:Addr}(d:Def P w K mg base k x ps sp)(h:mg x=some (.ref f)):DefA P w K mg base k f ps sp:=by
 obtain⟨f',fd,F,b,kp,m⟩:=d
 rw[h] at m
 cases m
 exact⟨fd,F,b,kp⟩
theorem DefA.imp {P:Program}{w:World}{K:PySem.W.Frag}{mg:Str->Option Value}{base:Heap}{k:Nat}{f:Addr}{ps:List Str}{sp sp':Sp}(d:DefA P w K mg base k f ps sp)(h:∀vs H Q E,sp' vs H Q E->sp vs H Q E):DefA P w K mg base k f ps sp':=by
 obtain⟨fd,F,r⟩:=d
 exact⟨fd,F.imp h,r⟩
section
variable {X:Cx}{k j:Nat}{ps:List Str}{D:Addr->Sp->Prop}{x:Str}{p pos:Pos}{e:Expr}{es:List Expr}{t:TA}{i:Nat}
noncomputable def IY (i:Nat)(D:Addr->Sp->Prop)(t:TA):TE:=fun σ H Q=>∃f sp,σ[i]?=some (some (.ref f))/\D f sp/\t σ H fun vs H1=>sp vs H1 Q E0
theorem ub (d:∀f sp,D f sp->DefA X.prog X.w X.K X.mg X.base j f ps sp)(hr:Room k X.A)(hN:X.N[i]?=some x)(hv:Ij X.env.scope x)(ha:PA X (e::es) t)(hj:j≤k:=by decide)(hdb:(x==("__debug__" : Str))=false:=by decide)(hcd:(x==("__classdict__" : Str))=false:=by decide)
  (he:starEach (e::es) X.env=(false,eval e X.env)::starEach es X.env:=by rfl) (hpl:(backTo pos (starEach es X.env)).any (·.1)=false:=by rfl):PE X (.Call (.Name x p) (e::es) [] pos) (IY i D t):=by
 intro pins s σ H Q I h
 obtain⟨f,sp,hf,hok,h⟩:=h
 obtain⟨fd,F,b,kp⟩:=d f sp hok
 refine wpAny_Call_Name_kw (bL (wN (pos:=p) hN hv hdb hcd pins s σ H (fun v H'=>v=.ref f/\H'=H) I ⟨_,hf,rfl,rfl⟩) fun u s1 ⟨v,H1,I1,r,e1,e2⟩=>?_)
 subst e1 e2
 obtain rfl:u=Value.ref f:=r
 refine PySem.W.callWith_K (h₀:=X.base) I1.ok.mod.kin kp (bL (ha pos pins s1 σ H1 _ I1 h) fun us s2 ⟨vs,H2,I2,r,q⟩=>⟨I2.kIn,?_⟩) he hpl
 exact wI F (hr.mono hj) b .nil Dt I2 r (by rw[List.append_nil];exact q)
end
end L2
end
section
namespace L2
open PySem PySem.Spec PyProof.Rows
section
variable {X:Cx}{pins:List (Addr×Obj)}{σ:St}{H:Hp}{s:Shared}{h':Heap}
theorem Inv.turned2 {t':Nat}{e it:Addr}(I:Inv X pins σ H s)(k:∀b o,b≠e->b≠it->s.heap.get? b=some o->h'.get? b=some o)(f:∀b∈[e,it],lG X pins H b):Inv X pins σ H { s with heap:=h',toks:=t' }:=by
 have ne:∀b u,H b=some u->b≠e/\b≠it:=fun b u q=>⟨fun z=>(by rw[z,(f e (by simp)).1] at q;cases q),fun z=>(by rw[z,(f it (by simp)).1] at q;cases q)⟩
 have kk:∀b o,b∉[e,it]->s.heap.get? b=some o->h'.get? b=some o:=fun b o hb q=>k b o (fun z=>hb (by simp[z])) (fun z=>hb (by simp[z])) q
 refine I.step (g':=s.gens) (d':=s.drawn) (ch:=[e,it]) (fun b hb=>?_) (fun b o _ _ hc q _=>kk b o hc q) (fun b o _ _ hc q _=>⟨o.slots,kk b o hc q⟩) (fun _ _ _ _ n=>n)
  (fun b o hc q=>⟨o,kk b o hc q⟩) (fun _ _ q=>q) (fun _ _ _ q=>q) (fun b ps q=>⟨#[],by rw[q];simp⟩) (fun m hm=>?_) (fun b u q=>?_) I.bare
 ·obtain⟨f0,f1,f2,f3,f4,f5⟩:=f b hb
  exact⟨f3,f1,f4,f5⟩
 ·obtain⟨o,es,ep,ho,r⟩:=hm
  exact⟨o,es,ep,k _ o (Ne.symm (f e (by simp)).2.1) (Ne.symm (f it (by simp)).2.1) ho,r⟩
 ·refine (I.hok b u q).stay (fun c v hc g=>?_) (fun _ g=>g) fun _ _ g=>g
  rcases hc with z|z
  ·subst z;exact k _ v (ne _ u q).1 (ne _ u q).2 g
  ·exact k c v (ne c _ z).1 (ne c _ z).2 g
end
noncomputable def R8 (K:PySem.W.Frag)(a:Addr):It:=
 ⟨fun i H=>∃xs x,SqL K H a xs/\xs[i]?=some x,fun i H v H'=>∃p x,v=.ref p/\H p=none/\H'=upd H p (.tup [.int i,x])/\∀xs,SqL K H a xs->xs[i]?=some x,fun i H=>∃xs,SqL K H a xs/\xs.length≤i⟩
theorem Ad {P:Program}{w:World}{K:PySem.W.Frag}{elts:List Expr}{x1}{pos:Pos}(a e it:Addr)(hne:e≠it):Turn P w K (.Tuple elts x1 pos) (R8 K a) [e,it] e (fun i h=>(∃old,IsEnum h e it i old)/\h.IsListIter it a i) where
 mem:=by simp
 obj:=fun i h st b hb=>by
  obtain⟨⟨old,he⟩,o,e',c,d⟩:=st
  rcases List.mem_cons.mp hb with z|z
  ·subst z
   exact⟨_,he,fun v q=>by
    have q':Data.fields _=Data.cell v:=q
    cases q'⟩
  ·have e2:b=it:=by simpa using z
   subst e2
   exact⟨o,e',fun v q=>by rw[d] at q;cases q⟩
 keep:=fun i h h' st k=>⟨⟨st.1.choose,k e (by simp) _ st.1.choose_spec⟩,st.2.at fun o q=>k it (by simp) o q⟩
 item:=by
  intro X hP hw hK hc i pins s σ H E I hf st hg
  subst hP hw hK
  obtain⟨xs,x,hq,hx⟩:=hg
  obtain⟨its,rv,p,hz⟩:=I.list hq
  obtain⟨u,hu,ru⟩:=rv.get hx
  obtain⟨⟨old,he⟩,hit⟩:=st
  refine wpAny_pyNext_enum_item he hit p.isList (x:=u) (by simpa using hu) hne fun h' out lit tup sz kp=>⟨_,rfl,?_⟩
  refine wpAny_letOwnedTupleGo_enum out fun h2 he2 sb=>?_
  have fr:H s.heap.objs.size=none:=I.hok.fresh (Nat.le_refl _)
  have I1:Inv X pins σ (upd H s.heap.objs.size (.tup [.int i,x])) { s with heap:=s.heap.push { cls:=.type "tuple",data:=.seq #[.int i s.toks,u] },toks:=s.toks }:=by
   refine I.laid (t':=s.toks) (fun b u e=>Heap.get?_push_of_some _ e) (Nat.le_refl _) ?_
   exact⟨by simp;decide,[.int i s.toks,u],.cons ⟨_,rfl⟩ (.cons ru .nil),⟨_,Heap.get?_push_size _ rfl,rfl,_,rfl⟩⟩
  have ltE:e<s.heap.objs.size:=Heap.lt_size he
  have IM:it<s.heap.objs.size:=by obtain⟨o,q,_⟩:=hit;exact Heap.lt_size q
  have f1:∀b∈[e,it],lG X pins (upd H s.heap.objs.size (.tup [.int i,x])) b:=fun b hb=>by
   have hb':b≠s.heap.objs.size:=by
    rcases List.mem_cons.mp hb with z|z
    ·rw[z];exact Nat.ne_of_lt ltE
    ·rw[show b=it by simpa using z];exact Nat.ne_of_lt IM
   exact⟨by rw[au hb'];exact (hf b hb).1,(hf b hb).2⟩
  have I2:Inv X pins σ (upd H s.heap.objs.size (.tup [.int i,x])) { s with heap:=h2,toks:=s.toks+1 }:=by
   refine Inv.turned2 (e:=e) (it:=it) (t':=s.toks+1) (h':=h2) (s:={ s with heap:=s.heap.push { cls:=.type "tuple",data:=.seq #[.int i s.toks,u] },toks:=s.toks }) I1 (fun b o n1 n2 q=>?_) f1
   rw[sb.2 b n1]
   rcases Heap.get?_push_cases q with ⟨z1,z2⟩|z
   ·subst z1 z2;exact tup
   ·exact kp b o n1 n2 z
  refine⟨.ref s.heap.objs.size,_,I2,rfl,⟨_,x,rfl,fr,rfl,fun ys hy=>by rw[I.list_inj hy hq];exact hx⟩,⟨⟨_,he2⟩,?_⟩,fun b hb=>(f1 b hb).1⟩
  exact lit.at fun o q=>(sb.2 it (Ne.symm hne)).trans q
 done:=by
  intro X hP hw hK hc i pins s σ H E I hf st hg
  subst hP hw hK
  obtain⟨xs,hq,hx⟩:=hg
  obtain⟨its,rv,p,hz⟩:=I.list hq
  obtain⟨⟨old,he⟩,hit⟩:=st
  obtain⟨f0,f1,f2,f3,f4,f5⟩:=hf it (by simp)
  have hl:=rv.length
  exact wpAny_pyNext_enum_end (I.ok.hd hc) he hit p.isList (by simp;omega) fun h' eb=>⟨rfl,I.turned (t':=s.toks) (fun b o hb e=>eb b o hb e) f0 f1 f3 f4 f5⟩
 self:=fun _ _ _ _ _ st h=>wpAny_pyIter_enum st.1.choose_spec h
noncomputable def Db (K:PySem.W.Frag)(ta:TA):TI:=fun σ H R=>ta σ H fun vs H1=>∃a,vs=[.ref a]/\(∃xs,SqL K H1 a xs)/\R (R8 K a) H1
theorem mi:bootBuiltins "enumerate" = some (.type "enumerate"):=by decide +kernel
section
variable {X:Cx}{elts:List Expr}{tpos:Pos}
theorem GW {x1}{a:Expr}{ta:TA}{p pos:Pos}(hg:Gl X "enumerate")(hm:X.mg "enumerate" = none)(ha:PA X [a] ta)(hs:starEach [a] X.env=[(false,eval a X.env)]:=by rfl):PI X (.Tuple elts x1 tpos) (.Call (.Name "enumerate" p) [a] [] pos) (Db X.K ta):=by
 intro pins s σ H R I h
 refine Call_ (j5 I hg hm mi (PyProof.Rows.callWith_type1 (bL (ha pos pins s σ H _ I h) fun us s1 ⟨vs,H1,I1,r1,q1⟩=>?_) hs rfl))
 obtain⟨l,e,⟨xs,hq⟩,q⟩:=q1
 subst e
 cases r1 with
 |cons r rr=>
  cases rr
  cases r
  obtain⟨its,rv,pl,hz⟩:=I1.list hq
  refine call_enumerate_list pl.isList fun h' he hit sz kp=>?_
  refine wpAny_pyIter_enum he ?_
  have I2:Inv X pins σ H1 { s1 with heap:=h',toks:=s1.toks }:=I1.kept kp
  refine⟨s1.heap.objs.size+1,[s1.heap.objs.size+1,s1.heap.objs.size],_,_,H1,rfl,I2,Ad l _ _ (Nat.succ_ne_self _),⟨⟨_,he⟩,hit⟩,fun b hb=>?_,q⟩
  have hb':s1.heap.objs.size≤b:=by
   rcases List.mem_cons.mp hb with z|z
   ·rw[z];exact Nat.le_succ _
   ·have e:b=s1.heap.objs.size:=by simpa using z
    rw[e];exact Nat.le_refl _
  exact I1.fpOk hb' (I1.hok.fresh hb')
end
end L2
end
section
namespace L2
open PySem PySem.Spec PyProof.Rows PySem.SeqAt
end L2
end
section
namespace L2
open PySem PySem.Spec PyProof.Rows PySem.W
noncomputable def v0 {α:Type}(c:Nat->Nat->Bool):KasT α->α
 |.ret a=>a
 |.ask i j k=>v0 c (k (c i j))
theorem CQ {α:Type}{n:Nat}{P:α->Prop}{cmp:Nat->Nat->(Bool->Shared->Prop)->Shared->Prop}{Q:α->Shared->Prop}{s:Shared}(lt:Nat->Nat->Bool)(hc:∀i j C,i<n->j<n->C (lt i j) s->cmp i j C s) :
  ∀{t:KasT α},Leaf n P t->(P (v0 lt t)->Q (v0 lt t) s)->t.kasWp cmp Q s
 |.ret a,h,hq=>hq h
 |.ask i j k,h,hq=>hc i j _ h.1 h.2.1 (CQ lt hc (h.2.2 (lt i j)) hq)
theorem vz {α:Type}{n:Nat}{P:α->Prop}(lt:Nat->Nat->Bool):∀{t:KasT α},Leaf n P t->P (v0 lt t)
 |.ret a,h=>h
 |.ask i j k,h=>vz (t:=k (lt i j)) lt (h.2.2 (lt i j))
noncomputable def Fs (fin:Bool):List (Int×Int)->Bool
 |[]=>fin
 |(x,y)::r=>if x=y then Fs fin r else decide (x<y)
noncomputable def IM (xs ys:List Int):Bool:=Fs (decide (xs.length<ys.length)) (xs.zip ys)
noncomputable def qo (ks:List (List Int)):List Nat:=if ks.length<2 then List.range ks.length else (v0 (fun i j=>IM (ks.getD i []) (ks.getD j [])) (kas_sort ks.length)).toList
theorem AG (ks:List (List Int)):(qo ks).Perm (List.range ks.length):=by
 unfold qo
 split
 ·exact .refl _
 ·exact vz _ (rh (by omega))
inductive TupsIn (H:Hp):List V->List (List Int)->Prop where
 |nil:TupsIn H [] []
 |cons {a:Addr} {is:List Int} {ts:List V} {ks:List (List Int)}:H a=some (.tup (is.map V.int))->is≠[]->TupsIn H ts ks->TupsIn H (.ref a::ts) (is::ks)
theorem TupsIn.length {H:Hp}{ts:List V}{ks:List (List Int)}(h:TupsIn H ts ks):ts.length=ks.length:=by
 induction h with
 |nil=>rfl
 |cons _ _ _ ih=>rw[List.length_cons,List.length_cons,ih]
theorem TupsIn.get {H:Hp}{ts:List V}{ks:List (List Int)}(h:TupsIn H ts ks):∀{i:Nat},i<ts.length->∃a,ts.getD i .non=.ref a/\H a=some (.tup ((ks.getD i []).map V.int))/\ks.getD i []≠[]:=by
 induction h with
 |nil=>intro i hi;exact absurd hi (Nat.not_lt_zero _)
 | @cons a is ts ks h1 h2 h3 ih=>
  intro i hi
  cases i with
  |zero=>exact⟨a,rfl,h1,h2⟩
  |succ i=>exact ih (by simpa using hi)
section
variable {X:Cx}{pins:List (Addr×Obj)}{σ:St}{H:Hp}{s:Shared}
theorem A5 (I:Inv X pins σ H s){a:Addr}{is:List Int}(h:H a=some (.tup (is.map V.int))):a≠X.env.locals/\∃o n vs,Vals (is.map V.int) vs/\s.heap.get? a=some o/\o.cls=.type "tuple"/\o.data=.seq vs.toArray n:=by
 refine⟨fun z=>?_,?_⟩
 ·rw[z,I.free] at h;cases h
 ·obtain⟨_,its,r,o,e,c,n,d⟩:=(show ObjOk X.prog X.w H s.heap a (.tup (is.map V.int)) from I.hok a _ h)
  exact⟨o,n,its,r,e,c,d⟩
theorem Ge (I:Inv X pins σ H s){h':Heap}(kept:∀b o,b≠X.env.locals->s.heap.get? b=some o->h'.get? b=some o):∀{ts:List V} {ks:List (List Int)} {its:List Value},Vals ts its->TupsIn H ts ks →
  ∃fs:List Value,KatTups h' its fs/\fs.length=its.length/\∀v∈fs,∃i t,v=Value.int i t:=by
 intro ts ks its r hp
 induction hp generalizing its with
 |nil=>cases r;exact⟨[],KatTups.nil,rfl,fun _ z=>nomatch z⟩
 | @cons a is ts ks ha ne hp ih=>
  cases r with
  |cons r1 r2=>
   obtain⟨fs,h1,h2,h3⟩:=ih r2
   cases r1
   obtain⟨nl,o,n,vs,rv,eo,ec,ed⟩:=A5 I ha
   cases is with
   |nil=>exact absurd rfl ne
   |cons i is=>
    cases rv with
    |cons q1 q2=>
     obtain⟨tk,rfl⟩:=q1
     refine⟨.int i tk::fs,KatTups.cons (kept a o nl eo) ec ed rfl h1,by rw[List.length_cons,List.length_cons,h2],fun v hv=>?_⟩
     rcases List.mem_cons.mp hv with rfl|hv
     ·exact⟨i,tk,rfl⟩
     ·exact h3 v hv
theorem D8 {prog:Program}{w:World}{A:Around}{fin:Bool}{C:Bool->Shared->Prop}{s':Shared}:∀{xs ys:List Int} {us vs:List Value} {k:Nat},Vals (xs.map V.int) us->Vals (ys.map V.int) vs->C (Fs fin (xs.zip ys)) s'->KatLex prog w A true fin C (us.zip vs) k s'
 |[],ys,us,vs,k,r1,r2,h=>by cases r1;exact kat_nil h
 |x::xs,[],us,vs,k,r1,r2,h=>by cases r2;cases us<;>exact kat_nil h
 |x::xs,y::ys,us,vs,k,r1,r2,h=>by
  cases r1 with
  |cons a1 r1=>
   cases r2 with
   |cons a2 r2=>
    obtain⟨t,rfl⟩:=a1
    obtain⟨u,rfl⟩:=a2
    rw[List.zip_cons_cons] at h ⊢
    rw[Fs] at h
    refine kat_cons (wpAny_eqBool_int ?_)
    by_cases e:x=y
    ·rw[if_pos e] at h
     rw[show (x==y)=true by rw[e];exact beq_self_eq_true _]
     exact kat_yes (D8 r1 r2 h)
    ·rw[if_neg e] at h
     rw[show (x==y)=false from beq_eq_false_iff_ne.mpr e]
     refine kat_no ?_
     by_cases hk:k=0
     ·subst hk;exact oneLt_int h
     ·rw[show (true&&k==0)=false by simp[hk]]
      exact kat_one _ _ (lt_int h)
end
theorem sJ {X:Cx}:d7 X (.builtin "sorted") (fun xs H Q=>∃p ts ks,xs=[.ref p]/\SqL X.K H p ts/\ts.length<64/\TupsIn H ts ks/\∀l,H l=none->Q (.ref l) (upd H l (.lst ((qo ks).map fun i=>ts.getD i .non)))):=by
 intro pins s σ H xs us Q I r h
 obtain⟨p,ts,ks,rfl,hq,h64,hp,q⟩:=h
 obtain⟨u,rfl,rx⟩:=gX r
 cases rx
 obtain⟨its,rv,pl,hz⟩:=I.list hq
 have hl:=rv.length
 have hk:=hp.length
 by_cases h2:its.length<2
 ·refine tL pl.isList h2 ?_
  obtain⟨e,he⟩:=sortedAll_at s.heap its its.toArray
  have es:(qo ks).map (fun i=>ts.getD i .non)=ts:=by
   unfold qo
   rw[if_pos (by omega),←hk]
   exact jR _ _
  have q':=q (s.heap.objs.size+1) (I.hok.fresh (Nat.le_succ _))
  rw[es] at q'
  exact⟨.ref (s.heap.objs.size+1),_,I.laid (t':=s.toks) (fun b o z=>sortedAll_old z) (Nat.le_succ _) (show ObjOk X.prog X.w _ _ _ (.lst ts) from⟨hz,its,e,rv,he⟩),rfl,q'⟩
 ·obtain⟨m,F0⟩:=I.fr
  refine kat_sorted F0 CO pl.isList (by omega) (by omega) fun D e1 h' F' N' hlt=>?_
  have nD:=N' (D,seqObj "list" #[] e1) List.mem_cons_self
  have hD:s.heap.get? D=none:=by
   cases e:s.heap.get? D with
   |none=>rfl
   |some o=>exact absurd (hlt (D,o) (kg nD.2.1 nD.2.2 e)) (Nat.lt_irrefl _)
  have kept:∀b o,b≠X.env.locals->s.heap.get? b=some o->h'.get? b=some o:=fun b o hb e=>by
   cases z:X.base.get? b with
   |some v=>
    have y:=I.bk b v z
    rw[e] at y;cases y
    exact F'.keep b _ z
   |none=>exact (N' (b,o) (List.mem_cons_of_mem _ (kg hb z e))).1
  obtain⟨fs,k1,k2,k3⟩:=Ge I kept rv hp
  refine kat_kind (s:={ s with heap:=h' }) k1 (by omega) (T:=.type "int") (fun v hv=>?_) (by decide) ?_
  ·obtain⟨i,t,rfl⟩:=k3 v hv
   exact Looks.of_pure rfl
  ·refine CQ (n:=its.length) (P:=OfN its.length) (fun i j=>IM (ks.getD i []) (ks.getD j [])) (fun i j C hi hj hC=>?_) (rh (by omega)) (fun hpm=>?_)
   ·have get:∀i,i<its.length->∃a o n vs,Vals ((ks.getD i []).map V.int) vs/\its.getD i Value.none=.ref a/\h'.get? a=some o/\o.data=.seq vs.toArray n:=fun i hi=>by
     have hi':i<ts.length:=by omega
     obtain⟨a,e,ha,_⟩:=hp.get hi'
     have hr:=qI rv (j:=i) (by simpa using hi)
     have e2:its.getD i Value.none=its.toArray[i]'(by simpa using hi):=by simp[hi]
     rw[e] at hr
     obtain⟨nl,o,n,vs,rvs,eo,ec,ed⟩:=A5 I ha
     exact⟨a,o,n,vs,rvs,e2.trans hr,kept a o nl eo,ed⟩
    obtain⟨a,o,n,vs,rvs,g1,g2,g3⟩:=get i hi
    obtain⟨a',o',n',vs',rvs',g1',g2',g3'⟩:=get j hj
    show wpAny (model X.prog X.w) X.A.in1.in1 (keyLt' (tuples' (Value.type "int" != Value.type "tuple")) (its.getD i Value.none) (its.getD j Value.none)) C (fun _ _=>False) _
    rw[g1,g1',show (Value.type "int" != Value.type "tuple")=true by decide]
    refine kat_lt g2 g3 g2' g3' ?_
    have l1:=rvs.length
    have l2:=rvs'.length
    rw[List.length_map] at l1 l2
    refine D8 rvs rvs' ?_
    have e9:decide (vs.toArray.size<vs'.toArray.size)=decide ((ks.getD i []).length<(ks.getD j []).length):=by rw[List.size_toArray,List.size_toArray,l1,l2]
    rw[e9]
    exact hC
   ·have eo:qo ks=(v0 (fun i j=>IM (ks.getD i []) (ks.getD j [])) (kas_sort its.length)).toList:=by
     unfold qo
     rw[if_neg (by omega),show ks.length=its.length by omega]
    generalize hpme:v0 (fun i j=>IM (ks.getD i []) (ks.getD j [])) (kas_sort its.length)=pm at hpm eo ⊢
    have hmem:∀i∈pm.toList,i<its.length:=fun i hi=>List.mem_range.mp (hpm.subset hi)
    have ry:Vals (pm.toList.map fun i=>ts.getD i .non) (pm.toList.map fun i=>its.getD i Value.none):=ua rv hmem
    have perm:(pm.toList.map fun i=>ts.getD i .non).Perm ts:=by
     have z:=hpm.map (fun i=>ts.getD i V.non)
     rw[←hl,jR] at z
     exact z
    refine KasFin.intro F' N' (.head fun _ z=>?_) fun h'' c F'' N''=>?_
    ·exact Nat.ne_of_lt (hlt _ z)
    ·obtain⟨I2,hHD⟩:=I.ledger F0 F'' N'' hD ry (by rw[perm.length_eq];exact hz)
     have q':=q D hHD
     rw[eo] at q'
     exact⟨.ref D,_,I2,rfl,q'⟩
end L2
end
section
namespace L2
open PySem PySem.Spec PyProof.Rows
theorem qy (its:List Value):slicePick its.toArray none none (some (-1))=its.reverse.toArray:=by
 have e:sliceBounds none none (some (-1)) its.toArray.size=((its.length:Int) - 1,-1,-1):=by simp[sliceBounds]
 have r:sliceRange ((its.length:Int) - 1) (-1) (-1)=(List.range its.length).map fun (k:Nat)=>(((its.length:Nat):Int) - 1+(-1) * (k:Int)).toNat:=by
  unfold sliceRange
  have c:(if (-1:Int) > 0 then (if (its.length:Int) - 1 < -1 then (-1 - ((its.length:Int) - 1) + -1 - 1) / -1 else 0) else (if (its.length:Int) - 1 > -1 then ((its.length:Int) - 1 - -1 - -1 - 1) / (- -1) else 0)).toNat=its.length:=by
   rw[if_neg (by decide)]
   by_cases h:(its.length:Int) - 1 > -1
   ·rw[if_pos h,show (- -1:Int)=1 by decide,Int.ediv_one];omega
   ·rw[if_neg h];omega
  simp only[c]
 unfold slicePick
 rw[e]
 show (List.filterMap _ (sliceRange ((its.length:Int) - 1) (-1) (-1))).toArray=_
 rw[r,List.filterMap_map,←HT.pick_rev]
 congr 2
 funext k
 show its.toArray[(((its.length:Nat):Int) - 1+(-1) * (k:Int)).toNat]?=_
 rw[Int.mul_comm]
noncomputable def Nc (K:PySem.W.Frag)(te ts:TE):TE:=fun σ H Q=>te σ H fun x H1=>ts σ H1 fun y H2=>y=.int (-1)/\∃a xs,x=.ref a/\SqL K H2 a xs/\∀p,H2 p=none->Q (.ref p) (upd H2 p (.lst xs.reverse))
theorem FX {X:Cx}{e st:Expr}{te ts:TE}{p2 pos:Pos}(he:PE X e te)(hst:PE X st ts):PE X (.Subscript e (.Slice none none (some st) p2) pos) (Nc X.K te ts):=by
 intro pins s σ H Q I h
 refine Subscript_ (bL (he pins s σ H _ I h) fun v s1 ⟨x,H1,I1,r1,q1⟩=>?_)
 refine wpAny_Slice ?_
 rw[evalPart_none]
 refine wpAny_pure (wpAny_pure ?_)
 rw[evalPart_some]
 refine bL (hst pins s1 σ H1 _ I1 q1) fun vst s3 ⟨y,H3,I3,r3,ey,a,xs,ex,hx,q⟩=>?_
 subst ey ex
 obtain⟨t,rfl⟩:=r3
 cases r1
 have I4:Inv X pins σ H3 { s3 with heap:=s3.heap.push { cls:=.type "slice",data:=.fields #[.none,.none,.int (-1) t] } }:=I3.kept (t':=s3.toks) fun b ob q=>Heap.get?_push_of_some _ q
 show wpAny (model X.prog X.w) X.A (subscriptTail e (.Slice none none (some st) p2) (.ref a) (.ref s3.heap.objs.size)) (EP X pins σ Q) X.xe { s3 with heap:=s3.heap.push { cls:=.type "slice",data:=.fields #[.none,.none,.int (-1) t] } }
 obtain⟨its,r,ht,hz⟩:=I4.list hx
 have hlen:=r.length
 refine tail_any (ops:=[.ref a,.ref s3.heap.objs.size]) ht.isList.typeIs slot_list_getitem.lookup (wpAny_getItem_list_slice ht.isList (Heap.IsSliceOf.new ..) .none .none (.int _ _) (by simp) ?_ (by rw[List.size_toArray];omega)) (by with_unfolding_all rfl)
 rw[qy]
 refine⟨.ref _,_,I4.laid (t':=s3.toks) (o:=.lst xs.reverse) (fun b ob q=>Heap.get?_push_of_some _ q) (Nat.le_refl _) ?_,rfl,q _ (I4.hok.fresh (Nat.le_refl _))⟩
 exact⟨by rw[List.length_reverse];exact hz,_,0,r.reverse,Heap.get?_push_size _ rfl⟩
theorem mt:∀{ns:List Int} {its:List Value},Vals (ns.map V.int) its->IntsAre its ns
 |[],_,r=>by cases r;exact .nil
 |n::ns,_,r=>by
  cases r with
  |cons r1 r2=>
   obtain⟨t,rfl⟩:=r1
   exact .cons n t (mt r2)
theorem zu {X:Cx}(hc:X.calm=true):d7 X (.builtin "max") (fun xs H Q=>∃(p:Addr) (ns:List Int),xs=[.ref p]/\SqL X.K H p (ns.map V.int)/\0<ns.length/\∀M,M∈ns->(∀a∈ns,a≤M)->Q (.int M) H):=by
 intro pins s σ H xs us Q I r h
 obtain⟨p,ns,rfl,hq,hne,q⟩:=h
 obtain⟨u,rfl,rx⟩:=gX r
 cases rx
 obtain⟨its,rv,pl,hz⟩:=I.list hq
 have hi:=mt rv
 obtain⟨ys,e⟩:=hi.allInts.items
 have hns:ns=ys.toList.map (·.1):=by rw[←hi.numsOf,←nums_intItems,←e]
 have hsz:0<ys.size:=by have h3:=hne;rw[hns,List.length_map,Array.length_toList] at h3;exact h3
 have hl:=pl.isList
 rw[e] at hl
 refine max_intList (I.ok.hd hc) hl hsz fun v h' tk hv hk=>?_
 obtain⟨t,rfl⟩:=intItems_at hv
 obtain⟨h1,h2⟩:=argBest_gt (numAt ys) (ys.size - 1)
 refine⟨.int _,H,I.kept (t':=tk) hk,⟨t,rfl⟩,q _ ?_ fun a ha=>?_⟩
 ·rw[hns,numAt_eq];exact getD_mem (by rw[List.length_map,Array.length_toList];omega)
 ·rw[hns] at ha
  obtain⟨j,hj,rfl⟩:=mem_getD ha
  rw[List.length_map,Array.length_toList] at hj
  rw[←numAt_eq];exact h2 j (by omega)
theorem zK {X:Cx}(hc:X.calm=true):d7 X (.builtin "min") (fun xs H Q=>∃(p:Addr) (ns:List Int),xs=[.ref p]/\SqL X.K H p (ns.map V.int)/\0<ns.length/\∀M,M∈ns->(∀a∈ns,M≤a)->Q (.int M) H):=by
 intro pins s σ H xs us Q I r h
 obtain⟨p,ns,rfl,hq,hne,q⟩:=h
 obtain⟨u,rfl,rx⟩:=gX r
 cases rx
 obtain⟨its,rv,pl,hz⟩:=I.list hq
 have hi:=mt rv
 obtain⟨ys,e⟩:=hi.allInts.items
 have hns:ns=ys.toList.map (·.1):=by rw[←hi.numsOf,←nums_intItems,←e]
 have hsz:0<ys.size:=by have h3:=hne;rw[hns,List.length_map,Array.length_toList] at h3;exact h3
 have hl:=pl.isList
 rw[e] at hl
 refine min_intList (I.ok.hd hc) hl hsz fun v h' tk hv hk=>?_
 obtain⟨t,rfl⟩:=intItems_at hv
 obtain⟨h1,h2⟩:=argBest_lt (numAt ys) (ys.size - 1)
 refine⟨.int _,H,I.kept (t':=tk) hk,⟨t,rfl⟩,q _ ?_ fun a ha=>?_⟩
 ·rw[hns,numAt_eq];exact getD_mem (by rw[List.length_map,Array.length_toList];omega)
 ·rw[hns] at ha
  obtain⟨j,hj,rfl⟩:=mem_getD ha
  rw[List.length_map,Array.length_toList] at hj
  rw[←numAt_eq];exact h2 j (by omega)
theorem Ah {X:Cx}(hc:X.calm=true):d7 X (.builtin "sum") (fun xs H Q=>∃(p:Addr) (ns:List Int),xs=[.ref p]/\SqL X.K H p (ns.map V.int)/\Q (.int ns.sum) H):=by
 intro pins s σ H xs us Q I r h
 obtain⟨p,ns,rfl,hq,q⟩:=h
 obtain⟨u,rfl,rx⟩:=gX r
 cases rx
 obtain⟨its,rv,pl,hz⟩:=I.list hq
 have hi:=mt rv
 obtain⟨ys,e⟩:=hi.allInts.items
 have hns:ns=ys.toList.map (·.1):=by rw[←hi.numsOf,←nums_intItems,←e]
 have hl:=pl.isList
 rw[e] at hl
 refine sum_intListG (I.ok.hd hc) hl fun h' tk t' hk=>?_
 refine⟨.int ns.sum,H,I.kept (t':=tk) hk,⟨t',?_⟩,q⟩
 rw[preSum_eq,List.take_of_length_le (by simp),hns]
theorem B7 {X:Cx}:Na X (fun o i H Q=>∃p xs k v,o=.ref p/\i=.int k/\0≤k/\SqL X.K H p xs/\atI xs k=some v/\Q v H):=by
 intro pins s σ H o i ov iv Q I ro ri h
 obtain⟨p,xs,k,z,rfl,rfl,h0,hq,he,q⟩:=h
 cases ro
 obtain⟨t,rfl⟩:=ri
 obtain⟨its,r,pl,hz⟩:=I.list hq
 obtain⟨j,h1,h2,h3,h4,h5⟩:=nT he
 obtain⟨w,ew,rw'⟩:=r.get h2
 have hl:=r.length
 have hn:=mR
 have hj:k.toNat=j:=by
  rw[seqIndex_of h0 h5] at h1
  exact Option.some.inj h1
 exact wpAny_getItem_list pl.isList h0 (by omega) (by rw[hj];simpa using ew) ⟨z,H,I,rw',q⟩
end L2
end
section
namespace L2
open PySem PySem.Spec PyProof.Rows
section
variable {prog:Program}{w:World}{A:Around}{E:Value->Shared->Prop}{s:Shared}
theorem KG {it t:Addr}{i:Nat}{items:Array Value}{x:Value}{Q:Value->Shared->Prop}(hit:s.heap.IsTupleIter it t i)(ht:s.heap.IsTuple t items)(hx:items[i]?=some x)
  (hQ:∀h',h'.IsTupleIter it t (i+1)->Heap.SameBut it s.heap h'->Q x { s with heap:=h' }):wpAny (model prog w) A (Builtin.SmallTypes.nextOf (.ref it)) Q E s:=by
 have hT:=hit.typeIs
 obtain⟨o,ho,hc,hd⟩:=hit;obtain⟨ol,hol,_,nl,hdl⟩:=ht
 unfold Builtin.SmallTypes.nextOf
 refine wpAny_bind (wpAny_callSpecial?_slot (name:=Str.ofString "__next__") hT F.slot_tuple_iterator_next (wpAny_call_entry F.slot_tuple_iterator_next hT F.entry_tuple_iterator_next ?_ (F.args_tuple_iterator_next_1 _)))
 refine (?_:wpAny _ _ (field (.ref it) 0 >>= _) _ _ s);refine wpAny_bind (wpAny_field ho hd (x:=.ref t) rfl (?_:wpAny _ _ (if (Value.ref t==Value.none)=true then _ else _) _ _ s))
 rw[if_neg (show ¬((Value.ref t==Value.none)=true) from Bool.false_ne_true)];refine (?_:wpAny _ _ (field (.ref it) 1 >>= _) _ _ s);refine wpAny_bind (wpAny_field ho hd (x:=.int i 0) rfl (?_:wpAny _ _ (seqItems? (.ref t) >>= _) _ _ s));refine wpAny_bind (m:=seqItems? (.ref t)) (wpAny_seqItems hol hdl ?_);simp only[Int.toNat_natCast,hx]
 refine wpAny_bind (wpAny_setField ho hd (by simp) (wpAny_pure ⟨x,rfl,wpAny_pure (hQ _ ⟨_,Heap.get?_update_self _ ho (Obj.isFreed_of_fields (Obj.data_mapFields hd _)),(Obj.cls_mapFields ..).trans hc,by rw[Obj.data_mapFields hd];simp[rawInt]⟩ (Heap.SameBut.update ..))⟩))
theorem xQ {it t:Addr}{i:Nat}{items:Array Value}{Q:Value->Shared->Prop}(hh:A.handled=none)(hit:s.heap.IsTupleIter it t i)(ht:s.heap.IsTuple t items)(hx:items[i]?=none)
  (hE:∀h' e,Heap.ExtBut it s.heap h'->(∃o,h'.get? e=some o/\o.cls=.type "StopIteration")->E (.ref e) { s with heap:=h' }):wpAny (model prog w) A (Builtin.SmallTypes.nextOf (.ref it)) Q E s:=by
 have hT:=hit.typeIs
 obtain⟨o,ho,hc,hd⟩:=hit;obtain⟨ol,hol,_,nl,hdl⟩:=ht
 unfold Builtin.SmallTypes.nextOf
 refine wpAny_bind (wpAny_callSpecial?_slot (name:=Str.ofString "__next__") hT F.slot_tuple_iterator_next (wpAny_call_entry F.slot_tuple_iterator_next hT F.entry_tuple_iterator_next ?_ (F.args_tuple_iterator_next_1 _)))
 refine (?_:wpAny _ _ (field (.ref it) 0 >>= _) _ _ s);refine wpAny_bind (wpAny_field ho hd (x:=.ref t) rfl (?_:wpAny _ _ (if (Value.ref t==Value.none)=true then _ else _) _ _ s))
 rw[if_neg (show ¬((Value.ref t==Value.none)=true) from Bool.false_ne_true)];refine (?_:wpAny _ _ (field (.ref it) 1 >>= _) _ _ s);refine wpAny_bind (wpAny_field ho hd (x:=.int i 0) rfl (?_:wpAny _ _ (seqItems? (.ref t) >>= _) _ _ s));refine wpAny_bind (m:=seqItems? (.ref t)) (wpAny_seqItems hol hdl ?_);simp only[Int.toNat_natCast,hx]
 refine wpAny_bind (wpAny_rule (wpAny_bind (wpAny_setField ho hd (by simp) (?_:wpAny _ _ (newExc (.type "StopIteration") [] >>= _) _ _ _))))
 refine wpAny_bind ?_;simp only[newExc,newTuple];refine wpAny_bind (wpAny_newObj_type ?_ (by size_fits))
 refine wpAny_bind (m:=firstArgMember _ _) (wpAny_of_eq (a:=Value.none) (by first|rfl|(simp only[firstArgMember];rfl)) (wpAny_newObj_type ?_ (by size_fits)))
 simp only[raiseNew];refine wpAny_bind (wpAny_handled ?_);first|rw[show A.in1.handled=none from hh]|rw[hh]
 exact wpAny_bind (wpAny_pure (wpAny_throw (hE _ _ (((Heap.SameBut.update ..).extBut.push _).push _) ⟨_,Heap.get?_push_size _ rfl,rfl⟩)))
end
theorem sn {h h':Heap}{a t:Addr}{i:Nat}(x:h.IsTupleIter a t i)(k:∀o,h.get? a=some o->h'.get? a=some o):h'.IsTupleIter a t i:=let ⟨o,ho,r⟩:=x;⟨o,k o ho,r⟩
theorem Fw {h h':Heap}{a:Addr}{its:Array Value}(x:h.IsTuple a its)(k:∀o,h.get? a=some o->h'.get? a=some o):h'.IsTuple a its:=let ⟨o,ho,r⟩:=x;⟨o,k o ho,r⟩
theorem Lk {prog:Program}{w:World}{A:Around}(hh:A.handled=none)(it l:Addr)(hne:l≠it)(items:Array Value):Draws prog w A it [it,l] items.size (fun i v=>items[i]?=some v) (fun i h=>h.IsTupleIter it l i/\h.IsTuple l items) where
 live:=fun _ _ ⟨⟨o,ho,_⟩,_⟩=>⟨o,ho⟩
 frame:=fun _ _ _ ⟨a,b⟩ hk=>⟨sn a fun o e=>hk it (by simp) o e,Fw b fun o e=>hk l (by simp) o e⟩
 item:=fun i s Q E hi ⟨a,b⟩ hQ=>KG a b (x:=items[i]) (by simp[hi]) fun h' hit' hs'=>hQ _ h' s.toks (by simp[hi]) ⟨hit',b.extBut hs'.extBut hne⟩ hs'
 done:=fun s Q E ⟨a,b⟩ hE=>xQ hh a b (by simp) hE
open AutoSeq1 (wpAny_loadPart') in
theorem G5 (l:Addr)(items:Array Value)(n:Nat)(dct:Option Addr)(sl:Array (Option Value)):Meets (Builtin.«enumerate.__new__» ⟨[.type "enumerate",.ref l],[]⟩) (fun _ R s=>s.heap.get? l=some { cls:=.type "tuple",dict:=dct,data:=.seq items n,slots:=sl }/\R (.ok (.ret (.ref (s.heap.push { cls:=.type "tuple_iterator",data:=.fields #[.ref l,.int 0 0] }).objs.size))) { s with heap:=(s.heap.push { cls:=.type "tuple_iterator",data:=.fields #[.ref l,.int 0 0] }).push { cls:=.type "enumerate",data:=.fields #[.none,.bool false,.ref s.heap.objs.size,rawInt 0,.none,.none] } }):=
 .of_wp fun prog w A R s h=>by
  obtain⟨hp,g,d,tk,os⟩:=s;obtain⟨hl,h⟩:=h
  have hsub:=sub_enumerate;have hL:Heap.IsTuple (Shared.heap ⟨hp,g,d,tk,os⟩) l items:=⟨_,hl,rfl,n,rfl⟩
  wp_walk using wpAny_loadPart' hl;refine wpAny_stack_any fun st=>wpAny_pure ?_
  split
  ·rename_i c _ _ _ _ _;cases (c==Value.type "enumerate")<;>(wp_walk using wpAny_loadPart' hl,wpAny_pyIter_tuple hL;exact⟨_,rfl,h⟩)
  ·wp_walk using wpAny_loadPart' hl,wpAny_pyIter_tuple hL;exact⟨_,rfl,h⟩
section
variable {prog:Program}{w:World}{A:Around}{E:Value->Shared->Prop}{s:Shared}
theorem Em {l:Addr}{items:Array Value}{Q:Value->Shared->Prop}(hL:s.heap.IsTuple l items)
  (h:∀h',IsEnum h' (s.heap.objs.size+1) s.heap.objs.size 0 .none->h'.IsTupleIter s.heap.objs.size l 0->h'.objs.size=s.heap.objs.size+2->(∀b o,s.heap.get? b=some o->h'.get? b=some o)->Q (.ref (s.heap.objs.size+1)) { s with heap:=h' }):wpAny (model prog w) A (call (.type "enumerate") [.ref l]) Q E s:=by
 obtain⟨⟨c,dct,dt,sl⟩,hl,hc,n,hd⟩:=hL;replace hc:c=.type "tuple":=hc;replace hd:dt=.seq items n:=hd;subst hc hd
 refine callType_new F.called_enumerate (by decide) (F.typeCall_enumerate_1 _) (F.newCall_enumerate_1 _) (fun obj=>F.args_object_init_2 obj _) F.entry_enumerate_new (G5 l items n dct sl) ⟨hl,?_⟩
 have hz:(s.heap.push { cls:=.type "tuple_iterator",data:=.fields #[.ref l,.int 0 0] }).objs.size=s.heap.objs.size+1:=Heap.size_push ..
 refine (?_:_/\_);rw[hz]
 have he:IsEnum ((s.heap.push { cls:=.type "tuple_iterator",data:=.fields #[.ref l,.int 0 0] }).push { cls:=.type "enumerate",data:=.fields #[.none,.bool false,.ref s.heap.objs.size,rawInt 0,.none,.none] }) (s.heap.objs.size+1) s.heap.objs.size 0 .none:=by
  have:=Heap.get?_push_size (s.heap.push { cls:=.type "tuple_iterator",data:=.fields #[.ref l,.int 0 0] }) (o:={ cls:=.type "enumerate",data:=.fields #[.none,.bool false,.ref s.heap.objs.size,rawInt 0,.none,.none] }) rfl
  rw[hz] at this;exact this
 exact⟨⟨_,he,rfl⟩,h _ he ⟨_,Heap.get?_push_of_some _ (Heap.get?_push_size _ rfl),rfl,rfl⟩ (by rw[Heap.size_push,hz]) fun b o x=>Heap.get?_push_of_some _ (Heap.get?_push_of_some _ x)⟩
end
noncomputable def RU (K:PySem.W.Frag)(a:Addr):It:=
 ⟨fun i H=>∃xs x,SqT K H a xs/\xs[i]?=some x,fun i H v H'=>∃p x,v=.ref p/\H p=none/\H'=upd H p (.tup [.int i,x])/\∀xs,SqT K H a xs->xs[i]?=some x,fun i H=>∃xs,SqT K H a xs/\xs.length≤i⟩
theorem xa {P:Program}{w:World}{K:PySem.W.Frag}{elts:List Expr}{x1}{pos:Pos}(a e it:Addr)(hne:e≠it):Turn P w K (.Tuple elts x1 pos) (RU K a) [e,it] e (fun i h=>(∃old,IsEnum h e it i old)/\h.IsTupleIter it a i) where
 mem:=by simp
 obj:=fun i h st b hb=>by
  obtain⟨⟨old,he⟩,o,e',c,d⟩:=st
  rcases List.mem_cons.mp hb with z|z
  ·subst z
   exact⟨_,he,fun v q=>by
    have q':Data.fields _=Data.cell v:=q
    cases q'⟩
  ·have e2:b=it:=by simpa using z
   subst e2
   exact⟨o,e',fun v q=>by rw[d] at q;cases q⟩
 keep:=fun i h h' st k=>⟨⟨st.1.choose,k e (by simp) _ st.1.choose_spec⟩,sn st.2 fun o q=>k it (by simp) o q⟩
 item:=by
  intro X hP hw hK hc i pins s σ H E I hf st hg
  subst hP hw hK
  obtain⟨xs,x,hq,hx⟩:=hg
  obtain⟨its,rv,p,hz⟩:=I.tuple hq
  obtain⟨u,hu,ru⟩:=rv.get hx
  obtain⟨⟨old,he⟩,hit⟩:=st
  have pt:s.heap.IsTuple a its.toArray:=p
  have nai:a≠it:=fun q=>by
   obtain⟨o1,h1,c1,_⟩:=pt
   obtain⟨o2,h2,c2,_⟩:=hit
   rw[q,h2] at h1;cases h1;rw[c2] at c1;exact absurd (Value.type.inj c1) (by decide)
  have nae:e≠a:=fun q=>by
   obtain⟨o1,h1,c1,_⟩:=pt
   rw[←q,he] at h1;cases h1;exact absurd (Value.type.inj c1) (by decide)
  have hlt:i<its.toArray.size:=by
   have:=(List.getElem?_eq_some_iff.mp hu).1
   simpa using this
  refine wpAny_pyNext_enum_itemD (Lk (A:=X.A.in1) (I.ok.hd hc) it a nai its.toArray) he ⟨hit,pt⟩ hlt hne (by simp[hne,nae]) fun u' h' tk hu' out lit tup sz kp=>⟨_,rfl,?_⟩
  obtain rfl:u'=u:=by
   have h1:its[i]?=some u':=by simpa using hu'
   rw[hu] at h1;exact (Option.some.inj h1).symm
  refine wpAny_letOwnedTupleGo_enum out fun h2 he2 sb=>?_
  have fr:H s.heap.objs.size=none:=I.hok.fresh (Nat.le_refl _)
  have I1:Inv X pins σ (upd H s.heap.objs.size (.tup [.int i,x])) { s with heap:=s.heap.push { cls:=.type "tuple",data:=.seq #[.int i tk,u'] },toks:=s.toks }:=by
   refine I.laid (t':=s.toks) (fun b u e=>Heap.get?_push_of_some _ e) (Nat.le_refl _) ?_
   exact⟨by simp;decide,[.int i tk,u'],.cons ⟨_,rfl⟩ (.cons ru .nil),⟨_,Heap.get?_push_size _ rfl,rfl,_,rfl⟩⟩
  have ltE:e<s.heap.objs.size:=Heap.lt_size he
  have IM:it<s.heap.objs.size:=by obtain⟨o,q,_⟩:=hit;exact Heap.lt_size q
  have f1:∀b∈[e,it],lG X pins (upd H s.heap.objs.size (.tup [.int i,x])) b:=fun b hb=>by
   have hb':b≠s.heap.objs.size:=by
    rcases List.mem_cons.mp hb with z|z
    ·rw[z];exact Nat.ne_of_lt ltE
    ·rw[show b=it by simpa using z];exact Nat.ne_of_lt IM
   exact⟨by rw[au hb'];exact (hf b hb).1,(hf b hb).2⟩
  have I2:Inv X pins σ (upd H s.heap.objs.size (.tup [.int i,x])) { s with heap:=h2,toks:=tk+1 }:=by
   refine Inv.turned2 (e:=e) (it:=it) (t':=tk+1) (h':=h2) (s:={ s with heap:=s.heap.push { cls:=.type "tuple",data:=.seq #[.int i tk,u'] },toks:=s.toks }) I1 (fun b o n1 n2 q=>?_) f1
   rw[sb.2 b n1]
   rcases Heap.get?_push_cases q with ⟨z1,z2⟩|z
   ·subst z1 z2;exact tup
   ·exact kp b o n1 n2 z
  refine⟨.ref s.heap.objs.size,_,I2,rfl,⟨_,x,rfl,fr,rfl,fun ys hy=>by rw[I.tuple_inj hy hq];exact hx⟩,⟨⟨_,he2⟩,?_⟩,fun b hb=>(f1 b hb).1⟩
  exact sn lit.1 fun o q=>(sb.2 it (Ne.symm hne)).trans q
 done:=by
  intro X hP hw hK hc i pins s σ H E I hf st hg
  subst hP hw hK
  obtain⟨xs,hq,hx⟩:=hg
  obtain⟨its,rv,p,hz⟩:=I.tuple hq
  obtain⟨⟨old,he⟩,hit⟩:=st
  obtain⟨f0,f1,f2,f3,f4,f5⟩:=hf it (by simp)
  have hl:=rv.length
  have hT:s.TypeIs (.ref e) "enumerate":=⟨_,he,rfl⟩
  unfold pyNext
  refine wpAny_bind (wpAny_attempt (wpAny_callSpecial?_slot (name:=Str.ofString "__next__") hT F.slot_enumerate_next (wpAny_call_entry F.slot_enumerate_next hT F.entry_enumerate_next ?_ (F.args_enumerate_next_1 _))))
  refine (?_:wpAny _ _ (field (.ref e) 2 >>= _) _ _ _);refine wpAny_bind (wpAny_field he rfl (x:=.ref it) rfl ?_)
  refine wpAny_bind (xQ (I.ok.hd hc) hit (items:=its.toArray) p (by simp;omega) fun h' x he' hx'=>?_)
  obtain⟨o,ho,hc⟩:=hx'
  exact wpAny_bind (wpAny_isInstance (T:="StopIteration") (b:=true) ⟨o,ho,hc⟩ isSubtype_stop (wpAny_pure ⟨rfl,I.turned (t':=s.toks) (fun b o hb e=>he' b o hb e) f0 f1 f3 f4 f5⟩))
 self:=fun _ _ _ _ _ st h=>wpAny_pyIter_enum st.1.choose_spec h
noncomputable def wL (K:PySem.W.Frag)(ta:TA):TI:=fun σ H R=>ta σ H fun vs H1=>∃a,vs=[.ref a]/\(∃xs,SqT K H1 a xs)/\R (RU K a) H1
section
variable {X:Cx}{elts:List Expr}{tpos:Pos}
theorem CH {x1}{a:Expr}{ta:TA}{p pos:Pos}(hg:Gl X "enumerate")(hm:X.mg "enumerate" = none)(ha:PA X [a] ta)(hs:starEach [a] X.env=[(false,eval a X.env)]:=by rfl):PI X (.Tuple elts x1 tpos) (.Call (.Name "enumerate" p) [a] [] pos) (wL X.K ta):=by
 intro pins s σ H R I h
 refine Call_ (j5 I hg hm mi (PyProof.Rows.callWith_type1 (bL (ha pos pins s σ H _ I h) fun us s1 ⟨vs,H1,I1,r1,q1⟩=>?_) hs rfl))
 obtain⟨l,e,⟨xs,hq⟩,q⟩:=q1
 subst e
 cases r1 with
 |cons r rr=>
  cases rr
  cases r
  obtain⟨its,rv,pl,hz⟩:=I1.tuple hq
  refine Em (items:=its.toArray) pl fun h' he hit sz kp=>?_
  refine wpAny_pyIter_enum he ?_
  have I2:Inv X pins σ H1 { s1 with heap:=h',toks:=s1.toks }:=I1.kept kp
  refine⟨s1.heap.objs.size+1,[s1.heap.objs.size+1,s1.heap.objs.size],_,_,H1,rfl,I2,xa l _ _ (Nat.succ_ne_self _),⟨⟨_,he⟩,hit⟩,fun b hb=>?_,q⟩
  have hb':s1.heap.objs.size≤b:=by
   rcases List.mem_cons.mp hb with z|z
   ·rw[z];exact Nat.le_succ _
   ·have e:b=s1.heap.objs.size:=by simpa using z
    rw[e];exact Nat.le_refl _
  exact I1.fpOk hb' (I1.hok.fresh hb')
end
end L2
end
section
namespace L2
open PySem PySem.Spec PyProof.Rows
inductive NumEs (w:World):List DictEntry->List (Str×Int)->List (jI×Value)->Prop where
 |nil:NumEs w [] [] []
 |cons {x:Str} {t u:Tok} {i:Int} {es:List DictEntry} {kvs:List (Str×Int)} {vs:List (jI×Value)}:NumEs w es kvs vs->NumEs w (⟨PyData.keyHash w.params x,.str x t,.int i u⟩::es) ((x,i)::kvs) ((.inr x,.int i u)::vs)
structure NumTab (w:World)(K:PySem.W.Frag)(a:Addr)(kvs:List (Str×Int)):Prop where
 sys:(a==sysModules)=false
 nd:(kvs.map (·.1)).Nodup
 it:∃(es:Array DictEntry) (ep:Nat) (vs:List (jI×Value)),K.lookup a=some ⟨.type "dict",none,.dict es ep,#[]⟩/\NumEs w es.toList kvs vs
noncomputable def iT (kvs:List (Str×Int))(x:Str):Option Int:=(kvs.find? fun p=>decide (p.1=x)).map (·.2)
theorem NumEs.ok {P:Program}{w:World}:∀{es:List DictEntry} {kvs:List (Str×Int)} {vs:List (jI×Value)},NumEs w es kvs vs->(∀e∈es,∃k,(dv P w).is k e.key=true/\e.hash=(dv P w).hash k)/\Pairs (dv P w) es vs/\vs.map (·.1)=kvs.map (fun p=>(.inr p.1:jI))
 |_,_,_,.nil=>⟨fun _ h=>(by cases h),.nil,rfl⟩
 |_,_,_,@NumEs.cons _ x t u i es kvs vs r=>by
  obtain⟨a,b,c⟩:=r.ok (P:=P)
  refine⟨fun e he=>?_,.cons (gL P w x t) rfl b,by rw[List.map_cons,List.map_cons,c]⟩
  rcases List.mem_cons.mp he with rfl|he
  ·exact⟨.inr x,gL P w x t,rfl⟩
  ·exact a e he
theorem NumEs.val {w:World}{es:List DictEntry}{kvs:List (Str×Int)}{vs:List (jI×Value)}(h:NumEs w es kvs vs)(x:Str):RelV ((iT kvs x).elim .non .int) ((valueAt vs (.inr x)).getD .none):=by
 induction h with
 |nil=>rfl
 | @cons y t u i es kvs vs r ih=>
  by_cases e:y=x
  ·simp only[valueAt,iT,List.find?_cons,decide_eq_true e,e]
   simp[RelV]
  ·have e':¬((Sum.inr y:jI)=Sum.inr x):=fun q=>e (Sum.inr.inj q)
   simp only[valueAt,iT,List.find?_cons,decide_eq_false e,decide_eq_false e'] at ih ⊢
   exact ih
noncomputable def G8 (kvs:List (Str×Int))(a:Addr)(to ti:TE):TE:=fun σ H Q=>to σ H fun x H1=>x=.ref a/\ti σ H1 fun y H2=>∃n,y=.str n/\Q ((iT kvs n).elim .non .int) H2
section
variable {X:Cx}{o e:Expr}{apos cpos:Pos}{to ti:TE}{a:Addr}{kvs:List (Str×Int)}
theorem Ap (T:NumTab X.w X.K a kvs)(ho:PE X o to)(he:PE X e ti)(m:M1 X o "get" apos e cpos):PE X (.Call (.Attribute o "get" apos) [e] [] cpos) (G8 kvs a to ti):=by
 intro pins s σ H Q I h
 obtain⟨sys,nd,es,ep,vs,l,r⟩:=T
 obtain⟨a1,a2,a3⟩:=r.ok (P:=X.prog)
 have D:∀{h:Heap},X.K.In h->h.DictOf (dv X.prog X.w) a vs:=fun {h} kin=>by
  refine⟨_,es,ep,kin a _ l,⟨rfl,rfl,rfl⟩,rfl,fun e he=>a1 e (Array.mem_toList_iff.mpr he),a2,?_⟩
  rw[a3,show (kvs.map fun p=>(Sum.inr p.1:jI))=(kvs.map (·.1)).map (Sum.inr:Str->jI) by simp]
  exact nd.map _ fun _ _ ne e=>ne (Sum.inr.inj e)
 refine wpAny_Call_method m.base m.few m.line PySem.F.plainAttrs_dict PySem.F.slot_dict_get PySem.F.type_dict_get (bL (ho pins s σ H _ I h) fun u s1 hh=>?_)
 obtain⟨x,H1,I1,rx,ex,q1⟩:=hh
 subst ex
 obtain rfl:u=Value.ref a:=rx
 have d1:=D I1.kIn
 refine⟨d1.typeIs,fun b q=>?_,?_⟩
 ·cases q
  obtain⟨ob,_,_,h1,h2,_⟩:=d1
  exact⟨ob,h1,h2.2.1⟩
 ·rw[m.trees]
  refine Calls.callWith_builtin rfl (Calls.evalArgs_plain (Calls.spliced_cons (bL (he pins s1 σ H1 _ I1 q1) fun iv s2 hh=>Calls.spliced_nil ?_)))
  obtain⟨y,H2,I2,ry,n,ey,q2⟩:=hh
  subst ey
  have d2:=D I2.kIn
  refine call_meetsIn PySem.F.slot_dict_get d2.typeIs PySem.F.entry_dict_get (PySem.F.args_dict_get_2 _ _) (meets_dict_get (dv X.prog X.w) a (B0 (k:=.inr n) ry) sys) ⟨_,d2.mapOf,?_⟩
  exact⟨_,H2,I2.tok _,r.val n,q2⟩
end
end L2
end
section
namespace Pu
open PySem PySem.Spec L2
inductive PV where
 |non|bl (b:Bool)|int (i:Int)|str (x:Str)|ty (n:String)|fn (a:Addr)
 |tup (ps:List PV)|lst (ps:List PV)|dct (ks:List jI) (ps:List PV)
 |src (ps:List PV)|ktu (ps:List PV)
 |rng (lo hi:Int)
mutual
noncomputable def Rep (K:PySem.W.Frag)(F:Hp):PV->V->Prop
 |.non,v=>v=.non
 |.bl b,v=>v=.bl b
 |.int i,v=>v=.int i
 |.str x,v=>v=.str x
 |.ty n,v=>v=.ty n
 |.fn a,v=>v=.ref a
 |.tup ps,v=>∃a vs,v=.ref a/\F a=some (.tup vs)/\Reps K F ps vs
 |.lst ps,v=>∃a vs,v=.ref a/\F a=some (.lst vs)/\Reps K F ps vs
 |.src ps,v=>∃a vs,v=.ref a/\SqL K F a vs/\Reps K F ps vs
 |.ktu ps,v=>∃a vs,v=.ref a/\SqT K F a vs/\Reps K F ps vs
 |.rng lo hi,v=>∃a,v=.ref a/\F a=some (.rng lo hi)
 |.dct ks ps,v=>∃a kvs,v=.ref a/\F a=some (.dK kvs)/\kvs.map (·.1)=ks/\Reps K F ps (kvs.map (·.2))
noncomputable def Reps (K:PySem.W.Frag)(F:Hp):List PV->List V->Prop
 |[],vs=>vs=[]
 |p::ps,vs=>∃v r,vs=v::r/\Rep K F p v/\Reps K F ps r
end
theorem zM {K:PySem.W.Frag}{F F':Hp}{a:Addr}{xs:List V}(e:Same F F')(h:SqT K F a xs):SqT K F' a xs:=by
 rcases h with (h|⟨o,h⟩)|h
 ·exact .inl (.inl (e _ _ h))
 ·exact .inl (.inr ⟨o,e _ _ h⟩)
 ·exact .inr h
mutual
theorem Rep.mono {K:PySem.W.Frag}{F F':Hp}(e:Same F F'):∀{p:PV} {v:V},Rep K F p v->Rep K F' p v
 |.non,_,h=>h
 |.bl _,_,h=>h
 |.int _,_,h=>h
 |.str _,_,h=>h
 |.ty _,_,h=>h
 |.fn _,_,h=>h
 |.tup ps,_,h=>by
  obtain⟨a,vs,e1,e2,e3⟩:=h
  exact⟨a,vs,e1,e _ _ e2,Reps.mono e e3⟩
 |.lst ps,_,h=>by
  obtain⟨a,vs,e1,e2,e3⟩:=h
  exact⟨a,vs,e1,e _ _ e2,Reps.mono e e3⟩
 |.src ps,_,h=>by
  obtain⟨a,vs,e1,e2,e3⟩:=h
  exact⟨a,vs,e1,e.seq e2,Reps.mono e e3⟩
 |.ktu ps,_,h=>by
  obtain⟨a,vs,e1,e2,e3⟩:=h
  exact⟨a,vs,e1,zM e e2,Reps.mono e e3⟩
 |.rng lo hi,_,h=>by
  obtain⟨a,e1,e2⟩:=h
  exact⟨a,e1,e _ _ e2⟩
 |.dct ks ps,_,h=>by
  obtain⟨a,kvs,e1,e2,e3,e4⟩:=h
  exact⟨a,kvs,e1,e _ _ e2,e3,Reps.mono e e4⟩
theorem Reps.mono {K:PySem.W.Frag}{F F':Hp}(e:Same F F'):∀{ps:List PV} {vs:List V},Reps K F ps vs->Reps K F' ps vs
 |[],_,h=>h
 |_::_,_,h=>by
  obtain⟨v,r,e1,e2,e3⟩:=h
  exact⟨v,r,e1,Rep.mono e e2,Reps.mono e e3⟩
end
theorem Reps.length {K:PySem.W.Frag}{F:Hp}:∀{ps:List PV} {vs:List V},Reps K F ps vs->vs.length=ps.length
 |[],_,h=>by rw[show _=[] from h];rfl
 |p::ps,_,⟨v,r,e,_,t⟩=>by rw[e,List.length_cons,List.length_cons,t.length]
theorem Reps.get {K:PySem.W.Frag}{F:Hp}:∀{ps:List PV} {vs:List V} {i:Nat} {p:PV},Reps K F ps vs->ps[i]?=some p->∃v,vs[i]?=some v/\Rep K F p v
 |[],_,i,p,_,e=>by simp at e
 |_::_,_,0,_,⟨v,r,e,h,t⟩,q=>by simp at q;subst q;exact⟨v,by rw[e];rfl,h⟩
 |_::ps,_,i+1,p,⟨v,r,e,h,t⟩,q=>by
  obtain⟨u,h1,h2⟩:=t.get (i:=i) (p:=p) (by simpa using q)
  exact⟨u,by rw[e];simpa using h1,h2⟩
theorem Reps.app {K:PySem.W.Frag}{F:Hp}:∀{ps qs:List PV} {vs us:List V},Reps K F ps vs->Reps K F qs us->Reps K F (ps++qs) (vs++us)
 |[],_,_,_,h,q=>by rw[show _=[] from h];exact q
 |_::_,_,_,_,⟨v,r,e,h,t⟩,q=>⟨v,_,by rw[e];rfl,h,t.app q⟩
theorem Reps.one {K:PySem.W.Frag}{F:Hp}{p:PV}{v:V}(h:Rep K F p v):Reps K F [p] [v]:=⟨v,[],rfl,h,rfl⟩
theorem Reps.set {K:PySem.W.Frag}{F:Hp}{p:PV}{v:V}(h:Rep K F p v):∀{ps:List PV} {vs:List V} (i:Nat),Reps K F ps vs->Reps K F (ps.set i p) (vs.set i v)
 |[],_,_,q=>by rw[show _=[] from q];rfl
 |_::_,_,0,⟨v',r,e,_,t⟩=>by rw[e];exact⟨v,r,rfl,h,t⟩
 |_::_,_,i+1,⟨v',r,e,h',t⟩=>by rw[e];exact⟨v',_,rfl,h',Reps.set h i t⟩
theorem Reps.take {K:PySem.W.Frag}{F:Hp}:∀{ps:List PV} {vs:List V} (n:Nat),Reps K F ps vs->Reps K F (ps.take n) (vs.take n)
 |_,_,0,_=>by simp[Reps]
 |[],_,_+1,q=>by rw[show _=[] from q];rfl
 |_::_,_,n+1,⟨v,r,e,h,t⟩=>by rw[e];exact⟨v,_,rfl,h,t.take n⟩
theorem Reps.drop {K:PySem.W.Frag}{F:Hp}:∀{ps:List PV} {vs:List V} (n:Nat),Reps K F ps vs->Reps K F (ps.drop n) (vs.drop n)
 |_,_,0,q=>q
 |[],_,_+1,q=>by rw[show _=[] from q];rfl
 |_::_,_,n+1,⟨v,r,e,h,t⟩=>by rw[e];exact t.drop n
theorem Reps.rev {K:PySem.W.Frag}{F:Hp}:∀{ps:List PV} {vs:List V},Reps K F ps vs->Reps K F ps.reverse vs.reverse
 |[],_,q=>by rw[show _=[] from q];rfl
 |_::_,_,⟨v,r,e,h,t⟩=>by rw[e,List.reverse_cons,List.reverse_cons];exact t.rev.app (.one h)
structure Grow (F H F' H':Hp):Prop where
 hh:Same H H'
 ff:Same F F'
 fh:Same F' H'
 nw:∀b o,F' b=some o->F b=some o\/H b=none\/∃vs,o=.tup vs
theorem Grow.refl {F H:Hp}(h:Same F H):Grow F H F H:=⟨Same.refl _,Same.refl _,h,fun _ _ e=>.inl e⟩
theorem Grow.trans {F H F1 H1 F2 H2:Hp}(a:Grow F H F1 H1)(b:Grow F1 H1 F2 H2):Grow F H F2 H2:=
 ⟨a.hh.trans b.hh,a.ff.trans b.ff,b.fh,fun c o e=>(b.nw c o e).elim (a.nw c o) fun z=>.inr (z.elim (fun z=>.inl (a.hh.free z)) .inr)⟩
theorem Grow.keep {F H F' H':Hp}(g:Grow F H F' H'){a:Addr}{o:HO}(hF:F a=none)(hH:H a=some o)(ho:∀vs,o≠.tup vs:=by intro vs h;cases h):F' a=none/\H' a=some o:=by
 refine⟨?_,g.hh _ _ hH⟩
 cases e:F' a with
 |none=>rfl
 |some u=>
  rcases g.nw a u e with z|z|⟨vs,z⟩
  ·rw[hF] at z;cases z
  ·rw[hH] at z;cases z
  ·have h1:=g.fh a u e
   rw[g.hh _ _ hH] at h1
   cases h1
   exact absurd z (ho vs)
theorem Grow.new {F H:Hp}(h:Same F H){a:Addr}(ha:H a=none)(o:HO):Grow F H (upd F a o) (upd H a o):=by
 have hFa:F a=none:=h.free ha
 refine⟨bj ha o,bj hFa o,fun b u e=>?_,fun b u e=>?_⟩
 ·by_cases hb:b=a
  ·subst hb;rw[af] at e ⊢;exact e
  ·rw[au hb] at e ⊢;exact h b u e
 ·by_cases hb:b=a
  ·subst hb;exact .inr (.inl ha)
  ·rw[au hb] at e;exact .inl e
theorem Grow.newO {F H:Hp}(h:Same F H){a:Addr}(ha:H a=none)(o:HO):Grow F H F (upd H a o):=⟨bj ha o,Same.refl _,h.trans (bj ha o),fun b u e=>.inl e⟩
theorem Grow.freeze {F H F' H':Hp}(g:Grow F H F' H'){a:Addr}{o:HO}(h0:H a=none)(hF:F' a=none)(hH:H' a=some o):Grow F H (upd F' a o) H':=by
 refine⟨g.hh,g.ff.trans (bj hF o),fun b u e=>?_,fun b u e=>?_⟩
 ·by_cases hb:b=a
  ·subst hb;rw[af] at e;rw[hH];exact e
  ·rw[au hb] at e;exact g.fh b u e
 ·by_cases hb:b=a
  ·subst hb;exact .inr (.inl h0)
  ·rw[au hb] at e;exact g.nw b u e
inductive Sl where
 |val (p:PV)|own (ps:List PV)|dic (ks:List jI) (ps:List PV)
noncomputable abbrev ak:=List (Option Sl)
inductive RdV (K:PySem.W.Frag) (F H:Hp):PV->V->Prop where
 |frz {p:PV} {v:V}:Rep K F p v->RdV K F H p v
 |own {ps:List PV} {a:Addr} {vs:List V}:H a=some (.lst vs)->F a=none->Reps K F ps vs->RdV K F H (.lst ps) (.ref a)
 |dic {ks:List jI} {ps:List PV} {a:Addr} {kvs:List (jI×V)}:H a=some (.dK kvs)->F a=none->kvs.map (·.1)=ks->Reps K F ps (kvs.map (·.2))->RdV K F H (.dct ks ps) (.ref a)
theorem RdV.grow {K:PySem.W.Frag}{F H F' H':Hp}{p:PV}{v:V}(g:Grow F H F' H')(h:RdV K F H p v):RdV K F' H' p v:=by
 cases h with
 |frz h=>exact .frz (h.mono g.ff)
 |own h1 h2 h3=>exact .own (g.keep h2 h1).2 (g.keep h2 h1).1 (h3.mono g.ff)
 |dic h1 h2 h3 h4=>exact .dic (g.keep h2 h1).2 (g.keep h2 h1).1 h3 (h4.mono g.ff)
noncomputable def Qa:Sl->PV
 |.val p=>p
 |.own ps=>.lst ps
 |.dic ks ps=>.dct ks ps
noncomputable def SlR (K:PySem.W.Frag)(F H:Hp):Option V->Option Sl->Prop
 |_,none=>True
 |some v,some (.val p)=>Rep K F p v
 |some v,some (.own ps)=>∃a vs,v=.ref a/\H a=some (.lst vs)/\F a=none/\Reps K F ps vs
 |some v,some (.dic ks ps)=>∃a kvs,v=.ref a/\H a=some (.dK kvs)/\F a=none/\kvs.map (·.1)=ks/\Reps K F ps (kvs.map (·.2))
 |none,some _=>False
theorem SlR.rd {K:PySem.W.Frag}{F H:Hp}{o:Option V}{s:Sl}(h:SlR K F H o (some s)):∃v,o=some v/\RdV K F H (Qa s) v:=by
 cases o with
 |none=>cases s<;>exact h.elim
 |some v=>
  refine⟨v,rfl,?_⟩
  cases s with
  |val p=>exact .frz h
  |own ps=>obtain⟨a,vs,rfl,h1,h2,h3⟩:=h;exact .own h1 h2 h3
  |dic ks ps=>obtain⟨a,vs,rfl,h1,h2,h3,h4⟩:=h;exact .dic h1 h2 h3 h4
theorem SlR.grow {K:PySem.W.Frag}{F H F' H':Hp}(g:Grow F H F' H'):∀{o:Option V} {s:Option Sl},SlR K F H o s->SlR K F' H' o s
 |_,none,_=>by unfold SlR;trivial
 |none,some s,h=>by cases s<;>exact h.elim
 |some v,some (.val p),h=>Rep.mono g.ff h
 |some v,some (.own ps),⟨a,vs,e,h1,h2,h3⟩=>⟨a,vs,e,(g.keep h2 h1).2,(g.keep h2 h1).1,h3.mono g.ff⟩
 |some v,some (.dic ks ps),⟨a,vs,e,h1,h2,h3,h4⟩=>⟨a,vs,e,(g.keep h2 h1).2,(g.keep h2 h1).1,h3,h4.mono g.ff⟩
structure ER (K:PySem.W.Frag)(F H:Hp)(σ:St)(ρ:ak):Prop where
 fz:Same F H
 len:σ.length=ρ.length
 sl:∀(i:Nat) (s:Sl),ρ[i]?=some (some s)->SlR K F H ((σ[i]?).join) (some s)
theorem ER.grow {K:PySem.W.Frag}{F H F' H':Hp}{σ:St}{ρ:ak}(g:Grow F H F' H')(h:ER K F H σ ρ):ER K F' H' σ ρ:=⟨g.fh,h.len,fun i s e=>(h.sl i s e).grow g⟩
theorem ER.rd {K:PySem.W.Frag}{F H:Hp}{σ:St}{ρ:ak}(h:ER K F H σ ρ){i:Nat}{s:Sl}(e:ρ[i]?=some (some s)):∃v,σ[i]?=some (some v)/\RdV K F H (Qa s) v:=by
 obtain⟨v,e1,r⟩:=(h.sl i s e).rd
 refine⟨v,?_,r⟩
 cases q:σ[i]? with
 |none=>rw[q] at e1;cases e1
 |some o=>rw[q] at e1;rw[show o=some v from e1]
noncomputable abbrev eJ:=ak->(PV->Prop)->Prop
noncomputable abbrev tK:=ak->(List PV->Prop)->Prop
noncomputable abbrev lc:=ak->(Bool->Prop)->Prop
noncomputable abbrev jn:=ak->(List PV->Prop)->Prop
noncomputable def lE (K:PySem.W.Frag)(te:eJ):TE:=fun σ H Q=>∃F ρ,∃Qp:PV->Prop,ER K F H σ ρ/\te ρ Qp/\∀p v F' H',Qp p->Grow F H F' H'->Rep K F' p v->Q v H'
noncomputable def lT (K:PySem.W.Frag)(te:eJ):TE:=fun σ H Q=>∃F ρ,∃Qp:PV->Prop,ER K F H σ ρ/\te ρ Qp/\∀p v F' H',Qp p->Grow F H F' H'->RdV K F' H' p v->Q v H'
noncomputable def lN (K:PySem.W.Frag)(te:tK):TE:=fun σ H Q=>∃F ρ,∃Qp:List PV->Prop,ER K F H σ ρ/\te ρ Qp/\∀ps a vs F' H',Qp ps->Grow F H F' H'->H a=none->F' a=none->H' a=some (.lst vs)->Reps K F' ps vs->Q (.ref a) H'
noncomputable def lB (K:PySem.W.Frag)(te:lc):TT:=fun σ H Q=>∃F ρ,∃Qp:Bool->Prop,ER K F H σ ρ/\te ρ Qp/\∀b F' H',Qp b->Grow F H F' H'->Q b H'
noncomputable def lA (K:PySem.W.Frag)(te:jn):TA:=fun σ H Q=>∃F ρ,∃Qp:List PV->Prop,ER K F H σ ρ/\te ρ Qp/\∀ps vs F' H',Qp ps->Grow F H F' H'->Reps K F' ps vs->Q vs H'
theorem lE.elim {K:PySem.W.Frag}{te:eJ}{σ:St}{H:Hp}{Q:VK}{C:Prop}(h:lE K te σ H Q)(k:∀F ρ (Qp:PV->Prop),ER K F H σ ρ->te ρ Qp->(∀p v F' H',Qp p->Grow F H F' H'->Rep K F' p v->Q v H')->C):C:=by obtain⟨F,ρ,Qp,a,b,c⟩:=h;exact k F ρ Qp a b c
theorem lT.elim {K:PySem.W.Frag}{te:eJ}{σ:St}{H:Hp}{Q:VK}{C:Prop}(h:lT K te σ H Q)(k:∀F ρ (Qp:PV->Prop),ER K F H σ ρ->te ρ Qp->(∀p v F' H',Qp p->Grow F H F' H'->RdV K F' H' p v->Q v H')->C):C:=by obtain⟨F,ρ,Qp,a,b,c⟩:=h;exact k F ρ Qp a b c
theorem lN.elim {K:PySem.W.Frag}{te:tK}{σ:St}{H:Hp}{Q:VK}{C:Prop}(h:lN K te σ H Q)(k:∀F ρ (Qp:List PV->Prop),ER K F H σ ρ->te ρ Qp->(∀ps a vs F' H',Qp ps->Grow F H F' H'->H a=none->F' a=none->H' a=some (.lst vs)->Reps K F' ps vs->Q (.ref a) H')->C):C:=by obtain⟨F,ρ,Qp,a,b,c⟩:=h;exact k F ρ Qp a b c
theorem lB.elim {K:PySem.W.Frag}{te:lc}{σ:St}{H:Hp}{Q:Bool->Hp->Prop}{C:Prop}(h:lB K te σ H Q)(k:∀F ρ (Qp:Bool->Prop),ER K F H σ ρ->te ρ Qp->(∀b F' H',Qp b->Grow F H F' H'->Q b H')->C):C:=by obtain⟨F,ρ,Qp,a,b,c⟩:=h;exact k F ρ Qp a b c
theorem lA.elim {K:PySem.W.Frag}{te:jn}{σ:St}{H:Hp}{Q:List V->Hp->Prop}{C:Prop}(h:lA K te σ H Q)(k:∀F ρ (Qp:List PV->Prop),ER K F H σ ρ->te ρ Qp->(∀ps vs F' H',Qp ps->Grow F H F' H'->Reps K F' ps vs->Q vs H')->C):C:=by obtain⟨F,ρ,Qp,a,b,c⟩:=h;exact k F ρ Qp a b c
noncomputable def fN (X:Cx)(e:Expr)(te:eJ):Prop:=PE X e (lE X.K te)
noncomputable def hX (X:Cx)(e:Expr)(te:eJ):Prop:=PE X e (lT X.K te)
noncomputable def xg (X:Cx)(e:Expr)(te:tK):Prop:=PE X e (lN X.K te)
noncomputable def PuB (X:Cx)(e:Expr)(te:lc):Prop:=PT X e (lB X.K te)
noncomputable def PuW (X:Cx)(e:Expr)(te:lc):Prop:=PW X e (lB X.K te)
noncomputable def IQ (X:Cx)(es:List Expr)(te:jn):Prop:=PA X es (lA X.K te)
theorem PE.weak {X:Cx}{e:Expr}{t t':TE}(h:PE X e t)(w:∀σ H Q,t' σ H Q->t σ H Q):PE X e t':=fun pins s σ H Q I q=>h pins s σ H Q I (w σ H Q q)
theorem PT.weak {X:Cx}{e:Expr}{t t':TT}(h:PT X e t)(w:∀σ H Q,t' σ H Q->t σ H Q):PT X e t':=fun pins s σ H Q I q=>h pins s σ H Q I (w σ H Q q)
theorem PW.weak {X:Cx}{e:Expr}{t t':TT}(h:PW X e t)(w:∀σ H Q,t' σ H Q->t σ H Q):PW X e t':=fun wh pins s σ H Q I q=>h wh pins s σ H Q I (w σ H Q q)
theorem PA.weak {X:Cx}{e:List Expr}{t t':TA}(h:PA X e t)(w:∀σ H Q,t' σ H Q->t σ H Q):PA X e t':=fun pos pins s σ H Q I q=>h pos pins s σ H Q I (w σ H Q q)
theorem PS.weak {X:Cx}{e:Stmt}{t t':TS}(h:PS X e t)(w:∀D σ H,t' D σ H->t D σ H):PS X e t':=fun pins s σ H D I q=>h pins s σ H D I (w D σ H q)
theorem PSs.weak {X:Cx}{e:List Stmt}{t t':TS}(h:PSs X e t)(w:∀D σ H,t' D σ H->t D σ H):PSs X e t':=fun pins s σ H D I q=>h pins s σ H D I (w D σ H q)
theorem PI.weak {X:Cx}{tg e:Expr}{t t':TI}(h:PI X tg e t)(w:∀σ H Q,t' σ H Q->t σ H Q):PI X tg e t':=fun pins s σ H Q I q=>h pins s σ H Q I (w σ H Q q)
section
variable {X:Cx}{e a b c:Expr}{pos:Pos}{te ta tb:eJ}
noncomputable def QD (tn:tK):eJ:=fun ρ Q=>tn ρ fun ps=>Q (.lst ps)
noncomputable def gv (ρ:ak)(i:Nat)(Q:PV->Prop):Prop:=match ρ[i]? with
 |some (some (.val p))=>Q p
 |_=>False
noncomputable def gr (ρ:ak)(i:Nat)(Q:PV->Prop):Prop:=match ρ[i]? with
 |some (some s)=>Q (Qa s)
 |_=>False
noncomputable def pC (p:PV):eJ:=fun _ Q=>Q p
noncomputable def kf:PV->V
 |.non=>.non
 |.bl b=>.bl b
 |.int i=>.int i
 |.str x=>.str x
 |.ty n=>.ty n
 |.fn a=>.ref a
 |_=>.non
noncomputable def cD:PV->Bool
 |.tup _=>false
 |.lst _=>false
 |.dct _ _=>false
 |.src _=>false
 |.ktu _=>false
 |.rng _ _=>false
 |_=>true
theorem pJ {K:PySem.W.Frag}{F:Hp}{p:PV}(h:cD p=true):Rep K F p (kf p):=by
 cases p<;>first|rfl|exact absurd h Bool.false_ne_true
theorem xo {p:PV}(h:PE X e (tC (kf p)))(hp:cD p=true:=by rfl):fN X e (pC p):=PE.weak h fun σ H Q hh_=>hh_.elim fun F ρ Qp er q k=>k p _ F H q (.refl er.fz) (pJ hp)
theorem Mi {i:Int}{j}:fN X (.Constant (.int i) j pos) (pC (.int i)):=xo kh
theorem Py {i:Bool}{j}:fN X (.Constant (.bool i) j pos) (pC (.bl i)):=xo Oh
theorem IW {j}:fN X (.Constant .none j pos) (pC .non):=xo KD
theorem Lh {x:Str}{j}:fN X (.Constant (.str x) j pos) (pC (.str x)):=xo L9
noncomputable abbrev jm:=PV->PV->(PV->Prop)->Prop
noncomputable def t9 (g:jm)(ta tb:eJ):eJ:=fun ρ Q=>ta ρ fun x=>tb ρ fun y=>g x y Q
noncomputable def fH (K:PySem.W.Frag)(r:R2)(g:jm):Prop:=∀F H x y p q (Qp:PV->Prop) (Q:VK),Same F H->RdV K F H p x->RdV K F H q y->g p q Qp->(∀z v F' H',Qp z->Grow F H F' H'->Rep K F' z v->Q v H')->r x y H Q
theorem lQ {r:R2}{g:jm}(hg:fH X.K r g):∀σ H Q,lE X.K (t9 g ta tb) σ H Q->kW r (lT X.K ta) (lT X.K tb) σ H Q:=fun σ H Q hh_=>hh_.elim fun F ρ Qp er q k=>
 ⟨F,ρ,_,er,q,fun p v F1 H1 q1 g1 r1=>⟨F1,ρ,_,er.grow g1,q1,fun p2 v2 F2 H2 q2 g2 r2=>
  hg F2 H2 v v2 p p2 Qp Q g2.fh (r1.grow g2) r2 q2 fun z u F3 H3 qz g3 r3=>k z u F3 H3 qz ((g1.trans g2).trans g3) r3⟩⟩
theorem jb {op:Operator}{r:R2}{g:jm}(ho:iD X (binaryOp op) r)(hg:fH X.K r g)(ha:hX X a ta)(hb:hX X b tb):fN X (.BinOp a op b pos) (t9 g ta tb):=PE.weak (Bq ho ha hb) (lQ hg)
theorem Kd {op:CmpOp}{r:R2}{g:jm}(ho:iD X (compareOp op) r)(hg:fH X.K r g)(ha:hX X a ta)(hb:hX X b tb)(hm:behindInMarks op b=false):fN X (.Compare a [op] [b] pos) (t9 g ta tb):=PE.weak (FF ho ha hb hm) (lQ hg)
noncomputable def OkB:PV->(Bool->Prop)->Prop
 |.bl b,Q=>Q b
 |_,_=>False
noncomputable def OkI:PV->(Int->Prop)->Prop
 |.int i,Q=>Q i
 |_,_=>False
theorem OkB.rd {K:PySem.W.Frag}{F H:Hp}{p:PV}{v:V}{Q:Bool->Prop}(h:OkB p Q)(r:RdV K F H p v):∃b,p=.bl b/\v=.bl b/\Q b:=by
 cases p<;>first|exact h.elim|skip
 cases r with
 |frz r=>exact⟨_,rfl,r,h⟩
theorem OkI.rd {K:PySem.W.Frag}{F H:Hp}{p:PV}{v:V}{Q:Int->Prop}(h:OkI p Q)(r:RdV K F H p v):∃b,p=.int b/\v=.int b/\Q b:=by
 cases p<;>first|exact h.elim|skip
 cases r with
 |frz r=>exact⟨_,rfl,r,h⟩
noncomputable def Cs (te:eJ):lc:=fun ρ Q=>te ρ fun x=>OkB x Q
theorem Ex {op:CmpOp}{r:R2}{g:jm}(ho:iD X (compareOp op) r)(hg:fH X.K r g)(ha:hX X a ta)(hb:hX X b tb)(hm:behindInMarks op b=false):PuB X (.Compare a [op] [b] pos) (Cs (t9 g ta tb)):=
 PT.weak (lq ho ha hb hm) fun σ H Q hh_=>hh_.elim fun F ρ Qp er q k=>lQ hg σ H _ ⟨F,ρ,_,er,q,fun p v F' H' hp g r=>by
  obtain⟨b,rfl,rfl,q⟩:=hp.rd (H:=H') (.frz r)
  exact⟨b,rfl,k b F' H' q g⟩⟩
noncomputable def gI (C:Int->Int->Prop)(f:Int->Int->PV):jm:=fun x y Q=>OkI x fun i=>OkI y fun j=>C i j/\Q (f i j)
noncomputable def Ew (f:Int->Int->PV):jm:=fun x y Q=>OkI x fun i=>OkI y fun j=>Q (f i j)
theorem mP {K:PySem.W.Frag}{C:Int->Int->Prop}{f:Int->Int->PV}(hf:∀i j,cD (f i j)=true:=by intros;rfl):fH K (rI C fun i j=>kf (f i j)) (gI C f):=fun F H x y p q Qp Q s rx ry h k=>by
 obtain⟨i,rfl,rfl,h⟩:=OkI.rd h rx
 obtain⟨j,rfl,rfl,h⟩:=OkI.rd h ry
 exact⟨i,j,rfl,rfl,h.1,k _ _ F H h.2 (.refl s) (pJ (hf i j))⟩
theorem jq {K:PySem.W.Frag}{f:Int->Int->PV}(hf:∀i j,cD (f i j)=true:=by intros;rfl):fH K (jl fun i j=>kf (f i j)) (Ew f):=fun F H x y p q Qp Q s rx ry h k=>by
 obtain⟨i,rfl,rfl,h⟩:=OkI.rd h rx
 obtain⟨j,rfl,rfl,h⟩:=OkI.rd h ry
 exact⟨i,j,rfl,rfl,k _ _ F H h (.refl s) (pJ (hf i j))⟩
noncomputable def Qe:jm:=Ew fun i j=>.int (i+j)
noncomputable def eV:jm:=Ew fun i j=>.int (i - j)
noncomputable def QH:jm:=gI CMul fun i j=>.int (i * j)
noncomputable def Ry:jm:=gI O4 fun i j=>.int (i / j)
noncomputable def Qg:jm:=gI (fun _ j=>0<j) fun i j=>.int (i % j)
noncomputable def QM:jm:=gI JS fun i j=>.int (i ^ j.toNat)
noncomputable def QW:jm:=gI (fun _ j=>0≤j) fun i j=>.int (i / 2 ^ j.toNat)
noncomputable def Qc:jm:=Ew fun i j=>.int (Builtin.bitAnd i j)
noncomputable def SJ:jm:=Ew fun i j=>.bl (decide (i<j))
noncomputable def Sv:jm:=Ew fun i j=>.bl (decide (i≤j))
noncomputable def SD:jm:=Ew fun i j=>.bl (decide (j<i))
noncomputable def SF:jm:=Ew fun i j=>.bl (decide (j≤i))
theorem K9 (ha:hX X a ta)(hb:hX X b tb):fN X (.BinOp a .Add b pos) (t9 Qe ta tb):=jb LN (jq (f:=fun i j=>.int (i+j))) ha hb
theorem J6 (ha:hX X a ta)(hb:hX X b tb):fN X (.BinOp a .Sub b pos) (t9 eV ta tb):=jb KF (jq (f:=fun i j=>.int (i - j))) ha hb
theorem K8 (ha:hX X a ta)(hb:hX X b tb):fN X (.BinOp a .Mult b pos) (t9 QH ta tb):=jb LX (mP (f:=fun i j=>.int (i * j))) ha hb
theorem JW (ha:hX X a ta)(hb:hX X b tb):fN X (.BinOp a .FloorDiv b pos) (t9 Ry ta tb):=jb Gz (mP (f:=fun i j=>.int (i / j))) ha hb
theorem Ld (ha:hX X a ta)(hb:hX X b tb):fN X (.BinOp a .Mod b pos) (t9 Qg ta tb):=jb J1 (mP (f:=fun i j=>.int (i % j))) ha hb
theorem Jf (ha:hX X a ta)(hb:hX X b tb):fN X (.BinOp a .Pow b pos) (t9 QM ta tb):=jb Jx (mP (f:=fun i j=>.int (i ^ j.toNat))) ha hb
theorem JP (ha:hX X a ta)(hb:hX X b tb):fN X (.BinOp a .RShift b pos) (t9 QW ta tb):=jb LB (mP (f:=fun i j=>.int (i / 2 ^ j.toNat))) ha hb
theorem E7 (ha:hX X a ta)(hb:hX X b tb):fN X (.BinOp a .BitAnd b pos) (t9 Qc ta tb):=jb KK (jq (f:=fun i j=>.int (Builtin.bitAnd i j))) ha hb
theorem OL:fH X.K (jl fun i j=>.bl (decide (i<j))) SJ:=jq (f:=fun i j=>.bl (decide (i<j)))
theorem ND:fH X.K (jl fun i j=>.bl (decide (i≤j))) Sv:=jq (f:=fun i j=>.bl (decide (i≤j)))
theorem Pw:fH X.K (jl fun i j=>.bl (decide (j<i))) SD:=jq (f:=fun i j=>.bl (decide (j<i)))
theorem MT:fH X.K (jl fun i j=>.bl (decide (j≤i))) SF:=jq (f:=fun i j=>.bl (decide (j≤i)))
noncomputable def jY:PV->Bool
 |.non=>true
 |_=>false
noncomputable def QO:jm:=fun x y Q=>match y with
 |.non=>Q (.bl (jY x))
 |_=>False
noncomputable def Pa:jm:=fun x y Q=>match y with
 |.non=>Q (.bl (!jY x))
 |_=>False
theorem Ig {K:PySem.W.Frag}{F H:Hp}{p:PV}{v:V}(r:RdV K F H p v):decide (v=.non)=jY p:=by
 cases r with
 |frz r=>
  cases p with
  |non=>rw[show v=_ from r];rfl
  |bl _=>rw[show v=_ from r];rfl
  |int _=>rw[show v=_ from r];rfl
  |str _=>rw[show v=_ from r];rfl
  |ty _=>rw[show v=_ from r];rfl
  |fn _=>rw[show v=_ from r];rfl
  |tup _=>obtain⟨a,vs,rfl,_⟩:=r;rfl
  |lst _=>obtain⟨a,vs,rfl,_⟩:=r;rfl
  |dct _ _=>obtain⟨a,vs,rfl,_⟩:=r;rfl
  |src _=>obtain⟨a,vs,rfl,_⟩:=r;rfl
  |ktu _=>obtain⟨a,vs,rfl,_⟩:=r;rfl
  |rng _ _=>obtain⟨a,rfl,_⟩:=r;rfl
 |own=>rfl
 |dic=>rfl
theorem yg {K:PySem.W.Frag}{F H:Hp}{v:V}(r:RdV K F H .non v):v=.non:=by
 cases r with
 |frz r=>exact r
theorem Ln:fH X.K (fun x y H Q=>y=.non/\Q (.bl (decide (x=.non))) H) QO:=fun F H x y p q Qp Q s rx ry h k=>by
 cases q<;>first|exact h.elim|skip
 refine⟨yg ry,k _ _ F H h (.refl s) ?_⟩
 rw[Ig rx];rfl
theorem EN:fH X.K (fun x y H Q=>y=.non/\Q (.bl (!decide (x=.non))) H) Pa:=fun F H x y p q Qp Q s rx ry h k=>by
 cases q<;>first|exact h.elim|skip
 refine⟨yg ry,k _ _ F H h (.refl s) ?_⟩
 rw[Ig rx];rfl
end
end Pu
end
section
namespace Pu
open PySem PySem.Spec L2
section
variable {X:Cx}{e a b c:Expr}{pos:Pos}{te ta tb tc:eJ}{tA tB':lc}{cC:List Expr}
noncomputable def Pe (ta:eJ):eJ:=fun ρ Q=>ta ρ fun x=>OkB x fun b=>Q (.bl (!b))
noncomputable def OX (ta tb:eJ):eJ:=fun ρ Q=>ta ρ fun x=>OkB x fun b=>if b=true then tb ρ Q else Q (.bl false)
noncomputable def Rg (ta tb:eJ):eJ:=fun ρ Q=>ta ρ fun x=>OkB x fun b=>if b=true then Q (.bl true) else tb ρ Q
noncomputable def No (t u:lc):lc:=fun ρ Q=>t ρ fun b=>if b=true then u ρ Q else Q false
noncomputable def Qv (t u:lc):lc:=fun ρ Q=>t ρ fun b=>if b=true then Q true else u ρ Q
noncomputable def OR (t:lc):lc:=fun ρ Q=>t ρ fun b=>Q (!b)
noncomputable def QF (t:lc)(ta tb:eJ):eJ:=fun ρ Q=>t ρ fun b=>if b=true then ta ρ Q else tb ρ Q
theorem Mk (ha:fN X a ta):fN X (.UnaryOp .Not a pos) (Pe ta):=PE.weak (Lu ha) fun σ H Q hh_=>hh_.elim fun F ρ Qp er q k=>⟨F,ρ,_,er,q,fun p v F1 H1 h1 g1 r1=>by
 obtain⟨b,rfl,rfl,h⟩:=h1.rd (H:=H1) (.frz r1)
 exact⟨b,rfl,k _ _ F1 H1 h g1 rfl⟩⟩
theorem Lb (ha:fN X a ta)(hb:fN X (.BoolOp .And (b::cC) pos) tb):fN X (.BoolOp .And (a::b::cC) pos) (OX ta tb):=PE.weak (AZ ha hb) fun σ H Q hh_=>hh_.elim fun F ρ Qp er q k=>⟨F,ρ,_,er,q,fun p v F1 H1 h1 g1 r1=>by
 obtain⟨b,rfl,rfl,h⟩:=h1.rd (H:=H1) (.frz r1)
 refine⟨b,rfl,?_⟩
 cases b with
 |true=>exact⟨F1,ρ,Qp,er.grow g1,by simpa using h,fun p v F' H' hp g r=>k p v F' H' hp (g1.trans g) r⟩
 |false=>exact k (.bl false) _ F1 H1 (by simpa using h) g1 rfl⟩
theorem Px (ha:fN X a ta)(hb:fN X (.BoolOp .Or (b::cC) pos) tb):fN X (.BoolOp .Or (a::b::cC) pos) (Rg ta tb):=PE.weak (OA ha hb) fun σ H Q hh_=>hh_.elim fun F ρ Qp er q k=>⟨F,ρ,_,er,q,fun p v F1 H1 h1 g1 r1=>by
 obtain⟨b,rfl,rfl,h⟩:=h1.rd (H:=H1) (.frz r1)
 refine⟨b,rfl,?_⟩
 cases b with
 |false=>exact⟨F1,ρ,Qp,er.grow g1,by simpa using h,fun p v F' H' hp g r=>k p v F' H' hp (g1.trans g) r⟩
 |true=>exact k (.bl true) _ F1 H1 (by simpa using h) g1 rfl⟩
theorem Mg {op}(h:fN X a te):fN X (.BoolOp op [a] pos) te:=Dw h
theorem Hm (h:PT X e (tB (lE X.K te))):PuB X e (Cs te):=PT.weak h fun σ H Q hh_=>hh_.elim fun F ρ Qp er q k=>⟨F,ρ,_,er,q,fun p v F1 H1 h1 g1 r1=>by
 obtain⟨b,rfl,rfl,h⟩:=h1.rd (H:=H1) (.frz r1)
 exact⟨b,rfl,k _ F1 H1 h g1⟩⟩
theorem B4 (ha:PuB X a tA):PuW X (.BoolOp .And [a] pos) tA:=Gm ha
theorem GU (ha:PuB X a tA):PuW X (.BoolOp .Or [a] pos) tA:=Jo ha
theorem FY (ha:PuB X a tA)(hb:PuW X (.BoolOp .And (b::cC) pos) tB'):PuW X (.BoolOp .And (a::b::cC) pos) (No tA tB'):=PW.weak (Jd ha hb) fun σ H Q hh_=>hh_.elim fun F ρ Qp er q k=>⟨F,ρ,_,er,q,fun b F1 H1 h1 g1=>by
 cases b with
 |true=>exact⟨F1,ρ,Qp,er.grow g1,by simpa using h1,fun b F' H' hp g=>k b F' H' hp (g1.trans g)⟩
 |false=>exact k _ F1 H1 (by simpa using h1) g1⟩
theorem KL (ha:PuB X a tA)(hb:PuW X (.BoolOp .Or (b::cC) pos) tB'):PuW X (.BoolOp .Or (a::b::cC) pos) (Qv tA tB'):=PW.weak (M0 ha hb) fun σ H Q hh_=>hh_.elim fun F ρ Qp er q k=>⟨F,ρ,_,er,q,fun b F1 H1 h1 g1=>by
 cases b with
 |false=>exact⟨F1,ρ,Qp,er.grow g1,by simpa using h1,fun b F' H' hp g=>k b F' H' hp (g1.trans g)⟩
 |true=>exact k _ F1 H1 (by simpa using h1) g1⟩
theorem NP (h:PuW X e tA):PuB X e tA:=PW.pt h
theorem EM (ha:PuB X a tA):PuB X (.UnaryOp .Not a pos) (OR tA):=PT.weak (LA ha) fun σ H Q hh_=>hh_.elim fun F ρ Qp er q k=>⟨F,ρ,_,er,q,fun b F1 H1 h1 g1=>k _ F1 H1 h1 g1⟩
theorem JG (hc:PuB X c tA)(ha:fN X a ta)(hb:fN X b tb):fN X (.IfExp c a b pos) (QF tA ta tb):=PE.weak (D6 hc ha hb) fun σ H Q hh_=>hh_.elim fun F ρ Qp er q k=>⟨F,ρ,_,er,q,fun b F1 H1 h1 g1=>by
 cases b with
 |true=>exact⟨F1,ρ,Qp,er.grow g1,by simpa using h1,fun p v F' H' hp g r=>k p v F' H' hp (g1.trans g) r⟩
 |false=>exact⟨F1,ρ,Qp,er.grow g1,by simpa using h1,fun p v F' H' hp g r=>k p v F' H' hp (g1.trans g) r⟩⟩
noncomputable def rX (g g':jm)(ta tb tc:eJ):eJ:=fun ρ Q=>ta ρ fun x=>tb ρ fun y=>g x y fun z=>OkB z fun k=>if k=true then tc ρ fun w=>g' y w Q else Q (.bl false)
theorem pU {r r':R2}{g g':jm}(hg:fH X.K r g)(hg':fH X.K r' g'):∀σ H Q,lE X.K (rX g g' ta tb tc) σ H Q->aX r r' (lT X.K ta) (lT X.K tb) (lT X.K tc) σ H Q:=fun σ H Q hh_=>hh_.elim fun F ρ Qp er q k=>
 ⟨F,ρ,_,er,q,fun p v F1 H1 q1 g1 r1=>⟨F1,ρ,_,er.grow g1,q1,fun p2 v2 F2 H2 q2 g2 r2=>
  hg F2 H2 v v2 p p2 _ _ g2.fh (r1.grow g2) r2 q2 fun z u F3 H3 qz g3 r3=>by
   obtain⟨b,rfl,rfl,h⟩:=OkB.rd (H:=H3) qz (.frz r3)
   refine⟨b,rfl,?_⟩
   have gg:=(g1.trans g2).trans g3
   cases b with
   |true=>exact⟨F3,ρ,_,er.grow gg,by simpa using h,fun p4 v4 F4 H4 q4 g4 r4=>hg' F4 H4 v2 v4 p2 p4 Qp Q g4.fh (r2.grow (g3.trans g4)) r4 q4 fun z u F5 H5 qz g5 r5=>k z u F5 H5 qz ((gg.trans g4).trans g5) r5⟩
   |false=>exact k (.bl false) _ F3 H3 (by simpa using h) gg rfl⟩⟩
theorem CK {op op':CmpOp}{r r':R2}{g g':jm}(ho:iD X (compareOp op) r)(hg:fH X.K r g)(ho':iD X (compareOp op') r')(hg':fH X.K r' g')(ha:hX X a ta)(hb:hX X b tb)(hc:hX X c tc)
  (hm:lastMarks [op,op'] [b,c]=false:=by with_unfolding_all rfl):fN X (.Compare a [op,op'] [b,c] pos) (rX g g' ta tb tc):=PE.weak (Dn ho ho' ha hb hc hm) (pU hg hg')
theorem zR {op op':CmpOp}{r r':R2}{g g':jm}(ho:iD X (compareOp op) r)(hg:fH X.K r g)(ho':iD X (compareOp op') r')(hg':fH X.K r' g')(ha:hX X a ta)(hb:hX X b tb)(hc:hX X c tc)
  (hm:lastMarks [op,op'] [b,c]=false:=by with_unfolding_all rfl):PuB X (.Compare a [op,op'] [b,c] pos) (Cs (rX g g' ta tb tc)):=PT.weak (Cu ho ho' ha hb hc hm) fun σ H Q hh_=>hh_.elim fun F ρ Qp er q k=>pU hg hg' σ H _ ⟨F,ρ,_,er,q,fun p v F' H' hp g r=>by
  obtain⟨b,rfl,rfl,q⟩:=hp.rd (H:=H') (.frz r)
  exact⟨b,rfl,k b F' H' q g⟩⟩
noncomputable def Q8 (ta:eJ):eJ:=fun ρ Q=>ta ρ fun x=>OkI x fun i=>Q (.int (-i))
theorem LP (ha:fN X a ta):fN X (.UnaryOp .USub a pos) (Q8 ta):=PE.weak (HL B1 ha) fun σ H Q hh_=>hh_.elim fun F ρ Qp er q k=>⟨F,ρ,_,er,q,fun p v F1 H1 h1 g1 r1=>by
 obtain⟨i,rfl,rfl,h⟩:=h1.rd (H:=H1) (.frz r1)
 exact⟨i,rfl,k _ _ F1 H1 h g1 rfl⟩⟩
inductive RdVs (K:PySem.W.Frag) (F H:Hp):List PV->List V->Prop where
 |nil:RdVs K F H [] []
 |cons {p:PV} {v:V} {ps:List PV} {vs:List V}:RdV K F H p v->RdVs K F H ps vs->RdVs K F H (p::ps) (v::vs)
noncomputable def lAT (K:PySem.W.Frag)(te:jn):TA:=fun σ H Q=>∃F ρ,∃Qp:List PV->Prop,ER K F H σ ρ/\te ρ Qp/\∀ps vs F' H',Qp ps->Grow F H F' H'->RdVs K F' H' ps vs->Q vs H'
theorem lAT.elim {K:PySem.W.Frag}{te:jn}{σ:St}{H:Hp}{Q:List V->Hp->Prop}{C:Prop}(h:lAT K te σ H Q)(k:∀F ρ (Qp:List PV->Prop),ER K F H σ ρ->te ρ Qp->(∀ps vs F' H',Qp ps->Grow F H F' H'->RdVs K F' H' ps vs->Q vs H')->C):C:=by obtain⟨F,ρ,Qp,a,b,c⟩:=h;exact k F ρ Qp a b c
noncomputable def Af (X:Cx)(es:List Expr)(te:jn):Prop:=PA X es (lAT X.K te)
noncomputable def OY:jn:=fun _ Q=>Q []
noncomputable def Hr (te:eJ)(t:jn):jn:=fun ρ Q=>te ρ fun p=>t ρ fun ps=>Q (p::ps)
variable {es:List Expr}{t:jn}
theorem EC:IQ X [] OY:=PA.weak eP fun σ H Q hh_=>hh_.elim fun F ρ Qp er q k=>k _ _ F H q (.refl er.fz) rfl
theorem BW (hn:NS e)(he:fN X e te)(ht:IQ X es t):IQ X (e::es) (Hr te t):=PA.weak (az hn he ht) fun σ H Q hh_=>hh_.elim fun F ρ Qp er q k=>⟨F,ρ,_,er,q,fun p v F1 H1 h1 g1 r1=>
 ⟨F1,ρ,_,er.grow g1,h1,fun ps vs F2 H2 h2 g2 r2=>k _ _ F2 H2 h2 (g1.trans g2) ⟨v,vs,rfl,r1.mono g2.ff,r2⟩⟩⟩
theorem Cm:Af X [] OY:=PA.weak eP fun σ H Q hh_=>hh_.elim fun F ρ Qp er q k=>k _ _ F H q (.refl er.fz) .nil
theorem Al (hn:NS e)(he:hX X e te)(ht:Af X es t):Af X (e::es) (Hr te t):=PA.weak (az hn he ht) fun σ H Q hh_=>hh_.elim fun F ρ Qp er q k=>⟨F,ρ,_,er,q,fun p v F1 H1 h1 g1 r1=>
 ⟨F1,ρ,_,er.grow g1,h1,fun ps vs F2 H2 h2 g2 r2=>k _ _ F2 H2 h2 (g1.trans g2) (.cons (r1.grow g2) r2)⟩⟩
noncomputable def RA (t:jn):eJ:=fun ρ Q=>t ρ fun ps=>ps.length≤sizeLine/\Q (.tup ps)
noncomputable def Qo (t:jn):tK:=fun ρ Q=>t ρ fun ps=>ps.length≤sizeLine/\Q ps
theorem Jk {x1}(h:IQ X es t):fN X (.Tuple es x1 pos) (RA t):=PE.weak (ld h) fun σ H Q hh_=>hh_.elim fun F ρ Qp er q k=>⟨F,ρ,_,er,q,fun ps vs F1 H1 h1 g1 r1=>⟨by rw[r1.length];exact h1.1,fun p hp=>
 k (.tup ps) (.ref p) _ _ h1.2 (g1.trans (.new g1.fh hp _)) ⟨p,vs,rfl,af,r1.mono (bj (g1.fh.free hp) _)⟩⟩⟩
theorem JV (h:IQ X es t):xg X (.List es pos) (Qo t):=PE.weak (Lg h) fun σ H Q hh_=>hh_.elim fun F ρ Qp er q k=>⟨F,ρ,_,er,q,fun ps vs F1 H1 h1 g1 r1=>⟨by rw[r1.length];exact h1.1,fun p hp=>
 k ps p vs F1 _ h1.2 (g1.trans (.newO g1.fh hp _)) (g1.hh.free hp) (g1.fh.free hp) af r1⟩⟩
noncomputable def items:PV->Option (List PV)
 |.tup ps=>some ps
 |.lst ps=>some ps
 |.src ps=>some ps
 |.ktu ps=>some ps
 |_=>none
noncomputable def OkS (p:PV)(Q:List PV->Prop):Prop:=match items p with
 |some ps=>Q ps
 |none=>False
noncomputable def OkO {α:Type}(o:Option α)(Q:α->Prop):Prop:=match o with
 |some x=>Q x
 |none=>False
theorem OkO.ex {α:Type}{o:Option α}{Q:α->Prop}(h:OkO o Q):∃x,o=some x/\Q x:=by
 cases o with
 |none=>exact h.elim
 |some x=>exact⟨x,rfl,h⟩
theorem OkS.rd {K:PySem.W.Frag}{F H:Hp}{p:PV}{v:V}{Q:List PV->Prop}(h:OkS p Q)(s:Same F H)(r:RdV K F H p v):∃a vs ps,v=.ref a/\(SqL K H a vs\/SqT K H a vs)/\items p=some ps/\Reps K F ps vs/\Q ps:=by
 unfold OkS at h
 cases r with
 |frz r=>
  cases p<;>first|exact h.elim|skip
  ·obtain⟨a,vs,rfl,e,r⟩:=r;exact⟨a,vs,_,rfl,.inr (SqT.of (s _ _ e)),rfl,r,h⟩
  ·obtain⟨a,vs,rfl,e,r⟩:=r;exact⟨a,vs,_,rfl,.inl (SqL.of (s _ _ e)),rfl,r,h⟩
  ·obtain⟨a,vs,rfl,e,r⟩:=r;exact⟨a,vs,_,rfl,.inl (s.seq e),rfl,r,h⟩
  ·obtain⟨a,vs,rfl,e,r⟩:=r;exact⟨a,vs,_,rfl,.inr (zM s e),rfl,r,h⟩
 |own h1 h2 h3=>exact⟨_,_,_,rfl,.inl (SqL.of h1),rfl,h3,h⟩
 |dic=>exact h.elim
theorem Reps.atI {K:PySem.W.Frag}{F:Hp}{ps:List PV}{vs:List V}{i:Int}{p:PV}(h:Reps K F ps vs)(e:L2.atI ps i=some p):∃v,L2.atI vs i=some v/\Rep K F p v:=by
 unfold L2.atI at e ⊢
 rw[h.length]
 cases q:qh ps.length i with
 |none=>rw[q] at e;cases e
 |some j=>rw[q] at e;exact h.get e
noncomputable def QA:jm:=fun x y Q=>OkI y fun i=>match x with
 |.str z=>z.length≤sizeLine/\OkO (L2.atI z.cps.toList i) fun c=>Q (.str ⟨#[c]⟩)
 |p=>OkS p fun ps=>OkO (L2.atI ps i) Q
theorem NL:fH X.K (aN X.K) QA:=fun F H x y p q Qp Q s rx ry h k=>by
 obtain⟨i,rfl,rfl,h⟩:=OkI.rd h ry
 by_cases hz:∃z,p=.str z
 ·obtain⟨z,rfl⟩:=hz
  obtain⟨h1,h2⟩:=h
  obtain⟨c,e,h2⟩:=h2.ex
  cases rx with
  |frz r=>exact .inr (.inr ⟨z,i,c,r,rfl,h1,e,k _ _ F H h2 (.refl s) rfl⟩)
 ·have h':OkS p fun ps=>OkO (L2.atI ps i) Qp:=by
   cases p<;>first|exact h|exact absurd ⟨_,rfl⟩ hz
  obtain⟨a,vs,ps,rfl,hs,_,r,h⟩:=h'.rd s rx
  obtain⟨z,e,h⟩:=h.ex
  obtain⟨v,e',r'⟩:=r.atI e
  rcases hs with hs|hs
  ·exact .inl ⟨a,vs,i,v,rfl,rfl,hs,e',k z v F H h (.refl s) r'⟩
  ·exact .inr (.inl ⟨a,vs,i,v,rfl,rfl,hs,e',k z v F H h (.refl s) r'⟩)
theorem IT (ha:hX X a ta)(hb:hX X b tb)(hs:kj b):fN X (.Subscript a b pos) (t9 QA ta tb):=PE.weak (iC K4 ha hb hs) (lQ NL)
noncomputable abbrev zD:=ak->(Option Int->Prop)->Prop
noncomputable def lO (K:PySem.W.Frag)(te:zD):TO:=fun σ H Q=>∃F ρ,∃Qp:Option Int->Prop,ER K F H σ ρ/\te ρ Qp/\∀b F' H',Qp b->Grow F H F' H'->Q b H'
theorem lO.elim {K:PySem.W.Frag}{te:zD}{σ:St}{H:Hp}{Q:Option Int->Hp->Prop}{C:Prop}(h:lO K te σ H Q)(k:∀F ρ (Qp:Option Int->Prop),ER K F H σ ρ->te ρ Qp->(∀b F' H',Qp b->Grow F H F' H'->Q b H')->C):C:=by obtain⟨F,ρ,Qp,a,b,c⟩:=h;exact k F ρ Qp a b c
noncomputable def Ea (X:Cx)(e:Option Expr)(te:zD):Prop:=PO X e (lO X.K te)
theorem PO.weak {X:Cx}{e:Option Expr}{t t':TO}(h:PO X e t)(w:∀σ H Q,t' σ H Q->t σ H Q):PO X e t':=fun pins s σ H Q I q=>h pins s σ H _ I (w σ H _ q)
noncomputable def Ga:zD:=fun _ Q=>Q none
noncomputable def NR (te:eJ):zD:=fun ρ Q=>te ρ fun x=>OkI x fun i=>Q (some i)
theorem CZ:Ea X none Ga:=PO.weak EA fun σ H Q hh_=>hh_.elim fun F ρ Qp er q k=>k _ F H q (.refl er.fz)
theorem AV (h:fN X e te):Ea X (some e) (NR te):=PO.weak (E9 h) fun σ H Q hh_=>hh_.elim fun F ρ Qp er q k=>⟨F,ρ,_,er,q,fun p v F1 H1 h1 g1 r1=>by
 obtain⟨i,rfl,rfl,h⟩:=h1.rd (H:=H1) (.frz r1)
 exact⟨i,rfl,k _ F1 H1 h g1⟩⟩
noncomputable def cut {α:Type}(xs:List α)(lo hi:Option Int):List α:=(xs.drop (HT.sIx xs.length 0 lo)).take (HT.sIx xs.length xs.length hi - HT.sIx xs.length 0 lo)
theorem Reps.cut {K:PySem.W.Frag}{F:Hp}{ps:List PV}{vs:List V}{lo hi:Option Int}(h:Reps K F ps vs):Reps K F (cut ps lo hi) (uG vs lo hi):=by
 unfold Pu.cut uG
 rw[h.length]
 exact (h.drop _).take _
noncomputable def OkL:PV->(List PV->Prop)->Prop
 |.lst ps,Q=>Q ps
 |.src ps,Q=>Q ps
 |_,_=>False
theorem OkL.rd {K:PySem.W.Frag}{F H:Hp}{p:PV}{v:V}{Q:List PV->Prop}(h:OkL p Q)(s:Same F H)(r:RdV K F H p v):∃a vs ps,v=.ref a/\SqL K H a vs/\Reps K F ps vs/\Q ps:=by
 cases r with
 |frz r=>
  cases p<;>first|exact h.elim|skip
  ·obtain⟨a,vs,rfl,e,r⟩:=r;exact⟨a,vs,_,rfl,SqL.of (s _ _ e),r,h⟩
  ·obtain⟨a,vs,rfl,e,r⟩:=r;exact⟨a,vs,_,rfl,s.seq e,r,h⟩
 |own h1 h2 h3=>exact⟨_,_,_,rfl,SqL.of h1,h3,h⟩
 |dic=>exact h.elim
noncomputable def OkT:PV->(List PV->Prop)->Prop
 |.tup ps,Q=>Q ps
 |_,_=>False
theorem OkT.rd {K:PySem.W.Frag}{F H:Hp}{p:PV}{v:V}{Q:List PV->Prop}(h:OkT p Q)(r:RdV K F H p v):∃a vs ps,p=.tup ps/\v=.ref a/\F a=some (.tup vs)/\Reps K F ps vs/\Q ps:=by
 cases p<;>first|exact h.elim|skip
 cases r with
 |frz r=>obtain⟨a,vs,rfl,e,r⟩:=r;exact⟨a,vs,_,rfl,rfl,e,r,h⟩
noncomputable def RL (te:eJ)(tl th:zD):tK:=fun ρ Q=>te ρ fun x=>tl ρ fun l=>th ρ fun h=>OkL x fun ps=>Q (cut ps l h)
theorem LM {lo hi:Option Expr}{tl th:zD}{p2:Pos}(he:hX X e te)(hl:Ea X lo tl)(hh:Ea X hi th):xg X (.Subscript e (.Slice lo hi none p2) pos) (RL te tl th):=PE.weak (oC Fz he hl hh) fun σ H Q hh_=>hh_.elim fun F ρ Qp er q k=>⟨F,ρ,_,er,q,fun p v F1 H1 h1 g1 r1=>
 ⟨F1,ρ,_,er.grow g1,h1,fun l F2 H2 h2 g2=>⟨F2,ρ,_,(er.grow g1).grow g2,h2,fun h F3 H3 h3 g3=>by
  have gg:=(g1.trans g2).trans g3
  obtain⟨a,vs,ps,rfl,hs,r,q⟩:=h3.rd gg.fh (r1.grow (g2.trans g3))
  refine⟨a,vs,rfl,hs,fun p hp=>k _ p _ F3 _ q (gg.trans (.newO gg.fh hp _)) (gg.hh.free hp) (gg.fh.free hp) af r.cut⟩⟩⟩⟩
end
end Pu
end
section
namespace Pu
open PySem PySem.Spec L2 PySem.SeqAt
mutual
noncomputable def plain:PV->Bool
 |.non=>true
 |.bl _=>true
 |.int _=>true
 |.str _=>true
 |.tup ps=>aw ps
 |.lst ps=>aw ps
 |_=>false
noncomputable def aw:List PV->Bool
 |[]=>true
 |p::ps=>plain p&&aw ps
end
mutual
noncomputable def lv:PV->Nat
 |.tup ps=>ck ps+1
 |.lst ps=>ck ps+1
 |_=>0
noncomputable def ck:List PV->Nat
 |[]=>0
 |p::ps=>max (lv p) (ck ps)
end
mutual
noncomputable def iQ:PV->PV->Bool
 |.tup ps,q=>match q with
  |.tup qs=>gR ps qs
  |_=>false
 |.lst ps,q=>match q with
  |.lst qs=>gR ps qs
  |_=>false
 |p,q=>cD q&&Da (kf p) (kf q)
noncomputable def gR:List PV->List PV->Bool
 |[],qs=>match qs with
  |[]=>true
  |_::_=>false
 |p::ps,qs=>match qs with
  |[]=>false
  |q::qs=>iQ p q&&gR ps qs
end
theorem ib:∀(ps qs:List PV),((List.range (min ps.length qs.length)).all (fun j=>iQ (ps.getD j .non) (qs.getD j .non))&&ps.length==qs.length)=gR ps qs
 |[],[]=>by simp[gR]
 |[],_::_=>by simp[gR]
 |_::_,[]=>by simp[gR]
 |p::ps,q::qs=>by
  have ih:=ib ps qs
  rw[gR,←ih]
  rw[show min (p::ps).length (q::qs).length=min ps.length qs.length+1 by simp only[List.length_cons];omega,List.range_succ_eq_map,List.all_cons,List.all_map]
  simp[Bool.and_assoc,Function.comp_def]
theorem mY {ps qs:List PV}(h:ps.length=qs.length):(List.range ps.length).all (fun j=>iQ (ps.getD j .non) (qs.getD j .non))=gR ps qs:=by
 rw[←ib,←h,Nat.min_self];simp
theorem oN {ps qs:List PV}(h:ps.length≠qs.length):gR ps qs=false:=by
 rw[←ib,(show (ps.length==qs.length)=false by simpa using h),Bool.and_false]
mutual
noncomputable def Dv (s:Shared):PV->Value->Prop
 |.tup ps,u=>∃a its,u=.ref a/\s.heap.IsTuple a its.toArray/\Dvs s ps its
 |.lst ps,u=>∃a its,u=.ref a/\s.heap.IsList a its.toArray/\Dvs s ps its
 |p,u=>RelV (kf p) u
noncomputable def Dvs (s:Shared):List PV->List Value->Prop
 |[],us=>us=[]
 |p::ps,us=>∃u r,us=u::r/\Dv s p u/\Dvs s ps r
end
theorem Dvs.length {s:Shared}:∀{ps:List PV} {us:List Value},Dvs s ps us->us.length=ps.length
 |[],_,h=>by rw[show _=[] from h];rfl
 |_::_,_,⟨u,r,e,_,t⟩=>by rw[e,List.length_cons,List.length_cons,t.length]
section
variable {X:Cx}{pins:List (Addr×Obj)}{σ:L2.St}{F H:Hp}{s:Shared}
mutual
theorem Hx (I:L2.Inv X pins σ H s)(sf:Same F H):∀{p:PV} {v:V} {u:Value},plain p=true->Rep X.K F p v->RelV v u->Dv s p u
 |.non,_,_,_,h,r=>by rw[show _=_ from h] at r;exact r
 |.bl _,_,_,_,h,r=>by rw[show _=_ from h] at r;exact r
 |.int _,_,_,_,h,r=>by rw[show _=_ from h] at r;exact r
 |.str _,_,_,_,h,r=>by rw[show _=_ from h] at r;exact r
 |.tup ps,_,_,hp,⟨a,vs,e,hF,rs⟩,r=>by
  subst e
  obtain⟨its,rv,pl,hz⟩:=I.tuple (SqT.of (sf _ _ hF))
  exact⟨a,its,r,pl,jX I sf hp rs rv⟩
 |.lst ps,_,_,hp,⟨a,vs,e,hF,rs⟩,r=>by
  subst e
  obtain⟨its,rv,pl,hz⟩:=I.list (SqL.of (sf _ _ hF))
  exact⟨a,its,r,pl.isList,jX I sf hp rs rv⟩
 |.ty _,_,_,hp,_,_=>absurd hp Bool.false_ne_true
 |.fn _,_,_,hp,_,_=>absurd hp Bool.false_ne_true
 |.dct _ _,_,_,hp,_,_=>absurd hp Bool.false_ne_true
 |.src _,_,_,hp,_,_=>absurd hp Bool.false_ne_true
 |.ktu _,_,_,hp,_,_=>absurd hp Bool.false_ne_true
 |.rng _ _,_,_,hp,_,_=>absurd hp Bool.false_ne_true
theorem jX (I:L2.Inv X pins σ H s)(sf:Same F H):∀{ps:List PV} {vs:List V} {us:List Value},aw ps=true->Reps X.K F ps vs->Vals vs us->Dvs s ps us
 |[],_,_,_,h,r=>by rw[show _=[] from h] at r;cases r;rfl
 |p::ps,_,_,hp,⟨v,t,e,h1,h2⟩,r=>by
  subst e
  cases r with
  |cons r1 r2=>
   rw[aw,Bool.and_eq_true] at hp
   exact⟨_,_,rfl,Hx I sf hp.1 h1 r1,jX I sf hp.2 h2 r2⟩
end
theorem rm (I:L2.Inv X pins σ H s)(sf:Same F H){p:PV}{v:V}{u:Value}(hp:plain p=true)(h:RdV X.K F H p v)(r:RelV v u):Dv s p u:=by
 cases h with
 |frz h=>exact Hx I sf hp h r
 |own h1 h2 h3=>
  obtain⟨its,rv,pl,hz⟩:=I.list (SqL.of h1)
  exact⟨_,its,r,pl.isList,jX I sf hp h3 rv⟩
 |dic=>exact absurd hp Bool.false_ne_true
end
theorem lr {p:PV}(h1:cD p=true)(h2:plain p=true):o5 (kf p)=true:=by
 cases p<;>first|rfl|exact absurd h1 Bool.false_ne_true|exact absurd h2 Bool.false_ne_true
theorem FD {A:Around}{s:Shared}{y x:V}{u v:Value}(ry:RelV y u)(rx:RelV x v)(fy:o5 y=true)(fx:o5 x=true):RcAt A s u v (Da y x):=by
 cases y with
 |non=>
  cases ry
  cases x with
  |non=>cases rx;exact RcAt.none_none
  |bl b=>cases rx;exact RcAt.none_bool b
  |int b=>obtain⟨t,rfl⟩:=rx;exact RcAt.none_int b t
  |str b=>obtain⟨t,rfl⟩:=rx;exact RcAt.none_str b t
  |_=>exact absurd (show false=true from fx) Bool.false_ne_true
 |bl a=>
  cases ry
  cases x with
  |non=>cases rx;exact RcAt.bool_none a
  |bl b=>cases rx;exact RcAt.bool_bool a b
  |int b=>obtain⟨t,rfl⟩:=rx;exact RcAt.bool_int a b t
  |str b=>obtain⟨t,rfl⟩:=rx;exact RcAt.bool_str a b t
  |_=>exact absurd (show false=true from fx) Bool.false_ne_true
 |int a=>
  obtain⟨t',rfl⟩:=ry
  cases x with
  |non=>cases rx;exact RcAt.int_none a t'
  |bl b=>cases rx;exact RcAt.int_bool a t' b
  |int b=>obtain⟨t,rfl⟩:=rx;exact RcAt.int_int a t' b t
  |str b=>obtain⟨t,rfl⟩:=rx;exact RcAt.int_str a t' b t
  |_=>exact absurd (show false=true from fx) Bool.false_ne_true
 |str a=>
  obtain⟨t',rfl⟩:=ry
  cases x with
  |non=>cases rx;exact RcAt.str_none a t'
  |bl b=>cases rx;exact RcAt.str_bool a t' b
  |int b=>obtain⟨t,rfl⟩:=rx;exact RcAt.str_int a t' b t
  |str b=>obtain⟨t,rfl⟩:=rx;exact RcAt.str_str a t' b t
  |_=>exact absurd (show false=true from fx) Bool.false_ne_true
 |_=>exact absurd (show false=true from fy) Bool.false_ne_true
theorem Fi {A:Around}{s:Shared}{y x:V}{u v:Value}(ry:RelV y u)(rx:RelV x v)(fy:o5 y=true)(fx:o5 x=true):RcNeAt A s u v (!Da y x):=by
 cases y with
 |non=>
  cases ry
  cases x with
  |non=>cases rx;exact RcNeAt.none_none
  |bl b=>cases rx;exact RcNeAt.none_bool b
  |int b=>obtain⟨t,rfl⟩:=rx;exact RcNeAt.none_int b t
  |str b=>obtain⟨t,rfl⟩:=rx;exact RcNeAt.none_str b t
  |_=>exact absurd (show false=true from fx) Bool.false_ne_true
 |bl a=>
  cases ry
  cases x with
  |non=>cases rx;exact RcNeAt.bool_none a
  |bl b=>cases rx;exact RcNeAt.bool_bool a b
  |int b=>obtain⟨t,rfl⟩:=rx;exact RcNeAt.bool_int a b t
  |str b=>obtain⟨t,rfl⟩:=rx;exact RcNeAt.bool_str a b t
  |_=>exact absurd (show false=true from fx) Bool.false_ne_true
 |int a=>
  obtain⟨t',rfl⟩:=ry
  cases x with
  |non=>cases rx;exact RcNeAt.int_none a t'
  |bl b=>cases rx;exact RcNeAt.int_bool a t' b
  |int b=>obtain⟨t,rfl⟩:=rx;exact RcNeAt.int_int a t' b t
  |str b=>obtain⟨t,rfl⟩:=rx;exact RcNeAt.int_str a t' b t
  |_=>exact absurd (show false=true from fx) Bool.false_ne_true
 |str a=>
  obtain⟨t',rfl⟩:=ry
  cases x with
  |non=>cases rx;exact RcNeAt.str_none a t'
  |bl b=>cases rx;exact RcNeAt.str_bool a t' b
  |int b=>obtain⟨t,rfl⟩:=rx;exact RcNeAt.str_int a t' b t
  |str b=>obtain⟨t,rfl⟩:=rx;exact RcNeAt.str_str a t' b t
  |_=>exact absurd (show false=true from fx) Bool.false_ne_true
 |_=>exact absurd (show false=true from fy) Bool.false_ne_true
theorem u6 {p q:PV}(hp:cD p=true):iQ p q=(cD q&&Da (kf p) (kf q)):=by
 cases p<;>first|rfl|exact absurd hp Bool.false_ne_true
mutual
theorem oY:∀{p:PV},plain p=true->iQ p p=true
 |.non,_=>rfl
 |.bl b,_=>by simp[iQ,cD,kf,Da]
 |.int b,_=>by simp[iQ,cD,kf,Da]
 |.str b,_=>by simp[iQ,cD,kf,Da]
 |.tup ps,h=>mS (ps:=ps) h
 |.lst ps,h=>mS (ps:=ps) h
 |.ty _,h=>absurd h Bool.false_ne_true
 |.fn _,h=>absurd h Bool.false_ne_true
 |.dct _ _,h=>absurd h Bool.false_ne_true
 |.src _,h=>absurd h Bool.false_ne_true
 |.ktu _,h=>absurd h Bool.false_ne_true
 |.rng _ _,h=>absurd h Bool.false_ne_true
theorem mS:∀{ps:List PV},aw ps=true->gR ps ps=true
 |[],_=>rfl
 |p::ps,h=>by
  rw[aw,Bool.and_eq_true] at h
  rw[gR,oY h.1,mS h.2];rfl
end
theorem Hg {h:Heap}{a:Addr}{x y:List Value}(h1:h.IsTuple a x.toArray)(h2:h.IsTuple a y.toArray):x=y:=by
 obtain⟨o,e,_,n,d⟩:=h1
 obtain⟨o',e',_,n',d'⟩:=h2
 rw[e] at e';cases e'
 rw[d] at d'
 injection d' with d1 _
 simpa using congrArg Array.toList d1
theorem Ff {h:Heap}{a:Addr}{x y:List Value}(h1:h.IsList a x.toArray)(h2:h.IsList a y.toArray):x=y:=by
 obtain⟨o,e,_,n,d⟩:=h1
 obtain⟨o',e',_,n',d'⟩:=h2
 rw[e] at e';cases e'
 rw[d] at d'
 injection d' with d1 _
 simpa using congrArg Array.toList d1
mutual
theorem Dv.inj {s:Shared}:∀{p q:PV} {u:Value},plain p=true->plain q=true->Dv s p u->Dv s q u->p=q
 |.tup ps,q,_,hp,hq,⟨a,its,e,h1,h2⟩,d=>by
  subst e
  cases q with
  |tup qs=>
   obtain⟨a',its',e',h1',h2'⟩:=d
   cases e'
   have:=Hg h1 h1'
   subst this
   rw[Dvs.inj hp hq h2 h2']
  |lst qs=>
   obtain⟨a',its',e',h1',h2'⟩:=d
   cases e'
   exact absurd rfl (ne_of_list_tuple h1' h1)
  |non=>cases (show Value.ref a=_ from d)
  |bl b=>cases (show Value.ref a=_ from d)
  |int b=>obtain⟨t,e⟩:=d;cases e
  |str b=>obtain⟨t,e⟩:=d;cases e
  |_=>exact absurd hq Bool.false_ne_true
 |.lst ps,q,_,hp,hq,⟨a,its,e,h1,h2⟩,d=>by
  subst e
  cases q with
  |lst qs=>
   obtain⟨a',its',e',h1',h2'⟩:=d
   cases e'
   have:=Ff h1 h1'
   subst this
   rw[Dvs.inj hp hq h2 h2']
  |tup qs=>
   obtain⟨a',its',e',h1',h2'⟩:=d
   cases e'
   exact absurd rfl (ne_of_list_tuple h1 h1')
  |non=>cases (show Value.ref a=_ from d)
  |bl b=>cases (show Value.ref a=_ from d)
  |int b=>obtain⟨t,e⟩:=d;cases e
  |str b=>obtain⟨t,e⟩:=d;cases e
  |_=>exact absurd hq Bool.false_ne_true
 |.non,q,_,hp,hq,d,d'=>by
  cases (show _=Value.none from d)
  cases q with
  |non=>rfl
  |bl b=>cases (show Value.none=_ from d')
  |int b=>obtain⟨t,e⟩:=d';cases e
  |str b=>obtain⟨t,e⟩:=d';cases e
  |tup qs=>obtain⟨a,its,e,_⟩:=d';cases e
  |lst qs=>obtain⟨a,its,e,_⟩:=d';cases e
  |_=>exact absurd hq Bool.false_ne_true
 |.bl x,q,_,hp,hq,d,d'=>by
  cases (show _=Value.bool x from d)
  cases q with
  |non=>cases (show Value.bool x=_ from d')
  |bl b=>cases (show Value.bool x=Value.bool b from d');rfl
  |int b=>obtain⟨t,e⟩:=d';cases e
  |str b=>obtain⟨t,e⟩:=d';cases e
  |tup qs=>obtain⟨a,its,e,_⟩:=d';cases e
  |lst qs=>obtain⟨a,its,e,_⟩:=d';cases e
  |_=>exact absurd hq Bool.false_ne_true
 |.int x,q,_,hp,hq,⟨t,d⟩,d'=>by
  subst d
  cases q with
  |non=>cases (show Value.int x t=_ from d')
  |bl b=>cases (show Value.int x t=Value.bool b from d')
  |int b=>obtain⟨t,e⟩:=d';cases e;rfl
  |str b=>obtain⟨t,e⟩:=d';cases e
  |tup qs=>obtain⟨a,its,e,_⟩:=d';cases e
  |lst qs=>obtain⟨a,its,e,_⟩:=d';cases e
  |_=>exact absurd hq Bool.false_ne_true
 |.str x,q,_,hp,hq,⟨t,d⟩,d'=>by
  subst d
  cases q with
  |non=>cases (show Value.str x t=_ from d')
  |bl b=>cases (show Value.str x t=Value.bool b from d')
  |int b=>obtain⟨t,e⟩:=d';cases e
  |str b=>obtain⟨t,e⟩:=d';cases e;rfl
  |tup qs=>obtain⟨a,its,e,_⟩:=d';cases e
  |lst qs=>obtain⟨a,its,e,_⟩:=d';cases e
  |_=>exact absurd hq Bool.false_ne_true
 |.ty _,_,_,h,_,_,_=>absurd h Bool.false_ne_true
 |.fn _,_,_,h,_,_,_=>absurd h Bool.false_ne_true
 |.dct _ _,_,_,h,_,_,_=>absurd h Bool.false_ne_true
 |.src _,_,_,h,_,_,_=>absurd h Bool.false_ne_true
 |.ktu _,_,_,h,_,_,_=>absurd h Bool.false_ne_true
 |.rng _ _,_,_,h,_,_,_=>absurd h Bool.false_ne_true
theorem Dvs.inj {s:Shared}:∀{ps qs:List PV} {us:List Value},aw ps=true->aw qs=true->Dvs s ps us->Dvs s qs us->ps=qs
 |[],qs,_,_,_,h,h'=>by
  cases (show _=[] from h)
  cases qs with
  |nil=>rfl
  |cons q qs=>obtain⟨u,r,e,_⟩:=h';cases e
 |p::ps,qs,_,hp,hq,⟨u,r,e,d1,d2⟩,h'=>by
  subst e
  cases qs with
  |nil=>cases (show _=[] from h')
  |cons q qs=>
   obtain⟨u',r',e',d1',d2'⟩:=h'
   cases e'
   rw[aw,Bool.and_eq_true] at hp hq
   rw[Dv.inj hp.1 hq.1 d1 d1',Dvs.inj hp.2 hq.2 d2 d2']
end
theorem Dv.flat' {s:Shared}{p:PV}{u:Value}(hf:cD p=true)(h:Dv s p u):RelV (kf p) u:=by
 cases p<;>first|exact h|exact absurd hf Bool.false_ne_true
theorem xD {s:Shared}{p q:PV}{A:Around}{u v:Value}(hf:cD p=true)(hp:plain p=true)(hq:plain q=true)(hd:A.units<cLine)(d:Dv s p u)(d':Dv s q v):RcAt A s u v (iQ p q):=by
 rw[u6 hf]
 cases hfq:cD q with
 |true=>
  rw[Bool.true_and]
  exact FD (d.flat' hf) (d'.flat' hfq) (lr hf hp) (lr hfq hq)
 |false=>
  rw[Bool.false_and]
  have dp:=d.flat' hf
  cases q with
  |tup qs=>
   obtain⟨b,its2,e',h1',h2'⟩:=d'
   subst e'
   cases p with
   |non=>cases dp;exact RcAt.none_tuple h1' hd
   |bl x=>cases dp;exact RcAt.bool_tuple x h1' hd
   |int x=>obtain⟨t,rfl⟩:=dp;exact RcAt.int_tuple x t h1' hd
   |str x=>obtain⟨t,rfl⟩:=dp;exact RcAt.str_tuple x t h1' hd
   |_=>first|exact absurd hf Bool.false_ne_true|exact absurd hp Bool.false_ne_true
  |lst qs=>
   obtain⟨b,its2,e',h1',h2'⟩:=d'
   subst e'
   cases p with
   |non=>cases dp;exact RcAt.none_list h1' hd
   |bl x=>cases dp;exact RcAt.bool_list x h1' hd
   |int x=>obtain⟨t,rfl⟩:=dp;exact RcAt.int_list x t h1' hd
   |str x=>obtain⟨t,rfl⟩:=dp;exact RcAt.str_list x t h1' hd
   |_=>first|exact absurd hf Bool.false_ne_true|exact absurd hp Bool.false_ne_true
  |_=>first|exact absurd hfq.symm Bool.false_ne_true|exact absurd hq Bool.false_ne_true
theorem vJ {s:Shared}{p q:PV}{A:Around}{u v:Value}(hp:plain p=true)(hq:plain q=true)(d:Dv s p u)(d':Dv s q v)(hd:A.units<cLine)(rc:RcAt A s u v (iQ p q)):EqAt A s u v (iQ p q):=by
 by_cases h:u=v
 ·subst h
  obtain rfl:=Dv.inj hp hq d d'
  rw[oY hp]
  exact EqAt.same _
 ·intro prog w E Q hQ
  unfold eqBool
  refine wpAny_holding ?_
  refine wpAny_ite_split (fun hab=>absurd (eq_of_beq hab) h) (fun _=>?_)
  have nf:∀b t,u≠Value.float b t:=fun b t e=>by
   subst e
   cases p with
   |tup ps=>obtain⟨_,_,e,_⟩:=d;cases e
   |lst ps=>obtain⟨_,_,e,_⟩:=d;cases e
   |non=>cases (show _=Value.none from d)
   |bl x=>cases (show _=Value.bool x from d)
   |int x=>obtain⟨_,e⟩:=d;cases e
   |str x=>obtain⟨_,e⟩:=d;cases e
   |_=>exact absurd hp Bool.false_ne_true
  cases u with
  |float b t=>exact absurd rfl (nf b t)
  |_=>exact wpAny_bind (rc prog w E _ (wpAny_truthy_bool hQ))
mutual
theorem L7 {s:Shared}:∀{p q:PV} {A:Around} {u v:Value},plain p=true->plain q=true->A.units+lv p+1<cLine->Dv s p u->Dv s q v->RcAt A s u v (iQ p q)
 |.tup ps,q,A,_,v,hp,hq,hd,⟨a,its,e,h1,h2⟩,d=>by
  subst e
  have l1:=h2.length
  cases q with
  |tup qs=>
   obtain⟨b,its2,e',h1',h2'⟩:=d
   subst e'
   have l2:=h2'.length
   have:=RcAt.tuples (A:=A) (s:=s) (e:=fun j=>iQ (ps.getD j .non) (qs.getD j .non)) h1 h1' (by omega) (fun j k1 k2=>vR (ps:=ps) (qs:=qs) hp hq (by rw[lv] at hd;show A.units+1+ck ps+1<cLine;omega) h2 h2' j (by simp at k1;omega) (by simp at k2;omega) (by simpa using k1) (by simpa using k2))
   rw[List.size_toArray,List.size_toArray,l1,l2,ib] at this
   exact this
  |lst qs=>obtain⟨b,its2,e',h1',h2'⟩:=d;subst e';exact RcAt.tuple_list h1 h1' (by omega)
  |non=>cases (show _=Value.none from d);exact RcAt.tuple_none h1 (by omega)
  |bl b=>cases (show _=Value.bool b from d);exact RcAt.tuple_bool b h1 (by omega)
  |int b=>obtain⟨t,rfl⟩:=d;exact RcAt.tuple_int b t h1 (by omega)
  |str b=>obtain⟨t,rfl⟩:=d;exact RcAt.tuple_str b t h1 (by omega)
  |_=>exact absurd hq Bool.false_ne_true
 |.lst ps,q,A,_,v,hp,hq,hd,⟨a,its,e,h1,h2⟩,d=>by
  subst e
  have l1:=h2.length
  cases q with
  |lst qs=>
   obtain⟨b,its2,e',h1',h2'⟩:=d
   subst e'
   have l2:=h2'.length
   by_cases hl:ps.length=qs.length
   ·have:=RcAt.lists (A:=A) (s:=s) (e:=fun j=>iQ (ps.getD j .non) (qs.getD j .non)) h1 h1' (by simp;omega) (by omega) (fun j k1 k2=>vR (ps:=ps) (qs:=qs) hp hq (by rw[lv] at hd;show A.units+1+ck ps+1<cLine;omega) h2 h2' j (by simp at k1;omega) (by simp at k2;omega) (by simpa using k1) (by simpa using k2))
    rw[List.size_toArray,l1,mY hl] at this
    exact this
   ·have:=RcAt.lists_lengths (A:=A) (s:=s) h1 h1' (by simp;omega) (by omega)
    rw[←oN hl] at this
    exact this
  |tup qs=>obtain⟨b,its2,e',h1',h2'⟩:=d;subst e';exact RcAt.list_tuple h1 h1' (by omega)
  |non=>cases (show _=Value.none from d);exact RcAt.list_none h1 (by omega)
  |bl b=>cases (show _=Value.bool b from d);exact RcAt.list_bool b h1 (by omega)
  |int b=>obtain⟨t,rfl⟩:=d;exact RcAt.list_int b t h1 (by omega)
  |str b=>obtain⟨t,rfl⟩:=d;exact RcAt.list_str b t h1 (by omega)
  |_=>exact absurd hq Bool.false_ne_true
 |.non,q,A,u,v,hp,hq,hd,d,d'=>xD (p:=.non) rfl hp hq (by omega) d d'
 |.bl x,q,A,u,v,hp,hq,hd,d,d'=>xD (p:=.bl x) rfl hp hq (by omega) d d'
 |.int x,q,A,u,v,hp,hq,hd,d,d'=>xD (p:=.int x) rfl hp hq (by omega) d d'
 |.str x,q,A,u,v,hp,hq,hd,d,d'=>xD (p:=.str x) rfl hp hq (by omega) d d'
 |.ty _,_,_,_,_,h,_,_,_,_=>absurd h Bool.false_ne_true
 |.fn _,_,_,_,_,h,_,_,_,_=>absurd h Bool.false_ne_true
 |.dct _ _,_,_,_,_,h,_,_,_,_=>absurd h Bool.false_ne_true
 |.src _,_,_,_,_,h,_,_,_,_=>absurd h Bool.false_ne_true
 |.ktu _,_,_,_,_,h,_,_,_,_=>absurd h Bool.false_ne_true
 |.rng _ _,_,_,_,_,h,_,_,_,_=>absurd h Bool.false_ne_true
theorem vR {s:Shared}:∀{ps qs:List PV} {A:Around} {us vs:List Value},aw ps=true->aw qs=true->A.units+ck ps+1<cLine->Dvs s ps us->Dvs s qs vs →
  ∀(j:Nat),j<ps.length->j<qs.length->(h1:j<us.length)->(h2:j<vs.length)->EqAt A s us[j] vs[j] (iQ (ps.getD j .non) (qs.getD j .non))
 |[],_,_,_,_,_,_,_,_,_,_,h,_,_,_=>absurd h (Nat.not_lt_zero _)
 |p::ps,qs,A,_,_,hp,hq,hd,⟨u,r,e,d1,d2⟩,d',j,k1,k2,h1,h2=>by
  subst e
  cases qs with
  |nil=>exact absurd k2 (Nat.not_lt_zero _)
  |cons q qs=>
   obtain⟨v,r',e',d1',d2'⟩:=d'
   subst e'
   rw[aw,Bool.and_eq_true] at hp hq
   rw[ck] at hd
   cases j with
   |zero=>
    show EqAt A s u v (iQ p q)
    have rc:=L7 (p:=p) (q:=q) (A:=A) hp.1 hq.1 (by omega) d1 d1'
    exact vJ hp.1 hq.1 d1 d1' (by omega) rc
   |succ j=>
    simp only[List.length_cons] at k1 k2 h1 h2
    have:=vR (ps:=ps) (qs:=qs) (A:=A) hp.2 hq.2 (by omega) d2 d2' j (by omega) (by omega) (by omega) (by omega)
    simpa using this
end
end Pu
end
section
namespace Pu
open PySem PySem.Spec L2 PySem.SeqAt
theorem Ri {s:Shared}{p q:PV}{A:Around}{u v:Value}(hp:plain p=true)(hq:plain q=true)(hd:A.units+lv p+1<cLine)(d:Dv s p u)(d':Dv s q v):RcNeAt A s u v (!iQ p q):=by
 have hu:A.units<cLine:=by omega
 by_cases hf:cD p=true
 ·rw[u6 hf]
  have dp:=d.flat' hf
  cases hfq:cD q with
  |true=>rw[Bool.true_and];exact Fi dp (d'.flat' hfq) (lr hf hp) (lr hfq hq)
  |false=>
   rw[Bool.false_and]
   cases q with
   |tup qs=>
    obtain⟨b,its2,e',h1',h2'⟩:=d'
    subst e'
    cases p with
    |non=>cases dp;exact RcNeAt.none_tuple h1' hu
    |bl x=>cases dp;exact RcNeAt.bool_tuple x h1' hu
    |int x=>obtain⟨t,rfl⟩:=dp;exact RcNeAt.int_tuple x t h1' hu
    |str x=>obtain⟨t,rfl⟩:=dp;exact RcNeAt.str_tuple x t h1' hu
    |_=>first|exact absurd hf Bool.false_ne_true|exact absurd hp Bool.false_ne_true
   |lst qs=>
    obtain⟨b,its2,e',h1',h2'⟩:=d'
    subst e'
    cases p with
    |non=>cases dp;exact RcNeAt.none_list h1' hu
    |bl x=>cases dp;exact RcNeAt.bool_list x h1' hu
    |int x=>obtain⟨t,rfl⟩:=dp;exact RcNeAt.int_list x t h1' hu
    |str x=>obtain⟨t,rfl⟩:=dp;exact RcNeAt.str_list x t h1' hu
    |_=>first|exact absurd hf Bool.false_ne_true|exact absurd hp Bool.false_ne_true
   |_=>first|exact absurd hfq.symm Bool.false_ne_true|exact absurd hq Bool.false_ne_true
 ·cases p with
  |tup ps=>
   obtain⟨a,its,e,h1,h2⟩:=d
   subst e
   have l1:=h2.length
   cases q with
   |tup qs=>
    obtain⟨b,its2,e',h1',h2'⟩:=d'
    subst e'
    have l2:=h2'.length
    have:=RcNeAt.tuples (A:=A) (s:=s) (e:=fun j=>iQ (ps.getD j .non) (qs.getD j .non)) h1 h1' (by omega) (fun j k1 k2=>vR (ps:=ps) (qs:=qs) hp hq (by rw[lv] at hd;show A.units+1+ck ps+1<cLine;omega) h2 h2' j (by simp at k1;omega) (by simp at k2;omega) (by simpa using k1) (by simpa using k2))
    rw[List.size_toArray,List.size_toArray,l1,l2,ib] at this
    exact this
   |lst qs=>obtain⟨b,its2,e',h1',h2'⟩:=d';subst e';exact RcNeAt.tuple_list h1 h1' hu
   |non=>cases (show _=Value.none from d');exact RcNeAt.tuple_none h1 hu
   |bl b=>cases (show _=Value.bool b from d');exact RcNeAt.tuple_bool b h1 hu
   |int b=>obtain⟨t,rfl⟩:=d';exact RcNeAt.tuple_int b t h1 hu
   |str b=>obtain⟨t,rfl⟩:=d';exact RcNeAt.tuple_str b t h1 hu
   |_=>exact absurd hq Bool.false_ne_true
  |lst ps=>
   obtain⟨a,its,e,h1,h2⟩:=d
   subst e
   have l1:=h2.length
   cases q with
   |lst qs=>
    obtain⟨b,its2,e',h1',h2'⟩:=d'
    subst e'
    have l2:=h2'.length
    by_cases hl:ps.length=qs.length
    ·have:=RcNeAt.lists (A:=A) (s:=s) (e:=fun j=>iQ (ps.getD j .non) (qs.getD j .non)) h1 h1' (by simp;omega) (by omega) (fun j k1 k2=>vR (ps:=ps) (qs:=qs) hp hq (by rw[lv] at hd;show A.units+1+ck ps+1<cLine;omega) h2 h2' j (by simp at k1;omega) (by simp at k2;omega) (by simpa using k1) (by simpa using k2))
     rw[List.size_toArray,l1,mY hl] at this
     exact this
    ·have:=RcNeAt.lists_lengths (A:=A) (s:=s) h1 h1' (by simp;omega) (by omega)
     rw[show true=!gR ps qs by rw[oN hl];rfl] at this
     exact this
   |tup qs=>obtain⟨b,its2,e',h1',h2'⟩:=d';subst e';exact RcNeAt.list_tuple h1 h1' hu
   |non=>cases (show _=Value.none from d');exact RcNeAt.list_none h1 hu
   |bl b=>cases (show _=Value.bool b from d');exact RcNeAt.list_bool b h1 hu
   |int b=>obtain⟨t,rfl⟩:=d';exact RcNeAt.list_int b t h1 hu
   |str b=>obtain⟨t,rfl⟩:=d';exact RcNeAt.list_str b t h1 hu
   |_=>exact absurd hq Bool.false_ne_true
  |_=>first|exact absurd rfl hf|exact absurd hp Bool.false_ne_true
section
variable {X:Cx}{a b c e:Expr}{pos:Pos}{ta tb te:eJ}
noncomputable def Hj (K:PySem.W.Frag)(f:Bool->Bool):R2:=fun x y H Q=>∃F p q,Same F H/\RdV K F H p x/\RdV K F H q y/\plain p=true/\plain q=true/\lv p≤50/\Q (.bl (f (iQ p q))) H
theorem KT (hu:X.A.units+64<cLine):iD X (compareOp .Eq) (Hj X.K id):=by
 intro pins s σ H x y v u Q I rx ry ⟨F,p,q,sf,r1,r2,hp,hq,hd,k⟩
 exact L7 (A:=X.A) hp hq (by omega) (rm I sf hp r1 rx) (rm I sf hq r2 ry) _ _ _ _ ⟨.bl _,H,I,rfl,k⟩
theorem Ml (hu:X.A.units+64<cLine):iD X (compareOp .NotEq) (Hj X.K (!·)):=by
 intro pins s σ H x y v u Q I rx ry ⟨F,p,q,sf,r1,r2,hp,hq,hd,k⟩
 exact Ri (A:=X.A) hp hq (by omega) (rm I sf hp r1 rx) (rm I sf hq r2 ry) _ _ _ _ ⟨.bl _,H,I,rfl,k⟩
noncomputable def Sz:jm:=fun x y Q=>plain x=true/\plain y=true/\lv x≤50/\Q (.bl (iQ x y))
noncomputable def SM:jm:=fun x y Q=>plain x=true/\plain y=true/\lv x≤50/\Q (.bl (!iQ x y))
theorem OG:fH X.K (Hj X.K id) Sz:=fun F H x y p q Qp Q s rx ry h k=>⟨F,p,q,s,rx,ry,h.1,h.2.1,h.2.2.1,k _ _ F H h.2.2.2 (.refl s) rfl⟩
theorem Ou:fH X.K (Hj X.K (!·)) SM:=fun F H x y p q Qp Q s rx ry h k=>⟨F,p,q,s,rx,ry,h.1,h.2.1,h.2.2.1,k _ _ F H h.2.2.2 (.refl s) rfl⟩
open Classical in
noncomputable def IV (s:Shared)(q:PV)(u:Value):Bool:=if h:∃p,plain p=true/\Dv s p u then iQ h.choose q else false
theorem BA {s:Shared}{q p:PV}{u:Value}(hp:plain p=true)(d:Dv s p u):IV s q u=iQ p q:=by
 have h:∃p,plain p=true/\Dv s p u:=⟨p,hp,d⟩
 unfold IV
 rw[dif_pos h,Dv.inj h.choose_spec.1 hp h.choose_spec.2 d]
theorem lH {s:Shared}{q:PV}:∀{ps:List PV} {us:List Value},aw ps=true->Dvs s ps us->us.any (IV s q)=ps.any fun p=>iQ p q
 |[],_,_,h=>by rw[show _=[] from h];rfl
 |p::ps,_,hp,⟨u,r,e,d1,d2⟩=>by
  subst e
  rw[aw,Bool.and_eq_true] at hp
  rw[List.any_cons,List.any_cons,BA hp.1 d1,lH hp.2 d2]
theorem lC {s:Shared}{A:Around}{q:PV}{v:Value}(hq:plain q=true)(dq:Dv s q v):∀{ps:List PV} {us:List Value},aw ps=true->A.units+ck ps+1<cLine->Dvs s ps us->∀u∈us,EqAt A s u v (IV s q u)
 |[],_,_,_,h,u,hu=>by rw[show _=[] from h] at hu;cases hu
 |p::ps,_,hp,hd,⟨u',r,e,d1,d2⟩,u,hu=>by
  subst e
  rw[aw,Bool.and_eq_true] at hp
  rw[ck] at hd
  rcases List.mem_cons.mp hu with rfl|hu
  ·rw[BA hp.1 d1]
   exact vJ hp.1 hq d1 dq (by omega) (L7 hp.1 hq (by omega) d1 dq)
  ·exact lC hq dq hp.2 (by omega) d2 u hu
noncomputable def pin (x:PV)(ps:List PV):Bool:=ps.any fun p=>iQ p x
noncomputable def Hd (K:PySem.W.Frag)(f:Bool->Bool):R2:=fun x y H Q=>∃F q a vs ps,y=.ref a/\Same F H/\RdV K F H q x/\(SqL K H a vs\/SqT K H a vs)/\Reps K F ps vs/\plain q=true/\aw ps=true/\ck ps≤50/\Q (.bl (f (pin q ps))) H
theorem Ky (hu:X.A.units+64<cLine):iD X (compareOp .In) (Hd X.K id):=by
 intro pins s σ H x y v u Q I rx ry ⟨F,q,a,vs,ps,ey,sf,rq,hs,rs,hq,hp,hd,k⟩
 subst ey
 cases ry
 have dq:=rm I sf hq rq rx
 rcases hs with hs|hs
 ·obtain⟨its,rv,pl,hz⟩:=I.list hs
  have ds:=jX I sf hp rs rv
  refine in_listAt (IV s q) pl.isList (fun y hy=>lC hq dq hp (by show X.A.units+1+ck ps+1<cLine;omega) ds y (by simpa using hy)) ?_
  rw[List.any_toArray,lH hp ds]
  exact⟨.bl _,H,I,rfl,k⟩
 ·obtain⟨its,rv,pl,hz⟩:=I.tuple hs
  have ds:=jX I sf hp rs rv
  refine in_tupleAt (IV s q) pl (fun y hy=>lC hq dq hp (by show X.A.units+1+ck ps+1<cLine;omega) ds y (by simpa using hy)) ?_
  rw[List.any_toArray,lH hp ds]
  exact⟨.bl _,H,I,rfl,k⟩
theorem zO (hu:X.A.units+64<cLine):iD X (compareOp .NotIn) (Hd X.K (!·)):=by
 intro pins s σ H x y v u Q I rx ry ⟨F,q,a,vs,ps,ey,sf,rq,hs,rs,hq,hp,hd,k⟩
 subst ey
 cases ry
 have dq:=rm I sf hq rq rx
 rcases hs with hs|hs
 ·obtain⟨its,rv,pl,hz⟩:=I.list hs
  have ds:=jX I sf hp rs rv
  refine notIn_listAt (IV s q) pl.isList (fun y hy=>lC hq dq hp (by show X.A.units+1+ck ps+1<cLine;omega) ds y (by simpa using hy)) ?_
  rw[List.any_toArray,lH hp ds]
  exact⟨.bl _,H,I,rfl,k⟩
 ·obtain⟨its,rv,pl,hz⟩:=I.tuple hs
  have ds:=jX I sf hp rs rv
  refine notIn_tupleAt (IV s q) pl (fun y hy=>lC hq dq hp (by show X.A.units+1+ck ps+1<cLine;omega) ds y (by simpa using hy)) ?_
  rw[List.any_toArray,lH hp ds]
  exact⟨.bl _,H,I,rfl,k⟩
noncomputable def Sg:jm:=fun x y Q=>OkS y fun ps=>plain x=true/\aw ps=true/\ck ps≤50/\Q (.bl (pin x ps))
noncomputable def CG:jm:=fun x y Q=>OkS y fun ps=>plain x=true/\aw ps=true/\ck ps≤50/\Q (.bl (!pin x ps))
theorem N0:fH X.K (Hd X.K id) Sg:=fun F H x y p q Qp Q s rx ry h k=>by
 obtain⟨a,vs,ps,rfl,hs,_,rs,h⟩:=OkS.rd h s ry
 exact⟨F,p,a,vs,ps,rfl,s,rx,hs,rs,h.1,h.2.1,h.2.2.1,k _ _ F H h.2.2.2 (.refl s) rfl⟩
theorem Do:fH X.K (Hd X.K (!·)) CG:=fun F H x y p q Qp Q s rx ry h k=>by
 obtain⟨a,vs,ps,rfl,hs,_,rs,h⟩:=OkS.rd h s ry
 exact⟨F,p,a,vs,ps,rfl,s,rx,hs,rs,h.1,h.2.1,h.2.2.1,k _ _ F H h.2.2.2 (.refl s) rfl⟩
end
end Pu
end
section
namespace Pu
open PySem PySem.Spec L2
section
variable {X:Cx}{a b c e:Expr}{pos:Pos}{ta tb te:eJ}{t:jn}
noncomputable abbrev vo:=List PV->(PV->Prop)->Prop
noncomputable abbrev Im:=List PV->(List PV->Prop)->Prop
noncomputable def kP (K:PySem.W.Frag)(r:List V->Hp->VK->Prop)(g:vo):Prop:=∀F H xs ps (Qp:PV->Prop) (Q:VK),Same F H->RdVs K F H ps xs->g ps Qp->(∀z v F' H',Qp z->Grow F H F' H'->Rep K F' z v->Q v H')->r xs H Q
noncomputable def zj (K:PySem.W.Frag)(r:List V->Hp->VK->Prop)(g:Im):Prop:=∀F H xs ps (Qp:List PV->Prop) (Q:VK),Same F H->RdVs K F H ps xs->g ps Qp->(∀zs a vs F' H',Qp zs->Grow F H F' H'->H a=none->F' a=none->H' a=some (.lst vs)->Reps K F' zs vs->Q (.ref a) H')->r xs H Q
noncomputable def SG (g:vo)(t:jn):eJ:=fun ρ Q=>t ρ fun ps=>g ps Q
noncomputable def Sw (g:Im)(t:jn):tK:=fun ρ Q=>t ρ fun ps=>g ps Q
theorem NK {r:List V->Hp->VK->Prop}{g:vo}(hr:kP X.K r g)(h:PE X e (km r (lAT X.K t))):fN X e (SG g t):=PE.weak h fun σ H Q hh_=>hh_.elim fun F ρ Qp er q k=>⟨F,ρ,_,er,q,fun ps vs F1 H1 h1 g1 r1=>
 hr F1 H1 vs ps Qp Q g1.fh r1 h1 fun z v F2 H2 h2 g2 r2=>k z v F2 H2 h2 (g1.trans g2) r2⟩
theorem CY {r:List V->Hp->VK->Prop}{g:Im}(hr:zj X.K r g)(h:PE X e (km r (lAT X.K t))):xg X e (Sw g t):=PE.weak h fun σ H Q hh_=>hh_.elim fun F ρ Qp er q k=>⟨F,ρ,_,er,q,fun ps vs F1 H1 h1 g1 r1=>
 hr F1 H1 vs ps Qp Q g1.fh r1 h1 fun zs a vs F2 H2 h2 g2 h0 hF hH r2=>k zs a vs F2 H2 h2 (g1.trans g2) (g1.hh.free h0) hF hH r2⟩
noncomputable def One (ps:List PV)(Q:PV->Prop):Prop:=match ps with
 |[p]=>Q p
 |_=>False
noncomputable def Two (ps:List PV)(Q:PV->PV->Prop):Prop:=match ps with
 |[p,q]=>Q p q
 |_=>False
theorem One.rd {K:PySem.W.Frag}{F H:Hp}{ps:List PV}{xs:List V}{Q:PV->Prop}(h:One ps Q)(r:RdVs K F H ps xs):∃p v,ps=[p]/\xs=[v]/\RdV K F H p v/\Q p:=by
 unfold One at h
 split at h
 ·cases r with
  |cons r1 r2=>cases r2;exact⟨_,_,rfl,rfl,r1,h⟩
 ·exact h.elim
theorem Two.rd {K:PySem.W.Frag}{F H:Hp}{ps:List PV}{xs:List V}{Q:PV->PV->Prop}(h:Two ps Q)(r:RdVs K F H ps xs):∃p v p2 v2,ps=[p,p2]/\xs=[v,v2]/\RdV K F H p v/\RdV K F H p2 v2/\Q p p2:=by
 unfold Two at h
 split at h
 ·cases r with
  |cons r1 r2=>cases r2 with
   |cons r2 r3=>cases r3;exact⟨_,_,_,_,rfl,rfl,r1,r2,h⟩
 ·exact h.elim
noncomputable def MI:vo:=fun ps Q=>One ps fun p=>match p with
 |.str z=>z.length≤sizeLine/\Q (.int z.length)
 |p=>OkS p fun ps=>Q (.int ps.length)
theorem LO:kP X.K (fun xs H Q=>∃x n,xs=[x]/\OU X.K x H n/\Q (.int n) H) MI:=fun F H xs ps Qp Q s r h k=>by
 obtain⟨p,v,rfl,rfl,r,h⟩:=h.rd r
 by_cases hz:∃z,p=.str z
 ·obtain⟨z,rfl⟩:=hz
  cases r with
  |frz r=>cases (show v=.str z from r);exact⟨_,z.length,rfl,⟨h.1,rfl⟩,k _ _ F H h.2 (.refl s) rfl⟩
 ·have h':OkS p fun ps=>Qp (.int ps.length):=by
   cases p<;>first|exact h|exact absurd ⟨_,rfl⟩ hz
  obtain⟨a,vs,ps,rfl,hs,_,rs,h⟩:=h'.rd s r
  refine⟨_,vs.length,rfl,?_,k _ _ F H h (.refl s) (by rw[rs.length];rfl)⟩
  rcases hs with hs|hs
  ·exact .inl ⟨vs,hs,rfl⟩
  ·exact .inr ⟨vs,hs,rfl⟩
noncomputable def PB:vo:=fun ps Q=>One ps fun p=>OkI p fun i=>Q (.int (if i<0 then -i else i))
theorem KR:kP X.K (fun xs H Q=>∃i,xs=[.int i]/\Q (.int (if i<0 then -i else i)) H) PB:=fun F H xs ps Qp Q s r h k=>by
 obtain⟨p,v,rfl,rfl,r,h⟩:=h.rd r
 obtain⟨i,rfl,rfl,h⟩:=h.rd r
 exact⟨i,rfl,k _ _ F H h (.refl s) rfl⟩
noncomputable def II:vo:=fun ps Q=>Two ps fun p q=>OkI p fun i=>OkI q fun j=>Q (.int (if j > i then j else i))
theorem G2:kP X.K (fun xs H Q=>∃i j,xs=[.int i,.int j]/\Q (.int (if j > i then j else i)) H) II:=fun F H xs ps Qp Q s r h k=>by
 obtain⟨p,v,p2,v2,rfl,rfl,r,r2,h⟩:=h.rd r
 obtain⟨i,rfl,rfl,h⟩:=h.rd r
 obtain⟨j,rfl,rfl,h⟩:=h.rd r2
 exact⟨i,j,rfl,k _ _ F H h (.refl s) rfl⟩
noncomputable def IA:vo:=fun ps Q=>Two ps fun p q=>OkI p fun i=>OkI q fun j=>Q (.int (if j<i then j else i))
theorem FQ:kP X.K (fun xs H Q=>∃i j,xs=[.int i,.int j]/\Q (.int (if j<i then j else i)) H) IA:=fun F H xs ps Qp Q s r h k=>by
 obtain⟨p,v,p2,v2,rfl,rfl,r,r2,h⟩:=h.rd r
 obtain⟨i,rfl,rfl,h⟩:=h.rd r
 obtain⟨j,rfl,rfl,h⟩:=h.rd r2
 exact⟨i,j,rfl,k _ _ F H h (.refl s) rfl⟩
noncomputable def OB:vo:=fun ps Q=>One ps fun p=>match p with
 |.bl k=>Q (.int (if k then 1 else 0))
 |p=>OkI p fun i=>Q (.int i)
theorem Ks:kP X.K (fun xs H Q=>(∃i,xs=[.int i]/\Q (.int i) H)\/∃k,xs=[.bl k]/\Q (.int (if k then 1 else 0)) H) OB:=fun F H xs ps Qp Q s r h k=>by
 obtain⟨p,v,rfl,rfl,r,h⟩:=h.rd r
 by_cases hz:∃z,p=.bl z
 ·obtain⟨z,rfl⟩:=hz
  obtain⟨b,e,rfl,h⟩:=OkB.rd (p:=.bl z) (Q:=fun z=>Qp (.int (if z then 1 else 0))) h r
  exact .inr ⟨b,rfl,k _ _ F H h (.refl s) rfl⟩
 ·have h':OkI p fun i=>Qp (.int i):=by
   cases p<;>first|exact h|exact absurd ⟨_,rfl⟩ hz
  obtain⟨i,rfl,rfl,h⟩:=h'.rd r
  exact .inl ⟨i,rfl,k _ _ F H h (.refl s) rfl⟩
noncomputable def OkBs:List PV->(List Bool->Prop)->Prop
 |[],Q=>Q []
 |p::ps,Q=>OkB p fun b=>OkBs ps fun bs=>Q (b::bs)
theorem ui (bs:List Bool)(Q:List Bool->Prop):OkBs (bs.map PV.bl) Q=Q bs:=by
 induction bs generalizing Q with
 |nil=>rfl
 |cons b r ih=>
  show OkBs (r.map PV.bl) (fun bs=>Q (b::bs))=_
  rw[ih]
theorem OkBs.rd {K:PySem.W.Frag}{F:Hp}:∀{ps:List PV} {vs:List V} {Q:List Bool->Prop},OkBs ps Q->Reps K F ps vs->∃bs,vs=bs.map V.bl/\ps=bs.map PV.bl/\Q bs
 |[],_,_,h,r=>⟨[],r,rfl,h⟩
 |p::ps,_,Q,h,⟨v,t,e,r1,r2⟩=>by
  subst e
  obtain⟨b,rfl,rfl,h⟩:=OkB.rd (H:=F) h (.frz r1)
  obtain⟨bs,rfl,rfl,h'⟩:=OkBs.rd h r2
  exact⟨b::bs,rfl,rfl,h'⟩
noncomputable def NM:vo:=fun ps Q=>One ps fun p=>OkL p fun ps=>OkBs ps fun bs=>Q (.bl (bs.all id))
theorem I0:kP X.K (fun xs H Q=>∃(p:Addr) (bs:List Bool),xs=[.ref p]/\SqL X.K H p (bs.map V.bl)/\Q (.bl (bs.all id)) H) NM:=fun F H xs ps Qp Q s r h k=>by
 obtain⟨p,v,rfl,rfl,r,h⟩:=h.rd r
 obtain⟨a,vs,ps,rfl,hs,rs,h⟩:=h.rd s r
 obtain⟨bs,rfl,rfl,h'⟩:=h.rd rs
 exact⟨a,bs,rfl,hs,k (.bl _) _ F H h' (.refl s) rfl⟩
noncomputable def PJ:vo:=fun ps Q=>One ps fun p=>OkL p fun ps=>OkBs ps fun bs=>Q (.bl (bs.any id))
theorem Jh:kP X.K (fun xs H Q=>∃(p:Addr) (bs:List Bool),xs=[.ref p]/\SqL X.K H p (bs.map V.bl)/\Q (.bl (bs.any id)) H) PJ:=fun F H xs ps Qp Q s r h k=>by
 obtain⟨p,v,rfl,rfl,r,h⟩:=h.rd r
 obtain⟨a,vs,ps,rfl,hs,rs,h⟩:=h.rd s r
 obtain⟨bs,rfl,rfl,h'⟩:=h.rd rs
 exact⟨a,bs,rfl,hs,k (.bl _) _ F H h' (.refl s) rfl⟩
noncomputable def N7:vo:=fun ps Q=>One ps fun p=>match p with
 |.tup ps=>Q (.tup ps)
 |p=>OkL p fun ps=>Q (.tup ps)
theorem LI:kP X.K (fun xs H Q=>∃p ys,xs=[.ref p]/\((SqL X.K H p ys/\∀l,H l=none->Q (.ref l) (upd H l (.tup ys)))\/(SqT X.K H p ys/\Q (.ref p) H))) N7:=fun F H xs ps Qp Q s r h k=>by
 obtain⟨p,v,rfl,rfl,r,h⟩:=h.rd r
 by_cases hz:∃z,p=.tup z
 ·obtain⟨z,rfl⟩:=hz
  cases r with
  |frz r=>
   obtain⟨a,vs,rfl,e,rs⟩:=r
   exact⟨a,vs,rfl,.inr ⟨SqT.of (s _ _ e),k _ _ F H h (.refl s) ⟨a,vs,rfl,e,rs⟩⟩⟩
 ·have h':OkL p fun ps=>Qp (.tup ps):=by
   cases p<;>first|exact h|exact absurd ⟨_,rfl⟩ hz
  obtain⟨a,vs,ps,rfl,hs,rs,h⟩:=h'.rd s r
  exact⟨a,vs,rfl,.inl ⟨hs,fun l hl=>k _ _ _ _ h (.new s hl _) ⟨l,vs,rfl,af,rs.mono (bj (s.free hl) _)⟩⟩⟩
noncomputable def MQ:Im:=fun ps Q=>One ps fun p=>OkS p Q
theorem JC:zj X.K (fun xs H Q=>∃p ys,xs=[.ref p]/\(SqL X.K H p ys\/SqT X.K H p ys)/\∀l,H l=none->Q (.ref l) (upd H l (.lst ys))) MQ:=fun F H xs ps Qp Q s r h k=>by
 obtain⟨p,v,rfl,rfl,r,h⟩:=h.rd r
 obtain⟨a,vs,ps,rfl,hs,_,rs,h⟩:=h.rd s r
 exact⟨a,vs,rfl,hs,fun l hl=>k ps l vs F _ h (.newO s hl _) hl (s.free hl) af rs⟩
noncomputable def qJ (lo:Int)(n:Nat):List PV:=(List.range n).map fun i:Nat=>PV.int (lo+i)
theorem mN {K:PySem.W.Frag}{F:Hp}:∀(l:List Nat),Reps K F (l.map fun i:Nat=>PV.int (0+i)) (l.map fun i:Nat=>V.int (i:Int))
 |[]=>rfl
 |x::l=>⟨_,_,rfl,by show Rep K F (PV.int (0+(x:Int))) (V.int x);rw[Int.zero_add];rfl,mN l⟩
noncomputable def OZ:vo:=fun ps Q=>One ps fun p=>OkI p fun j=>-(2 ^ 62)≤j/\j<2 ^ 62/\Q (.rng 0 j)
theorem Lf:kP X.K HZ OZ:=fun F H xs ps Qp Q s r h k=>by
 obtain⟨p,v,rfl,rfl,r,h⟩:=h.rd r
 obtain⟨j,rfl,rfl,h1,h2,h⟩:=h.rd r
 exact⟨j,rfl,h1,h2,fun p hp=>k _ _ _ _ h (.new s hp _) ⟨p,rfl,af⟩⟩
noncomputable def R0:PV->(Int->Prop)->Prop
 |.rng lo j,Q=>lo=0/\Q j
 |_,_=>False
noncomputable def HQ:Im:=fun ps Q=>One ps fun p=>R0 p fun j=>0≤j/\j≤1000000/\Q (qJ 0 j.toNat)
theorem Hh:zj X.K (fun xs H Q=>∃p j,xs=[.ref p]/\H p=some (.rng 0 j)/\0≤j/\j≤1000000/\∀l,H l=none->Q (.ref l) (upd H l (.lst (p8 j.toNat)))) HQ:=fun F H xs ps Qp Q s r h k=>by
 obtain⟨p,v,rfl,rfl,r,h⟩:=h.rd r
 cases p<;>first|exact h.elim|skip
 obtain⟨rfl,h1,h2,h⟩:=h
 cases r with
 |frz r=>
  obtain⟨a,rfl,e⟩:=r
  exact⟨a,_,rfl,s _ _ e,h1,h2,fun l hl=>k _ l _ F _ h (.newO s hl _) hl (s.free hl) af (mN _)⟩
noncomputable def PL (n:String):PV->Option Bool
 |.non=>some false
 |.bl _=>some (n == "bool" || n == "int")
 |.int _=>some (n == "int")
 |.str _=>some (n == "str")
 |.tup _=>some (n == "tuple")
 |.lst _=>some (n == "list")
 |.dct _ _=>some (n == "dict")
 |_=>none
noncomputable def QQ:PV->(String->Prop)->Prop
 |.ty n,Q=>Q n
 |_,_=>False
noncomputable def Pc:vo:=fun ps Q=>Two ps fun p q=>QQ q fun n=>(n = "int"\/n = "bool"\/n = "str"\/n = "tuple"\/n = "list"\/n = "dict")/\OkO (PL n p) fun b=>Q (.bl b)
theorem Km:kP X.K (fun xs H Q=>∃x n t b,xs=[x,.ty n]/\TyOf X.K H x t/\PySem.W.kitOne X.K t (.type n)=some b/\Q (.bl b) H) Pc:=fun F H xs ps Qp Q s r h k=>by
 obtain⟨p,v,p2,v2,rfl,rfl,r1,r2,h⟩:=h.rd r
 clear r
 obtain⟨n,rfl,hn,h⟩:∃n,p2=.ty n/\(n = "int"\/n = "bool"\/n = "str"\/n = "tuple"\/n = "list"\/n = "dict")/\OkO (PL n p) fun b=>Qp (.bl b):=by
  cases p2 with
  |ty n=>exact⟨n,rfl,h⟩
  |_=>exact h.elim
 obtain⟨b,e,h⟩:=h.ex
 cases r2 with
 |frz r2=>
  cases (show v2=.ty n from r2)
  have fin:∀t,TyOf X.K H v t->PySem.W.kitOne X.K t (.type n)=some b->∃x n' t b,[v,V.ty n]=[x,.ty n']/\TyOf X.K H x t/\PySem.W.kitOne X.K t (.type n')=some b/\Q (.bl b) H:=fun t h1 h2=>⟨v,n,t,b,rfl,h1,h2,k _ _ F H h (.refl s) rfl⟩
  cases r1 with
  |frz r=>
   cases p with
   |non=>cases (show v=_ from r);refine fin _ .non ?_;rcases hn with rfl|rfl|rfl|rfl|rfl|rfl<;>exact e
   |bl x=>cases (show v=_ from r);refine fin _ (.bl x) ?_;rcases hn with rfl|rfl|rfl|rfl|rfl|rfl<;>exact e
   |int x=>cases (show v=_ from r);refine fin _ (.int x) ?_;rcases hn with rfl|rfl|rfl|rfl|rfl|rfl<;>exact e
   |str x=>cases (show v=_ from r);refine fin _ (.str x) ?_;rcases hn with rfl|rfl|rfl|rfl|rfl|rfl<;>exact e
   |tup x=>obtain⟨a,vs,rfl,e',_⟩:=r;refine fin _ (.tup (s _ _ e')) ?_;rcases hn with rfl|rfl|rfl|rfl|rfl|rfl<;>exact e
   |lst x=>obtain⟨a,vs,rfl,e',_⟩:=r;refine fin _ (.lst (s _ _ e')) ?_;rcases hn with rfl|rfl|rfl|rfl|rfl|rfl<;>exact e
   |dct x y=>obtain⟨a,vs,rfl,e',_⟩:=r;refine fin _ (.dK (s _ _ e')) ?_;rcases hn with rfl|rfl|rfl|rfl|rfl|rfl<;>exact e
   |_=>cases e
  |own h1 h2 h3=>refine fin _ (.lst h1) ?_;rcases hn with rfl|rfl|rfl|rfl|rfl|rfl<;>exact e
  |dic h1 h2 h3 h4=>refine fin _ (.dK h1) ?_;rcases hn with rfl|rfl|rfl|rfl|rfl|rfl<;>exact e
end
end Pu
end
section
namespace Pu
open PySem PySem.Spec L2
noncomputable abbrev t4:=PV->ak->(ak->Prop)->Prop
noncomputable abbrev tm:=List PV->ak->(ak->Prop)->Prop
inductive VUpd (K:PySem.W.Frag) (F:Hp):L2.St->ak->L2.St->ak->Prop where
 |refl {σ:L2.St} {ρ:ak}:VUpd K F σ ρ σ ρ
 |step {σ σ1:L2.St} {ρ ρ1:ak} {i:Nat} {p:PV} {v:V}:VUpd K F σ ρ σ1 ρ1->Rep K F p v->VUpd K F σ ρ (σ1.set i (some v)) (ρ1.set i (some (.val p)))
theorem VUpd.trans {K:PySem.W.Frag}{F:Hp}{σ σ1 σ2:L2.St}{ρ ρ1 ρ2:ak}(a:VUpd K F σ ρ σ1 ρ1)(b:VUpd K F σ1 ρ1 σ2 ρ2):VUpd K F σ ρ σ2 ρ2:=by
 induction b with
 |refl=>exact a
 |step _ r ih=>exact .step (ih a) r
theorem ER.set {K:PySem.W.Frag}{F H:Hp}{σ:L2.St}{ρ:ak}(h:ER K F H σ ρ){i:Nat}{v:V}{s:Sl}(r:SlR K F H (some v) (some s)):ER K F H (σ.set i (some v)) (ρ.set i (some s)):=by
 refine⟨h.fz,by rw[List.length_set,List.length_set];exact h.len,fun j s' e=>?_⟩
 by_cases hij:i=j
 ·subst hij
  have hi:i<ρ.length:=by
   have:=(List.getElem?_eq_some_iff.mp e).1
   rwa [List.length_set] at this
  rw[List.getElem?_set_self hi] at e
  rw[List.getElem?_set_self (by rw[h.len];exact hi)]
  cases e
  exact r
 ·rw[List.getElem?_set_ne hij] at e ⊢
  exact h.sl j s' e
theorem ER.upd {K:PySem.W.Frag}{F H:Hp}{σ σ':L2.St}{ρ ρ':ak}(h:ER K F H σ ρ)(u:VUpd K F σ ρ σ' ρ'):ER K F H σ' ρ':=by
 induction u with
 |refl=>exact h
 |step _ r ih=>exact (ih h).set r
noncomputable def gQ (K:PySem.W.Frag)(g0:TG)(g:t4):Prop:=∀F H σ ρ p v (Qp:ak->Prop) (Q:L2.St->Hp->Prop),Same F H->Rep K F p v->g p ρ Qp->(∀σ' ρ',Qp ρ'->VUpd K F σ ρ σ' ρ'->Q σ' H)->g0 v σ H Q
noncomputable def ke (K:PySem.W.Frag)(g0:ve)(g:tm):Prop:=∀F H σ ρ ps vs (Qp:ak->Prop) (Q:L2.St->Hp->Prop),Same F H->Reps K F ps vs->g ps ρ Qp->(∀σ' ρ',Qp ρ'->VUpd K F σ ρ σ' ρ'->Q σ' H)->g0 vs σ H Q
noncomputable def MJ (i:Nat):t4:=fun p ρ Q=>Q (ρ.set i (some (.val p)))
noncomputable def Q3:tm:=fun ps ρ Q=>match ps with
 |[]=>Q ρ
 |_=>False
noncomputable def Ni (g:t4)(gs:tm):tm:=fun ps ρ Q=>match ps with
 |p::ps=>g p ρ fun ρ'=>gs ps ρ' Q
 |[]=>False
noncomputable def Qt (n:Nat)(gs:tm):t4:=fun p ρ Q=>OkT p fun ps=>ps.length=n/\gs ps ρ Q
theorem G1 {K:PySem.W.Frag}{i:Nat}:gQ K (aO i) (MJ i):=fun F H σ ρ p v Qp Q s r h k=>k _ _ h (.step .refl r)
theorem Jl {K:PySem.W.Frag}:ke K fD Q3:=fun F H σ ρ ps vs Qp Q s r h k=>by
 cases ps with
 |nil=>exact⟨r,k _ _ h .refl⟩
 |cons p ps=>exact h.elim
theorem Fj {K:PySem.W.Frag}{g0:TG}{g:t4}{gs0:ve}{gs:tm}(h1:gQ K g0 g)(h2:ke K gs0 gs):ke K (bX g0 gs0) (Ni g gs):=fun F H σ ρ ps vs Qp Q s r h k=>by
 cases ps with
 |nil=>exact h.elim
 |cons p ps=>
  obtain⟨v,t,rfl,r1,r2⟩:=r
  exact⟨v,t,rfl,h1 F H σ ρ p v _ _ s r1 h fun σ' ρ' q u=>h2 F H σ' ρ' ps t Qp Q s r2 q fun σ2 ρ2 q2 u2=>k σ2 ρ2 q2 (u.trans u2)⟩
theorem J9 {K:PySem.W.Frag}{n:Nat}{gs0:ve}{gs:tm}(h:ke K gs0 gs):gQ K (eL K n gs0) (Qt n gs):=fun F H σ ρ p v Qp Q s r hq k=>by
 obtain⟨a,vs,ps,rfl,rfl,e,rs,hn,hq⟩:=OkT.rd (H:=H) hq (.frz r)
 exact⟨a,vs,rfl,SqT.of (s _ _ e),by rw[rs.length];exact hn,h F H σ ρ ps vs Qp Q s rs hq k⟩
noncomputable abbrev oS:=ak->(List PV->Prop)->Prop
noncomputable def Ha (K:PySem.W.Frag)(F:Hp)(J:It)(its:List PV):Prop:=∀F1 H1 (i:Nat),Same F F1->Same F1 H1 →
 (∀p,its[i]?=some p->J.go i H1/\∀x H2,J.yld i H1 x H2->∃F2,Grow F1 H1 F2 H2/\Rep K F2 p x)/\(its.length≤i->J.stop i H1)
noncomputable def lI (K:PySem.W.Frag)(ti:oS):TI:=fun σ H R=>∃F ρ,∃Qp:List PV->Prop,ER K F H σ ρ/\ti ρ Qp/\∀its J F' H',Qp its->Grow F H F' H'->Ha K F' J its->R J H'
theorem lI.elim {K:PySem.W.Frag}{ti:oS}{σ:St}{H:Hp}{R}{C:Prop}(h:lI K ti σ H R)(k:∀F ρ (Qp:List PV->Prop),ER K F H σ ρ->ti ρ Qp->(∀its J F' H',Qp its->Grow F H F' H'->Ha K F' J its->R J H')->C):C:=by obtain⟨F,ρ,Qp,a,b,c⟩:=h;exact k F ρ Qp a b c
noncomputable def zB (X:Cx)(tg iter:Expr)(ti:oS):Prop:=PI X tg iter (lI X.K ti)
section
variable {X:Cx}{a b c e l tg iter elt:Expr}{pos:Pos}{ta tb te tl:eJ}{t:jn}
noncomputable def OW (tl:eJ):oS:=fun ρ Q=>tl ρ fun p=>OkL p Q
noncomputable def Qn (p:PV)(Q:List PV->Prop):Prop:=match p with
 |.tup ps=>Q ps
 |.ktu ps=>Q ps
 |_=>False
noncomputable def Rz (tl:eJ):oS:=fun ρ Q=>tl ρ fun p=>Qn p Q
theorem DU (hl:fN X l tl):zB X tg l (OW tl):=PI.weak (yd hl) fun σ H R hh_=>hh_.elim fun F ρ Qp er q k=>⟨F,ρ,_,er,q,fun p v F1 H1 h1 g1 r1=>by
 obtain⟨a,vs,ps,rfl,hs,rs,h⟩:∃a vs ps,v=.ref a/\SqL X.K F1 a vs/\Reps X.K F1 ps vs/\Qp ps:=by
  cases p with
  |lst ps=>obtain⟨a,vs,rfl,e,rs⟩:=r1;exact⟨a,vs,ps,rfl,SqL.of e,rs,h1⟩
  |src ps=>obtain⟨a,vs,rfl,e,rs⟩:=r1;exact⟨a,vs,ps,rfl,e,rs,h1⟩
  |_=>exact h1.elim
 refine⟨a,rfl,⟨vs,g1.fh.seq hs⟩,k ps _ F1 H1 h g1 fun F2 H2 i s1 s2=>?_⟩
 have h2:=(s1.trans s2).seq hs
 refine⟨fun p e=>?_,fun hl=>⟨vs,h2,by rw[rs.length];exact hl⟩⟩
 obtain⟨v,ev,rv⟩:=rs.get e
 refine⟨⟨vs,v,h2,ev⟩,fun x H3 ⟨e2,y⟩=>?_⟩
 subst e2
 have:=y vs h2
 rw[ev] at this
 cases this
 exact⟨F2,.refl s2,rv.mono s1⟩⟩
theorem GG (hl:fN X l tl):zB X tg l (Rz tl):=PI.weak (Ji hl) fun σ H R hh_=>hh_.elim fun F ρ Qp er q k=>⟨F,ρ,_,er,q,fun p v F1 H1 h1 g1 r1=>by
 obtain⟨a,vs,ps,rfl,hs,rs,h⟩:∃a vs ps,v=.ref a/\SqT X.K F1 a vs/\Reps X.K F1 ps vs/\Qp ps:=by
  cases p with
  |tup ps=>obtain⟨a,vs,rfl,e,rs⟩:=r1;exact⟨a,vs,ps,rfl,SqT.of e,rs,h1⟩
  |ktu ps=>obtain⟨a,vs,rfl,e,rs⟩:=r1;exact⟨a,vs,ps,rfl,e,rs,h1⟩
  |_=>exact h1.elim
 refine⟨a,rfl,⟨vs,zM g1.fh hs⟩,k ps _ F1 H1 h g1 fun F2 H2 i s1 s2=>?_⟩
 have h2:=zM (s1.trans s2) hs
 refine⟨fun p e=>?_,fun hl=>⟨vs,h2,by rw[rs.length];exact hl⟩⟩
 obtain⟨v,ev,rv⟩:=rs.get e
 refine⟨⟨vs,v,h2,ev⟩,fun x H3 ⟨e2,y⟩=>?_⟩
 subst e2
 have:=y vs h2
 rw[ev] at this
 cases this
 exact⟨F2,.refl s2,rv.mono s1⟩⟩
theorem uX {K:PySem.W.Frag}{F:Hp}{lo:Int}{n:Nat}:Ha K F (OT lo n) (qJ lo n):=fun F1 H1 i s1 s2=>by
 refine⟨fun p e=>?_,fun hl=>by show n≤i;simpa [qJ] using hl⟩
 unfold qJ at e
 rw[List.getElem?_map] at e
 obtain⟨k,ek,rfl⟩:=Option.map_eq_some_iff.mp e
 obtain⟨hk,rfl⟩:=List.getElem?_eq_some_iff.mp ek
 refine⟨by show i<n;simpa using hk,fun x H2 ⟨e2,y⟩=>?_⟩
 subst e2 y
 exact⟨F1,.refl s2,by rw[List.getElem_range];rfl⟩
noncomputable def Ph (t:jn):oS:=fun ρ Q=>t ρ fun ps=>One ps fun p=>OkI p fun j=>-(2 ^ 62)≤j/\j<2 ^ 62/\Q (qJ 0 j.toNat)
noncomputable def OC (t:jn):oS:=fun ρ Q=>t ρ fun ps=>Two ps fun p q=>OkI p fun i=>OkI q fun j=>(-(2 ^ 62)≤i/\i<2 ^ 62/\-(2 ^ 62)≤j/\j<2 ^ 62)/\Q (qJ i (j - i).toNat)
theorem AO (h:PI X tg iter (ca (lAT X.K t))):zB X tg iter (Ph t):=PI.weak h fun σ H R hh_=>hh_.elim fun F ρ Qp er q k=>⟨F,ρ,_,er,q,fun ps vs F1 H1 h1 g1 r1=>by
 obtain⟨p,v,rfl,rfl,r,h⟩:=h1.rd r1
 obtain⟨j,rfl,rfl,h1,h2,h⟩:=h.rd r
 exact⟨j,rfl,h1,h2,k _ _ F1 H1 h g1 uX⟩⟩
theorem B3 (h:PI X tg iter (cg (lAT X.K t))):zB X tg iter (OC t):=PI.weak h fun σ H R hh_=>hh_.elim fun F ρ Qp er q k=>⟨F,ρ,_,er,q,fun ps vs F1 H1 h1 g1 r1=>by
 obtain⟨p,v,p2,v2,rfl,rfl,r,r2,h⟩:=h1.rd r1
 obtain⟨i,rfl,rfl,h⟩:=h.rd r
 obtain⟨j,rfl,rfl,h1,h⟩:=h.rd r2
 exact⟨i,j,rfl,h1,k _ _ F1 H1 h g1 uX⟩⟩
noncomputable def jH (fm:List (Option Nat))(ρ:ak):ak:=fm.map fun o=>o.bind fun j=>(ρ[j]?).join
theorem ER.sub {K:PySem.W.Frag}{F H:Hp}{σ:L2.St}{ρ:ak}(h:ER K F H σ ρ)(fm:List (Option Nat)):ER K F H (cc fm σ) (jH fm ρ):=by
 refine⟨h.fz,by unfold cc jH;rw[List.length_map,List.length_map],fun i s e=>?_⟩
 unfold jH at e
 rw[List.getElem?_map] at e
 obtain⟨o,eo,e⟩:=Option.map_eq_some_iff.mp e
 cases o with
 |none=>cases e
 |some j=>
  have e':(ρ[j]?).join=some s:=e
  have e2:ρ[j]?=some (some s):=by
   cases q:ρ[j]? with
   |none=>rw[q] at e';cases e'
   |some z=>rw[q] at e';rw[show z=some s from e']
  have:=h.sl j s e2
  unfold cc
  rw[List.getElem?_map,eo]
  exact this
noncomputable def Mq (g:t4)(tc:lc)(te:eJ)(ρ:ak):List PV->List PV->(List PV->Prop)->Prop
 |[],acc,Q=>Q acc
 |v::vs,acc,Q=>g v ρ fun ρ2=>tc ρ2 fun b=>if b=true then te ρ2 fun y=>Mq g tc te ρ vs (acc++[y]) Q else Mq g tc te ρ vs acc Q
noncomputable def qQ (fm:List (Option Nat))(ti:oS)(g:t4)(tc:lc)(te:eJ):tK:=fun ρ Q=>ti ρ fun its=>its.length<1000/\Mq g tc te (jH fm ρ) its [] Q
noncomputable def N9:lc:=fun _ Q=>Q true
theorem En {K:PySem.W.Frag}:∀σ H Q,lB K N9 σ H Q->fO σ H Q:=fun σ H Q hh_=>hh_.elim fun F ρ Qp er q k=>k _ F H q (.refl er.fz)
theorem PIf.weak {X:Cx}{ifs:List Expr}{t t':TT}(h:PIf X ifs t)(w:∀σ H Q,t' σ H Q->t σ H Q):PIf X ifs t':=fun pins s σ H Q I q=>h pins s σ H Q I (w σ H Q q)
noncomputable def Jm (X:Cx)(ifs:List Expr)(tc:lc):Prop:=PIf X ifs (lB X.K tc)
theorem Bn:Jm X [] N9:=PIf.weak EG En
theorem DQ {tc:lc}(h:PuB X c tc):Jm X [c] tc:=GN h
theorem mx {K:PySem.W.Frag}{fm:List (Option Nat)}{ti:oS}{g0:TG}{g:t4}{tc:lc}(hg:gQ K g0 g):∀σ H Q,lN K (qQ fm ti g tc te) σ H Q->i5 fm (lI K ti) g0 (lB K tc) (lE K te) σ H Q:=fun σ H Q hh_=>hh_.elim fun F ρ Qp er q k=>
 ⟨F,ρ,_,er,q,fun its J F1 H1 ⟨hlen,h1⟩ g1 it=>by
  refine⟨fun i ys H'=>∃F' acc,Grow F1 H1 F' H'/\Reps K F' acc ys/\i≤its.length/\acc.length≤i/\Mq g tc te (jH fm ρ) (its.drop i) acc Qp,its.length,⟨F1,[],.refl g1.fh,rfl,Nat.zero_le _,Nat.le_refl _,h1⟩,?_,?_⟩
  ·rintro i ys H' ⟨F',acc,g2,rs,hi,ha,_⟩
   refine⟨hi,qK ?_⟩
   rw[rs.length];omega
  ·rintro i ys H' ⟨F',acc,g2,rs,hi,ha,h2⟩
   obtain⟨it1,it2⟩:=it F' H' i g2.ff g2.fh
   by_cases hl:i<its.length
   ·obtain⟨go,yl⟩:=it1 _ (List.getElem?_eq_getElem hl)
    refine .inr ⟨go,fun x H2 hy=>?_⟩
    obtain⟨F2,g3,rx⟩:=yl x H2 hy
    rw[List.drop_eq_getElem_cons hl] at h2
    have er2:ER K F2 H2 (cc fm σ) (jH fm ρ):=(er.grow ((g1.trans g2).trans g3)).sub fm
    refine hg F2 H2 (cc fm σ) (jH fm ρ) _ x _ _ g3.fh rx h2 fun σ2 ρ2 h3 u=>?_
    refine⟨F2,ρ2,_,er2.upd u,h3,fun b F3 H3 h4 g4=>?_⟩
    cases b with
    |true=>
     rw[if_pos rfl] at h4 ⊢
     refine⟨F3,ρ2,_,(er2.upd u).grow g4,h4,fun y v F4 H4 h5 g5 ry=>?_⟩
     have gg:=((g2.trans g3).trans g4).trans g5
     exact⟨F4,acc++[y],gg,(rs.mono ((g3.ff.trans g4.ff).trans g5.ff)).app (.one ry),hl,by rw[List.length_append];simp;omega,h5⟩
    |false=>
     rw[if_neg Bool.false_ne_true] at h4 ⊢
     exact⟨F3,acc,(g2.trans g3).trans g4,rs.mono (g3.ff.trans g4.ff),hl,by omega,h4⟩
   ·have e:its.drop i=[]:=List.drop_eq_nil_of_le (by omega)
    rw[e] at h2
    exact .inl ⟨it2 (by omega),fun l hl=>k acc l ys F' _ h2 ((g1.trans g2).trans (.newO g2.fh hl _)) ((g1.trans g2).hh.free hl) (g2.fh.free hl) af rs⟩⟩
theorem Gp {K:PySem.W.Frag}{fm:List (Option Nat)}{ti:oS}{g0:TG}{g:t4}{tc:lc}(hg:gQ X.K g0 g)(h:PE X e (i5 fm (lI X.K ti) g0 (lB X.K tc) (lE X.K te))):xg X e (qQ fm ti g tc te):=PE.weak h (mx hg)
end
end Pu
end
section
namespace Pu
open PySem PySem.Spec L2
noncomputable def vc:Sl->Bool
 |.val _=>false
 |_=>true
noncomputable def jL (σ:L2.St)(ρ:ak)(i:Nat)(a:Addr):Prop:=(∃s,ρ[i]?=some (some s)/\vc s=true)/\σ[i]?=some (some (.ref a))
structure BR (K:PySem.W.Frag)(F0 H0 F H:Hp)(σ:L2.St)(ρ:ak):Prop where
 er:ER K F H σ ρ
 gr:Grow F0 H0 F H
 ow:∀i a,jL σ ρ i a->H0 a=none
 dj:∀i j a,jL σ ρ i a->jL σ ρ j a->i=j
section
variable {K:PySem.W.Frag}{F0 H0 F H F' H':Hp}{σ σ':L2.St}{ρ ρ':ak}
theorem BR.grow (h:BR K F0 H0 F H σ ρ)(g:Grow F H F' H'):BR K F0 H0 F' H' σ ρ:=⟨h.er.grow g,h.gr.trans g,h.ow,h.dj⟩
theorem dw {i j:Nat}{v:V}{s:Sl}{a:Addr}(h:jL (σ.set i (some v)) (ρ.set i (some s)) j a):(i=j/\vc s=true/\v=.ref a)\/(i≠j/\jL σ ρ j a):=by
 obtain⟨⟨s',e,hs⟩,e2⟩:=h
 by_cases hij:i=j
 ·subst hij
  have hi:i<ρ.length:=by
   have:=(List.getElem?_eq_some_iff.mp e).1
   rwa [List.length_set] at this
  have hi2:i<σ.length:=by
   have:=(List.getElem?_eq_some_iff.mp e2).1
   rwa [List.length_set] at this
  rw[List.getElem?_set_self hi] at e
  rw[List.getElem?_set_self hi2] at e2
  cases e
  cases e2
  exact .inl ⟨rfl,hs,rfl⟩
 ·rw[List.getElem?_set_ne hij] at e e2
  exact .inr ⟨hij,⟨s',e,hs⟩,e2⟩
theorem BR.setV (h:BR K F0 H0 F H σ ρ){i:Nat}{p:PV}{v:V}(r:Rep K F p v):BR K F0 H0 F H (σ.set i (some v)) (ρ.set i (some (.val p))):=by
 refine⟨h.er.set r,h.gr,fun j a o=>?_,fun j k a o o'=>?_⟩
 ·rcases dw o with ⟨_,z,_⟩|⟨_,o⟩
  ·exact absurd z Bool.false_ne_true
  ·exact h.ow j a o
 ·rcases dw o with ⟨_,z,_⟩|⟨_,o⟩
  ·exact absurd z Bool.false_ne_true
  ·rcases dw o' with ⟨_,z,_⟩|⟨_,o'⟩
   ·exact absurd z Bool.false_ne_true
   ·exact h.dj j k a o o'
theorem BR.upd (h:BR K F0 H0 F H σ ρ)(u:VUpd K F σ ρ σ' ρ'):BR K F0 H0 F H σ' ρ':=by
 induction u with
 |refl=>exact h
 |step _ r ih=>exact (ih h).setV r
theorem ER.live (h:ER K F H σ ρ){i:Nat}{a:Addr}(o:jL σ ρ i a):F a=none/\∃u,H a=some u:=by
 obtain⟨⟨s,e,hs⟩,e2⟩:=o
 have:=h.sl i s e
 rw[e2] at this
 cases s with
 |val p=>exact absurd hs Bool.false_ne_true
 |own ps=>obtain⟨a',vs,e',h1,h2,_⟩:=this;cases e';exact⟨h2,_,h1⟩
 |dic ks ps=>obtain⟨a',vs,e',h1,h2,_⟩:=this;cases e';exact⟨h2,_,h1⟩
theorem BR.setN (h:BR K F0 H0 F H σ ρ)(g:Grow F H F' H'){i:Nat}{a:Addr}{vs:List V}{ps:List PV}(h0:H a=none)(hF:F' a=none)(hH:H' a=some (.lst vs))(r:Reps K F' ps vs) :
  BR K F0 H0 F' H' (σ.set i (some (.ref a))) (ρ.set i (some (.own ps))):=by
 have h':=h.grow g
 refine⟨h'.er.set ⟨a,vs,rfl,hH,hF,r⟩,h'.gr,fun j b o=>?_,fun j k b o o'=>?_⟩
 ·rcases dw o with ⟨_,_,z⟩|⟨_,o⟩
  ·cases z;exact h.gr.hh.free h0
  ·exact h.ow j b o
 ·have ne:∀{m:Nat},jL σ ρ m b->b≠a:=fun {m} o e=>by
   obtain⟨_,u,hu⟩:=h.er.live o
   subst e
   rw[h0] at hu;cases hu
  rcases dw o with ⟨e1,_,z⟩|⟨_,o⟩
  ·rcases dw o' with ⟨e2,_,_⟩|⟨_,o'⟩
   ·exact e1.symm.trans e2
   ·cases z;exact absurd rfl (ne o')
  ·rcases dw o' with ⟨e2,_,z⟩|⟨_,o'⟩
   ·cases z;exact absurd rfl (ne o)
   ·exact h.dj j k b o o'
theorem sj {i:Nat}{v:V}(e:σ[i]?=some (some v)):σ.set i (some v)=σ:=by
 apply List.ext_getElem?
 intro j
 by_cases hij:i=j
 ·subst hij
  rw[List.getElem?_set_self (List.getElem?_eq_some_iff.mp e).1,e]
 ·rw[List.getElem?_set_ne hij]
theorem BR.mut (h:BR K F0 H0 F H σ ρ){i:Nat}{a:Addr}{u:HO}{s:Sl}(o:jL σ ρ i a)(hs:vc s=true)(r:SlR K F (L2.upd H a u) (some (.ref a)) (some s)):BR K F0 H0 F (L2.upd H a u) σ (ρ.set i (some s)):=by
 obtain⟨hF,u0,hu⟩:=h.er.live o
 have h0:H0 a=none:=h.ow i a o
 have e2:=o.2
 refine⟨⟨fun b w e=>?_,by rw[List.length_set];exact h.er.len,fun j s' e=>?_⟩,⟨fun b w e=>?_,h.gr.ff,fun b w e=>?_,h.gr.nw⟩,fun j b o'=>?_,fun j k b o' o''=>?_⟩
 ·have:b≠a:=fun z=>by subst z;rw[hF] at e;cases e
  rw[au this];exact h.er.fz b w e
 ·by_cases hij:i=j
  ·subst hij
   have hi:i<ρ.length:=by
    have:=(List.getElem?_eq_some_iff.mp e).1
    rwa [List.length_set] at this
   rw[List.getElem?_set_self hi] at e
   cases e
   rw[e2]
   exact r
  ·rw[List.getElem?_set_ne hij] at e
   have old:=h.er.sl j s' e
   obtain⟨v,ev,_⟩:=h.er.rd e
   rw[ev] at old ⊢
   have ne:∀b,vc s'=true->v=.ref b->b≠a:=fun b hb hv z=>by
    subst hv z
    exact hij (h.dj i j b o ⟨⟨s',e,hb⟩,ev⟩)
   cases s' with
   |val p=>exact old
   |own ps=>obtain⟨b,vs,e',h1,h2,h3⟩:=old;cases e';exact⟨b,vs,rfl,by rw[au (ne b rfl rfl)];exact h1,h2,h3⟩
   |dic ks ps=>obtain⟨b,vs,e',h1,h2,h3,h4⟩:=old;cases e';exact⟨b,vs,rfl,by rw[au (ne b rfl rfl)];exact h1,h2,h3,h4⟩
 ·have:b≠a:=fun z=>by subst z;rw[h0] at e;cases e
  rw[au this];exact h.gr.hh b w e
 ·have:b≠a:=fun z=>by subst z;rw[hF] at e;cases e
  rw[au this];exact h.gr.fh b w e
 ·rw[←sj e2] at o'
  rcases dw o' with ⟨_,_,z⟩|⟨_,o'⟩
  ·cases z;exact h0
  ·exact h.ow j b o'
 ·rw[←sj e2] at o' o''
  rcases dw o' with ⟨e1,_,z⟩|⟨_,o'⟩
  ·rcases dw o'' with ⟨e3,_,_⟩|⟨n,o''⟩
   ·exact e1.symm.trans e3
   ·cases z;exact absurd (h.dj i k a o o'') n
  ·rcases dw o'' with ⟨e3,_,z⟩|⟨_,o''⟩
   ·cases z;rw[←e3];exact h.dj j i a o' o
   ·exact h.dj j k b o' o''
theorem BR.fz (h:BR K F0 H0 F H σ ρ){i:Nat}{ps:List PV}(e:ρ[i]?=some (some (.own ps))):∃F',BR K F0 H0 F' H σ (ρ.set i (some (.val (.lst ps)))):=by
 obtain⟨v,ev,_⟩:=h.er.rd e
 have sl:=h.er.sl i _ e
 rw[ev] at sl
 obtain⟨a,vs,e',h1,h2,h3⟩:=sl
 cases e'
 have o:jL σ ρ i a:=⟨⟨_,e,rfl⟩,ev⟩
 have h0:=h.ow i a o
 have gr:=h.gr.freeze h0 h2 h1
 have mono:Same F (L2.upd F a (.lst vs)):=bj h2 _
 refine⟨L2.upd F a (.lst vs),⟨gr.fh,by rw[List.length_set];exact h.er.len,fun j s' e'=>?_⟩,gr,fun j b o'=>?_,fun j k b o' o''=>?_⟩
 ·by_cases hij:i=j
  ·subst hij
   have hi:i<ρ.length:=(List.getElem?_eq_some_iff.mp e).1
   rw[List.getElem?_set_self hi] at e'
   cases e'
   rw[ev]
   exact⟨a,vs,rfl,af,h3.mono mono⟩
  ·rw[List.getElem?_set_ne hij] at e'
   have old:=h.er.sl j s' e'
   obtain⟨v,ev',_⟩:=h.er.rd e'
   rw[ev'] at old ⊢
   have ne:∀b,vc s'=true->v=.ref b->b≠a:=fun b hb hv z=>by
    subst hv z
    exact hij (h.dj i j b o ⟨⟨s',e',hb⟩,ev'⟩)
   cases s' with
   |val p=>exact Rep.mono mono old
   |own qs=>obtain⟨b,us,e',k1,k2,k3⟩:=old;cases e';exact⟨b,us,rfl,k1,by rw[au (ne b rfl rfl)];exact k2,k3.mono mono⟩
   |dic ks qs=>obtain⟨b,us,e',k1,k2,k3,k4⟩:=old;cases e';exact⟨b,us,rfl,k1,by rw[au (ne b rfl rfl)];exact k2,k3,k4.mono mono⟩
 ·rw[←sj ev] at o'
  rcases dw o' with ⟨_,z,_⟩|⟨_,o'⟩
  ·exact absurd z Bool.false_ne_true
  ·exact h.ow j b o'
 ·rw[←sj ev] at o' o''
  rcases dw o' with ⟨_,z,_⟩|⟨_,o'⟩
  ·exact absurd z Bool.false_ne_true
  ·rcases dw o'' with ⟨_,z,_⟩|⟨_,o''⟩
   ·exact absurd z Bool.false_ne_true
   ·exact h.dj j k b o' o''
end
noncomputable def Et (F H0:Hp):Hp:=fun b=>match F b with
 |some o=>some o
 |none=>H0 b
section
variable {K:PySem.W.Frag}{F0 H0 F H F' H':Hp}{σ σ':L2.St}{ρ ρ':ak}
theorem pe {b:Addr}(h:Et F H0 b=none):F b=none/\H0 b=none:=by
 unfold Et at h
 split at h
 ·cases h
 ·exact⟨by assumption,h⟩
theorem Kn {b:Addr}(hF:F b=none)(h0:H0 b=none):Et F H0 b=none:=by unfold Et;rw[hF];exact h0
theorem BR.base (h:BR K F0 H0 F H σ ρ):BR K F (Et F H0) F H σ ρ:=by
 refine⟨h.er,⟨fun b o e=>?_,Same.refl _,h.er.fz,fun b o e=>.inl e⟩,fun i a o=>Kn (h.er.live o).1 (h.ow i a o),h.dj⟩
 unfold Et at e
 split at e
 ·next q=>cases e;exact h.er.fz b _ q
 ·exact h.gr.hh b o e
theorem Grow.unbase (g:Grow F0 H0 F H)(g':Grow F (Et F H0) F' H'):Grow F0 H0 F' H':=by
 refine⟨fun b o e=>?_,g.ff.trans g'.ff,g'.fh,fun b o e=>?_⟩
 ·refine g'.hh b o ?_
  unfold Et
  split
  ·next u q=>rw[←g.fh b u q];exact g.hh b o e
  ·exact e
 ·rcases g'.nw b o e with z|z|z
  ·exact g.nw b o z
  ·exact .inr (.inl (pe z).2)
  ·exact .inr (.inr z)
theorem BR.unbase (h:BR K F (Et F H0) F' H' σ' ρ')(g:Grow F0 H0 F H):BR K F0 H0 F' H' σ' ρ':=⟨h.er,g.unbase h.gr,fun i a o=>(pe (h.ow i a o)).2,h.dj⟩
end
structure PEnds where
 nx:ak->Prop
 rt:PV->Prop
 rn:List PV->Prop
 bk:ak->Prop:=fun _=>False
 ct:ak->Prop:=fun _=>False
noncomputable abbrev i4:=PEnds->ak->Prop
structure Fit (K:PySem.W.Frag)(F0 H0:Hp)(Dp:PEnds)(D:Ends):Prop where
 nx:∀F H σ ρ,Dp.nx ρ->BR K F0 H0 F H σ ρ->D.nx σ H
 bk:∀F H σ ρ,Dp.bk ρ->BR K F0 H0 F H σ ρ->D.bk σ H
 ct:∀F H σ ρ,Dp.ct ρ->BR K F0 H0 F H σ ρ->D.ct σ H
 rt:∀p v F H,Dp.rt p->Grow F0 H0 F H->Rep K F p v->D.rt v H
 rn:∀ps a vs F H,Dp.rn ps->Grow F0 H0 F H->H0 a=none->F a=none->H a=some (.lst vs)->Reps K F ps vs->D.rt (.ref a) H
noncomputable def lS (K:PySem.W.Frag)(ts:i4):TS:=fun D σ H=>∃F0 H0 F ρ Dp,BR K F0 H0 F H σ ρ/\ts Dp ρ/\Fit K F0 H0 Dp D
theorem lS.elim {K:PySem.W.Frag}{ts:i4}{D:Ends}{σ:St}{H:Hp}{C:Prop}(h:lS K ts D σ H)(k:∀F0 H0 F ρ Dp,BR K F0 H0 F H σ ρ->ts Dp ρ->Fit K F0 H0 Dp D->C):C:=by obtain⟨F0,H0,F,ρ,Dp,a,b,c⟩:=h;exact k F0 H0 F ρ Dp a b c
noncomputable def kx (X:Cx)(st:Stmt)(ts:i4):Prop:=PS X st (lS X.K ts)
noncomputable def pj (X:Cx)(st:List Stmt)(ts:i4):Prop:=PSs X st (lS X.K ts)
noncomputable def Ct:i4:=fun D ρ=>D.nx ρ
noncomputable def OS (t u:i4):i4:=fun D ρ=>t { D with nx:=u D } ρ
noncomputable def Jz:i4:=fun D ρ=>D.bk ρ
noncomputable def N6:i4:=fun D ρ=>D.ct ρ
noncomputable def KB:i4:=fun _ _=>False
noncomputable def M7 (te:eJ):i4:=fun D ρ=>te ρ fun _=>D.nx ρ
noncomputable def Rc (te:eJ):i4:=fun D ρ=>te ρ D.rt
noncomputable def MN (tn:tK):i4:=fun D ρ=>tn ρ D.rn
noncomputable def go (ρ:ak)(i:Nat)(Q:List PV->Prop):Prop:=match ρ[i]? with
 |some (some (.own ps))=>Q ps
 |_=>False
theorem go.ex {ρ:ak}{i:Nat}{Q:List PV->Prop}(h:go ρ i Q):∃ps,ρ[i]?=some (some (.own ps))/\Q ps:=by
 unfold go at h
 split at h
 ·exact⟨_,by assumption,h⟩
 ·exact h.elim
noncomputable def Ix (i:Nat):i4:=fun D ρ=>go ρ i D.rn
noncomputable def Su (c:lc)(t u:i4):i4:=fun D ρ=>c ρ fun b=>if b=true then t D ρ else u D ρ
noncomputable def OM (i:Nat)(te:eJ):i4:=fun D ρ=>te ρ fun p=>D.nx (ρ.set i (some (.val p)))
noncomputable def HY (i:Nat)(tn:tK):i4:=fun D ρ=>tn ρ fun ps=>D.nx (ρ.set i (some (.own ps)))
noncomputable def QZ (te:eJ)(g:t4):i4:=fun D ρ=>te ρ fun p=>g p ρ D.nx
noncomputable def frz (i:Nat)(ρ:ak):ak:=match ρ[i]? with
 |some (some (.own ps))=>ρ.set i (some (.val (.lst ps)))
 |_=>ρ
noncomputable def yk (i:Nat)(t:i4):i4:=fun D ρ=>t D (frz i ρ)
section
variable {X:Cx}{st:Stmt}{cC:List Stmt}{t u:i4}{te:eJ}{tn:tK}{e:Expr}{pos:Pos}{i:Nat}
theorem Bl:pj X [] Ct:=PSs.weak Hk fun D σ H hh_=>hh_.elim fun F0 H0 F ρ Dp br h ft=>ft.nx F H σ ρ h br
theorem zP (h1:kx X st t)(h2:pj X cC u):pj X (st::cC) (OS t u):=PSs.weak (aA h1 h2) fun D σ H hh_=>hh_.elim fun F0 H0 F ρ Dp br h ft=>
 ⟨F0,H0,F,ρ,_,br,h,⟨fun F' H' σ' ρ' h' br'=>⟨F0,H0,F',ρ',Dp,br',h',ft⟩,ft.bk,ft.ct,ft.rt,ft.rn⟩⟩
theorem C1 (h1:kx X st t):pj X [st] t:=eG h1
theorem Bx:kx X (.Pass pos) Ct:=PS.weak GS fun D σ H hh_=>hh_.elim fun F0 H0 F ρ Dp br h ft=>ft.nx F H σ ρ h br
theorem AB:kx X (.Break pos) Jz:=PS.weak DR fun D σ H hh_=>hh_.elim fun F0 H0 F ρ Dp br h ft=>ft.bk F H σ ρ h br
theorem A4:kx X (.Continue pos) N6:=PS.weak uF fun D σ H hh_=>hh_.elim fun F0 H0 F ρ Dp br h ft=>ft.ct F H σ ρ h br
theorem rO:kx X st KB:=PS.weak D9 fun D σ H hh_=>hh_.elim fun F0 H0 F ρ Dp br h ft=>h
theorem FW {x j pos pos'}:kx X (.Expr (.Constant (.str x) j pos) pos') Ct:=PS.weak Lz fun D σ H hh_=>hh_.elim fun F0 H0 F ρ Dp br h ft=>ft.nx F H σ ρ h br
theorem BO (h:PS X st (bA (lE X.K te))):kx X st (M7 te):=PS.weak h fun D σ H hh_=>hh_.elim fun F0 H0 F ρ Dp br h ft=>⟨F,ρ,_,br.er,h,fun p v F1 H1 h1 g1 r1=>ft.nx F1 H1 σ ρ h1 (br.grow g1)⟩
theorem xL (he:fN X e te):kx X (.Return (some e) pos) (Rc te):=PS.weak (iI he) fun D σ H hh_=>hh_.elim fun F0 H0 F ρ Dp br h ft=>⟨F,ρ,_,br.er,h,fun p v F1 H1 h1 g1 r1=>ft.rt p v F1 H1 h1 (br.gr.trans g1) r1⟩
theorem Bw (he:xg X e tn):kx X (.Return (some e) pos) (MN tn):=PS.weak (iI he) fun D σ H hh_=>hh_.elim fun F0 H0 F ρ Dp br h ft=>⟨F,ρ,_,br.er,h,fun ps a vs F1 H1 h1 g1 h0 hF hH r1=>ft.rn ps a vs F1 H1 h1 (br.gr.trans g1) (br.gr.hh.free h0) hF hH r1⟩
theorem C0 (he:PE X e (cR i)):kx X (.Return (some e) pos) (Ix i):=PS.weak (iI he) fun D σ H hh_=>hh_.elim fun F0 H0 F ρ Dp br h ft=>by
 obtain⟨ps,e,h⟩:=h.ex
 obtain⟨v,ev,_⟩:=br.er.rd e
 have sl:=br.er.sl i _ e
 rw[ev] at sl
 obtain⟨a,vs,e',h1,h2,h3⟩:=sl
 cases e'
 exact⟨_,ev,ft.rn ps a vs F H h br.gr (br.ow i a ⟨⟨_,e,rfl⟩,ev⟩) h2 h1 h3⟩
theorem Jw {c:Expr}{a b:List Stmt}{tc:lc}(hc:PuB X c tc)(ha:pj X a t)(hb:pj X b u):kx X (.If c a b pos) (Su tc t u):=PS.weak (O2 hc ha hb) fun D σ H hh_=>hh_.elim fun F0 H0 F ρ Dp br h ft=>⟨F,ρ,_,br.er,h,fun b F1 H1 h1 g1=>by
 cases b with
 |true=>exact⟨F0,H0,F1,ρ,Dp,br.grow g1,by simpa using h1,ft⟩
 |false=>exact⟨F0,H0,F1,ρ,Dp,br.grow g1,by simpa using h1,ft⟩⟩
theorem xS (h:PS X st (cv (lE X.K te) (aO i))):kx X st (OM i te):=PS.weak h fun D σ H hh_=>hh_.elim fun F0 H0 F ρ Dp br h ft=>⟨F,ρ,_,br.er,h,fun p v F1 H1 h1 g1 r1=>ft.nx F1 H1 _ _ h1 ((br.grow g1).setV r1)⟩
theorem ur (h:PS X st (cv (lN X.K tn) (aO i))):kx X st (HY i tn):=PS.weak h fun D σ H hh_=>hh_.elim fun F0 H0 F ρ Dp br h ft=>⟨F,ρ,_,br.er,h,fun ps a vs F1 H1 h1 g1 h0 hF hH r1=>ft.nx F1 H1 _ _ h1 (br.setN g1 h0 hF hH r1)⟩
theorem Gd {g0:TG}{g:t4}(hg:gQ X.K g0 g)(h:PS X st (cv (lE X.K te) g0)):kx X st (QZ te g):=PS.weak h fun D σ H hh_=>hh_.elim fun F0 H0 F ρ Dp br h ft=>⟨F,ρ,_,br.er,h,fun p v F1 H1 h1 g1 r1=>
 hg F1 H1 σ ρ p v _ _ g1.fh r1 h1 fun σ' ρ' q u=>ft.nx F1 H1 σ' ρ' q ((br.grow g1).upd u)⟩
theorem wX (i:Nat)(h:kx X st t):kx X st (yk i t):=PS.weak h fun D σ H hh_=>hh_.elim fun F0 H0 F ρ Dp br h ft=>by
 unfold yk frz at h
 split at h
 ·next ps e=>
  obtain⟨F',br'⟩:=br.fz e
  exact⟨F0,H0,F',_,Dp,br',h,ft⟩
 ·exact⟨F0,H0,F,ρ,Dp,br,h,ft⟩
theorem vw {fm:List (Option Nat)}{ti:oS}{g0:TG}{g:t4}{tc:lc}(hg:gQ X.K g0 g)(h:PS X st (cv (i5 fm (lI X.K ti) g0 (lB X.K tc) (lE X.K te)) (aO i))):kx X st (HY i (qQ fm ti g tc te)):=ur (PS.weak h fun D σ H q=>mx hg σ H _ q)
theorem sZ {fm:List (Option Nat)}{ti:oS}{g0:TG}{g:t4}{tc:lc}(hg:gQ X.K g0 g)(h:PS X st (cv (i5 fm (lI X.K ti) g0 (lB X.K tc) (lE X.K te)) (aO i))):kx X st (OM i (QD (qQ fm ti g tc te))):=PS.weak h fun D σ H hh_=>hh_.elim fun F0 H0 F ρ Dp br h ft=>mx hg σ H _ ⟨F,ρ,_,br.er,h,fun ps a vs F1 H1 h1 g1 h0 hF hH r1=>
 ft.nx _ H1 _ _ h1 ((br.grow (g1.freeze h0 hF hH)).setV ⟨a,vs,rfl,af,r1.mono (bj hF _)⟩)⟩
noncomputable def Lw (i:Nat)(f:Int->Int->Int)(te:eJ):i4:=fun D ρ=>gv ρ i fun x=>te ρ fun y=>OkI x fun a=>OkI y fun b=>D.nx (ρ.set i (some (.val (.int (f a b)))))
theorem G3 {f:Int->Int->Int}(h:PS X st (fK i (lE X.K te) (kJ f))):kx X st (Lw i f te):=PS.weak h fun D σ H hh_=>hh_.elim fun F0 H0 F ρ Dp br h ft=>by
 unfold Lw gv at h
 split at h
 ·next p e=>
  obtain⟨v,ev,_⟩:=br.er.rd e
  have sl:=br.er.sl i _ e
  rw[ev] at sl
  refine⟨v,ev,F,ρ,_,br.er,h,fun q w F1 H1 h1 g1 r1=>?_⟩
  obtain⟨x,rfl,rfl,h1⟩:=OkI.rd (H:=H1) h1 (.frz (Rep.mono g1.ff sl))
  obtain⟨y,rfl,rfl,h1⟩:=OkI.rd (H:=H1) h1 (.frz r1)
  exact⟨x,y,rfl,rfl,ft.nx F1 H1 _ _ h1 ((br.grow g1).setV rfl)⟩
 ·exact h.elim
theorem BR.ownAt {K:PySem.W.Frag}{F0 H0 F H:Hp}{σ:L2.St}{ρ:ak}(br:BR K F0 H0 F H σ ρ){ps:List PV}(e:ρ[i]?=some (some (.own ps))):∃a vs,σ[i]?=some (some (.ref a))/\jL σ ρ i a/\H a=some (.lst vs)/\F a=none/\Reps K F ps vs:=by
 obtain⟨v,ev,_⟩:=br.er.rd e
 have sl:=br.er.sl i _ e
 rw[ev] at sl
 obtain⟨a,vs,e',h1,h2,h3⟩:=sl
 cases e'
 exact⟨a,vs,ev,⟨⟨_,e,rfl⟩,ev⟩,h1,h2,h3⟩
noncomputable def MU (i:Nat)(t:jn):i4:=fun D ρ=>go ρ i fun ps=>t ρ fun qs=>One qs fun q=>ps.length<sizeLine/\D.nx (ρ.set i (some (.own (ps++[q]))))
theorem GX {t:jn}(h:PS X st (bA (ma X.K "list" rY (cR i) (lA X.K t)))):kx X st (MU i t):=PS.weak h fun D σ H hh_=>hh_.elim fun F0 H0 F ρ Dp br h ft=>by
 obtain⟨ps,e,h⟩:=h.ex
 obtain⟨a,vs,ev,o,h1,h2,h3⟩:=br.ownAt e
 refine⟨_,ev,.inl ⟨rfl,vs,SqL.of h1⟩,F,ρ,_,br.er,h,fun qs us F1 H1 k1 g1 r1=>?_⟩
 unfold One at k1
 split at k1
 ·next q=>
  obtain⟨v,r,rfl,r1,er⟩:=r1
  cases (show r=[] from er)
  have k:=g1.keep h2 h1
  exact⟨a,vs,v,rfl,rfl,k.2,by rw[h3.length];exact k1.1,ft.nx F1 _ σ _ k1.2 ((br.grow g1).mut (s:=.own _) o rfl ⟨a,_,rfl,af,k.1,(h3.mono g1.ff).app (.one r1)⟩)⟩
 ·exact k1.elim
noncomputable def JH (j:Nat)(ti te:eJ):i4:=fun D ρ=>te ρ fun v=>go ρ j fun ps=>ti ρ fun k=>OkI k fun k=>OkO (qh ps.length k) fun n=>D.nx (ρ.set j (some (.own (ps.set n v))))
theorem Ar {j:Nat}{ti:eJ}(h:PS X st (cv (lE X.K te) (L2.eV (cR j) (lE X.K ti) b7))):kx X st (JH j ti te):=PS.weak h fun D σ H hh_=>hh_.elim fun F0 H0 F ρ Dp br h ft=>⟨F,ρ,_,br.er,h,fun p v F1 H1 h1 g1 r1=>by
 obtain⟨ps,e,h⟩:=h1.ex
 have br1:=br.grow g1
 obtain⟨a,vs,ev,o,k1,k2,k3⟩:=br1.ownAt e
 refine⟨_,ev,F1,ρ,_,br1.er,h,fun q w F2 H2 h2 g2 r2=>?_⟩
 obtain⟨k,rfl,rfl,h2⟩:=OkI.rd (H:=H2) h2 (.frz r2)
 obtain⟨n,en,h2⟩:=h2.ex
 have kk:=g2.keep k2 k1
 exact⟨a,vs,k,n,rfl,rfl,kk.2,by rw[k3.length];exact en,ft.nx F2 _ σ _ h2 ((br1.grow g2).mut (s:=.own _) o rfl ⟨a,_,rfl,af,kk.1,(k3.mono g2.ff).set (r1.mono g2.ff) n⟩)⟩⟩
noncomputable def qP (g:t4)(tb:i4)(D:PEnds):List PV->ak->Prop
 |[],ρ=>D.nx ρ
 |v::vs,ρ=>g v ρ fun ρ2=>tb { D with nx:=qP g tb D vs,ct:=qP g tb D vs,bk:=D.nx } ρ2
noncomputable def Q4 (ti:oS)(g:t4)(tb:i4):i4:=fun D ρ=>ti ρ fun its=>qP g tb D its ρ
theorem FU {ti:oS}{g0:TG}{g:t4}{tb:i4}(hg:gQ X.K g0 g)(h:PS X st (KQ (lI X.K ti) g0 (lS X.K tb))):kx X st (Q4 ti g tb):=PS.weak h fun D σ H hh_=>hh_.elim fun F0 H0 F ρ Dp br h ft=>⟨F,ρ,_,br.er,h,fun its J F1 H1 h1 g1 it=>by
 refine⟨fun i m σ' H'=>∃F' ρ',BR X.K F0 H0 F' H' σ' ρ'/\Same F1 F'/\i≤its.length/\m=its.length - i/\qP g tb Dp (its.drop i) ρ',⟨its.length,F1,ρ,br.grow g1,Same.refl _,Nat.zero_le _,rfl,h1⟩,?_⟩
 rintro i m σ' H' ⟨F',ρ',br',s1,hi,rfl,h2⟩
 obtain⟨it1,it2⟩:=it F' H' i s1 br'.er.fz
 by_cases hl:i<its.length
 ·obtain⟨go,yl⟩:=it1 _ (List.getElem?_eq_getElem hl)
  rw[List.drop_eq_getElem_cons hl] at h2
  refine .inr ⟨go,fun σ2 H2=>∃F2 ρ2,BR X.K F0 H0 F2 H2 σ2 ρ2/\Same F1 F2/\qP g tb Dp (its.drop (i+1)) ρ2,fun σ2 H2 ⟨F2,ρ2,b2,s2,q2⟩=>⟨its.length - (i+1),by omega,F2,ρ2,b2,s2,hl,rfl,q2⟩,fun x H2 hy=>?_⟩
  obtain⟨F2,g2,rx⟩:=yl x H2 hy
  refine hg F2 H2 σ' ρ' _ x _ _ g2.fh rx h2 fun σ3 ρ3 h3 u=>?_
  have br3:=(br'.grow g2).upd u
  refine⟨F2,Et F2 H0,F2,ρ3,_,br3.base,h3,⟨fun F4 H4 σ4 ρ4 h4 b4=>?_,fun F4 H4 σ4 ρ4 h4 b4=>?_,fun F4 H4 σ4 ρ4 h4 b4=>?_,fun p v F4 H4 h4 g4 r4=>ft.rt p v F4 H4 h4 (br3.gr.unbase g4) r4,fun ps a vs F4 H4 h4 g4 h0 hF hH r4=>ft.rn ps a vs F4 H4 h4 (br3.gr.unbase g4) (pe h0).2 hF hH r4⟩⟩
  ·exact⟨F4,ρ4,b4.unbase br3.gr,(s1.trans g2.ff).trans b4.gr.ff,h4⟩
  ·exact ft.nx F4 H4 σ4 ρ4 h4 (b4.unbase br3.gr)
  ·exact⟨F4,ρ4,b4.unbase br3.gr,(s1.trans g2.ff).trans b4.gr.ff,h4⟩
 ·have e:its.drop i=[]:=List.drop_eq_nil_of_le (by omega)
  rw[e] at h2
  exact .inl ⟨it2 (by omega),ft.nx F' H' σ' ρ' h2 br'⟩⟩
noncomputable def ko (tc:lc)(tb:i4)(D:PEnds):Nat->ak->Prop
 |0,_=>False
 |n+1,ρ=>tc ρ fun b=>if b=true then tb { D with nx:=ko tc tb D n,ct:=ko tc tb D n,bk:=D.nx } ρ else D.nx ρ
noncomputable def Mc (tc:lc)(tb:i4):i4:=fun D ρ=>∃n,ko tc tb D n ρ
theorem Ak {tc:lc}{tb:i4}(h:PS X st (wa (lB X.K tc) (lS X.K tb))):kx X st (Mc tc tb):=PS.weak h fun D σ H hh_=>hh_.elim fun F0 H0 F ρ Dp br ⟨n,h⟩ ft=>by
 refine⟨fun m σ' H'=>∃F' ρ',BR X.K F0 H0 F' H' σ' ρ'/\ko tc tb Dp m ρ',⟨n,F,ρ,br,h⟩,?_⟩
 rintro m σ' H' ⟨F',ρ',br',h'⟩
 cases m with
 |zero=>exact h'.elim
 |succ m=>
  refine⟨F',ρ',_,br'.er,h',fun b F1 H1 h1 g1=>?_⟩
  cases b with
  |true=>
   rw[if_pos rfl] at h1 ⊢
   refine⟨fun σ2 H2=>∃F2 ρ2,BR X.K F0 H0 F2 H2 σ2 ρ2/\ko tc tb Dp m ρ2,fun σ2 H2 q=>⟨m,Nat.lt_succ_self _,q⟩,F0,H0,F1,ρ',_,br'.grow g1,h1,⟨fun F4 H4 σ4 ρ4 h4 b4=>⟨F4,ρ4,b4,h4⟩,fun F4 H4 σ4 ρ4 h4 b4=>ft.nx F4 H4 σ4 ρ4 h4 b4,fun F4 H4 σ4 ρ4 h4 b4=>⟨F4,ρ4,b4,h4⟩,ft.rt,ft.rn⟩⟩
  |false=>
   rw[if_neg Bool.false_ne_true] at h1 ⊢
   exact ft.nx F1 H1 σ' ρ' h1 (br'.grow g1)
inductive PR where
 |v (p:PV)|n (ps:List PV)
noncomputable def PR.pv:PR->PV
 |.v p=>p
 |.n ps=>.lst ps
noncomputable abbrev yN:=List PV->(PR->Prop)->Prop
noncomputable def RF (K:PySem.W.Frag)(H F' H':Hp)(v:V):PR->Prop
 |.v p=>Rep K F' p v
 |.n ps=>∃a vs,v=.ref a/\H a=none/\F' a=none/\H' a=some (.lst vs)/\Reps K F' ps vs
noncomputable def aP (K:PySem.W.Frag)(φ:yN):Sp:=fun vs H Q _=>∃F ps,∃Qp:PR->Prop,Same F H/\Reps K F ps vs/\φ ps Qp/\∀r v F' H',Qp r->Grow F H F' H'->RF K H F' H' v r->Q v H'
noncomputable def PEnds.of (Q:PR->Prop):PEnds:={ nx:=fun _=>Q (.v .non),rt:=fun p=>Q (.v p),rn:=fun ps=>Q (.n ps) }
noncomputable def kO (N:List Str)(ps:List PV):ak:=ps.map (fun p=>some (Sl.val p))++List.replicate (N.length - ps.length) none
theorem u8 {K:PySem.W.Frag}{F H:Hp}(s:Same F H)(N:List Str):∀{ps:List PV} {vs:List V},Reps K F ps vs->ER K F H (L2.aQ N vs) (kO N ps):=fun {ps vs} r=>by
 have hl:=r.length
 refine⟨s,by unfold L2.aQ kO;simp[hl],fun i s' e=>?_⟩
 unfold kO at e
 unfold L2.aQ
 rw[List.getElem?_append] at e ⊢
 rw[List.length_map] at e ⊢
 by_cases hi:i<ps.length
 ·rw[if_pos hi,List.getElem?_map] at e
  rw[if_pos (by omega),List.getElem?_map]
  obtain⟨p,ep,e⟩:=Option.map_eq_some_iff.mp e
  obtain⟨v,ev,rv⟩:=r.get ep
  cases e
  rw[ev]
  exact rv
 ·rw[if_neg hi,List.getElem?_replicate] at e
  split at e<;>cases e
theorem kl {N:List Str}{ps:List PV}{σ:L2.St}{i:Nat}{a:Addr}(o:jL σ (kO N ps) i a):False:=by
 obtain⟨⟨s,e,hs⟩,_⟩:=o
 unfold kO at e
 rw[List.getElem?_append] at e
 split at e
 ·rw[List.getElem?_map] at e
  obtain⟨p,ep,e⟩:=Option.map_eq_some_iff.mp e
  cases e
  exact absurd hs Bool.false_ne_true
 ·rw[List.getElem?_replicate] at e
  split at e<;>cases e
noncomputable def Ny (φ:yN)(t:jn):eJ:=fun ρ Q=>t ρ fun ps=>φ ps fun r=>Q r.pv
noncomputable def RW:PR->(List PV->Prop)->Prop
 |.n ps,Q=>Q ps
 |_,_=>False
noncomputable def Kq (φ:yN)(t:jn):tK:=fun ρ Q=>t ρ fun ps=>φ ps fun r=>RW r Q
theorem GH {φ:yN}{t:jn}(h:PE X e (bf (aP X.K φ) [] E0 (lA X.K t))):fN X e (Ny φ t):=PE.weak h fun σ H Q hh_=>hh_.elim fun F ρ Qp er q k=>⟨F,ρ,_,er,q,fun ps vs F1 H1 h1 g1 r1=>by
 show aP X.K φ (vs++[]) H1 Q E0
 rw[List.append_nil]
 refine⟨F1,ps,_,g1.fh,r1,h1,fun r v F2 H2 h2 g2 rr=>?_⟩
 cases r with
 |v p=>exact k p v F2 H2 h2 (g1.trans g2) rr
 |n ps=>
  obtain⟨a,vs,rfl,h0,hF,hH,rs⟩:=rr
  exact k (.lst ps) _ _ H2 h2 ((g1.trans g2).freeze (g1.hh.free h0) hF hH) ⟨a,vs,rfl,af,rs.mono (bj hF _)⟩⟩
theorem Eh {φ:yN}{t:jn}(h:PE X e (bf (aP X.K φ) [] E0 (lA X.K t))):xg X e (Kq φ t):=PE.weak h fun σ H Q hh_=>hh_.elim fun F ρ Qp er q k=>⟨F,ρ,_,er,q,fun ps vs F1 H1 h1 g1 r1=>by
 show aP X.K φ (vs++[]) H1 Q E0
 rw[List.append_nil]
 refine⟨F1,ps,_,g1.fh,r1,h1,fun r v F2 H2 h2 g2 rr=>?_⟩
 cases r with
 |v p=>exact h2.elim
 |n ps=>
  obtain⟨a,vs,rfl,h0,hF,hH,rs⟩:=rr
  exact k ps a vs F2 H2 h2 (g1.trans g2) (g1.hh.free h0) hF hH rs⟩
end
theorem Qb {P:Program}{w:World}{K:PySem.W.Frag}{mg:Str->Option Value}{base:Heap}{x:Str}{st:Stmt}{N ps:List Str}{k:Nat}{φ:yN}{ts:i4}(F:FunD K mg x st ps)(S:FnScope N ps (ad st))
  (hl:∀qs Q,φ qs Q->qs.length=ps.length)
  (hb:∀(f:Addr) (cdv:Value) (A:Around) (outer:List Env) (s:Shared) (H:Hp) (E:XK),Room k (A.deeper (PyProof.Rows.envOfC x (ad st) s.heap.objs.size f cdv))->pj (lJ vX P w K mg base N x (ad st) f cdv A outer s H E).nox (ag st) ts)
  (hφ:∀qs Q,φ qs Q->ts (PEnds.of Q) (kO N qs)):Def P w K mg base (k+1) x ps (aP K φ):=by
 refine F.ok S (fun vs H Q E ⟨F,qs,Qp,s,r,h,_⟩=>by rw[r.length];exact hl qs Qp h) (fun f cdv A outer s H vs Q E hr ⟨F,qs,Qp,sm,r,h,kk⟩=>?_)
 refine⟨_,hb f cdv A outer s H E hr,F,H,F,kO N qs,PEnds.of Qp,?_,hφ qs Qp h,?_⟩
 ·exact⟨u8 sm N r,.refl sm,fun i a o=>(kl o).elim,fun i j a o _=>(kl o).elim⟩
 ·exact⟨fun F' H' σ' ρ' q b=>kk (.v .non) .non F' H' q b.gr rfl,fun F' H' σ' ρ' q b=>q.elim,fun F' H' σ' ρ' q b=>q.elim,fun p v F' H' q g rr=>kk (.v p) v F' H' q g rr,fun ps a vs F' H' q g h0 hF hH rs=>kk (.n ps) (.ref a) F' H' q g ⟨a,vs,rfl,h0,hF,hH,rs⟩⟩
end Pu
end
section
namespace Pu
open PySem PySem.Spec L2
theorem Def.imp {P:Program}{w:World}{K:PySem.W.Frag}{mg:Str->Option Value}{base:Heap}{k:Nat}{x:Str}{ps:List Str}{sp sp':Sp}(d:Def P w K mg base k x ps sp)(h:∀vs H Q E,sp' vs H Q E->sp vs H Q E):Def P w K mg base k x ps sp':=by
 obtain⟨f,fd,F,r⟩:=d
 exact⟨f,fd,F.imp h,r⟩
section
variable {X:Cx}{e a b c l tg iter:Expr}{pos:Pos}{te ta tb:eJ}{t:jn}{st:Stmt}{i j:Nat}
theorem RdV.all {K:PySem.W.Frag}{F H:Hp}{p:PV}{v:V}(s:Same F H)(r:RdV K F H p v):Rep K H p v:=by
 cases r with
 |frz r=>exact r.mono s
 |own h1 h2 h3=>exact⟨_,_,rfl,h1,h3.mono s⟩
 |dic h1 h2 h3 h4=>exact⟨_,_,rfl,h1,h3,h4.mono s⟩
theorem RdVs.all {K:PySem.W.Frag}{F H:Hp}{ps:List PV}{vs:List V}(s:Same F H)(r:RdVs K F H ps vs):Reps K H ps vs:=by
 induction r with
 |nil=>rfl
 |cons r _ ih=>exact⟨_,_,rfl,r.all s,ih⟩
noncomputable def OkLo:PV->(List PV->Prop)->Prop
 |.lst ps,Q=>Q ps
 |_,_=>False
theorem OkLo.rd {K:PySem.W.Frag}{F H:Hp}{p:PV}{v:V}{Q:List PV->Prop}(h:OkLo p Q)(s:Same F H)(r:RdV K F H p v):∃a vs ps,p=.lst ps/\v=.ref a/\H a=some (.lst vs)/\Reps K F ps vs/\Q ps:=by
 cases r with
 |frz r=>
  cases p<;>first|exact h.elim|skip
  obtain⟨a,vs,rfl,e,r⟩:=r;exact⟨a,vs,_,rfl,rfl,s _ _ e,r,h⟩
 |own h1 h2 h3=>exact⟨_,_,_,rfl,rfl,h1,h3,h⟩
 |dic=>exact h.elim
noncomputable def Qz (ta tb:eJ):tK:=fun ρ Q=>ta ρ fun x=>tb ρ fun y=>OkLo x fun ps=>OkLo y fun qs=>ps.length+qs.length≤sizeLine/\Q (ps++qs)
theorem Li (ha:hX X a ta)(hb:hX X b tb):xg X (.BinOp a .Add b pos) (Qz ta tb):=PE.weak (Bq LJ ha hb) fun σ H Q hh_=>hh_.elim fun F ρ Qp er q k=>
 ⟨F,ρ,_,er,q,fun p v F1 H1 q1 g1 r1=>⟨F1,ρ,_,er.grow g1,q1,fun p2 v2 F2 H2 q2 g2 r2=>by
  obtain⟨a,vs,ps,rfl,rfl,h1,rs,q2⟩:=q2.rd g2.fh (r1.grow g2)
  obtain⟨b,us,qs,rfl,rfl,h2,rs2,q2⟩:=q2.rd g2.fh r2
  exact⟨a,b,vs,us,rfl,rfl,h1,h2,by rw[rs.length,rs2.length];exact q2.1,fun p hp=>k _ p _ F2 _ q2.2 ((g1.trans g2).trans (.newO g2.fh hp _)) ((g1.trans g2).hh.free hp) (g2.fh.free hp) af (rs.app rs2)⟩⟩⟩
noncomputable def QT (ta tb:eJ):tK:=fun ρ Q=>ta ρ fun x=>tb ρ fun y=>OkLo x fun ps=>OkI y fun k=>-(2 ^ 63)≤k/\k<2 ^ 63/\ps.length * k.toNat≤sizeLine/\Q (List.replicate k.toNat ps).flatten
theorem Reps.repF {K:PySem.W.Frag}{F:Hp}{ps:List PV}{vs:List V}(h:Reps K F ps vs):∀n,Reps K F (List.replicate n ps).flatten (List.replicate n vs).flatten
 |0=>rfl
 |n+1=>by rw[List.replicate_succ,List.replicate_succ,List.flatten_cons,List.flatten_cons];exact h.app (Reps.repF h n)
theorem Kf (ha:hX X a ta)(hb:hX X b tb):xg X (.BinOp a .Mult b pos) (QT ta tb):=PE.weak (Bq LK ha hb) fun σ H Q hh_=>hh_.elim fun F ρ Qp er q k=>
 ⟨F,ρ,_,er,q,fun p v F1 H1 q1 g1 r1=>⟨F1,ρ,_,er.grow g1,q1,fun p2 v2 F2 H2 q2 g2 r2=>by
  obtain⟨a,vs,ps,rfl,rfl,h1,rs,q2⟩:=q2.rd g2.fh (r1.grow g2)
  obtain⟨n,rfl,rfl,q2⟩:=q2.rd r2
  exact⟨a,n,vs,rfl,rfl,h1,q2.1,q2.2.1,by rw[rs.length];exact q2.2.2.1,fun p hp=>k _ p _ F2 _ q2.2.2.2 ((g1.trans g2).trans (.newO g2.fh hp _)) ((g1.trans g2).hh.free hp) (g2.fh.free hp) af (rs.repF _)⟩⟩⟩
noncomputable def fu:Nat->List PV->List PV
 |_,[]=>[]
 |k,p::ps=>.tup [.int k,p]::fu (k+1) ps
theorem mD:∀(k:Nat) (ps:List PV),(fu k ps).length=ps.length
 |_,[]=>rfl
 |k,_::ps=>by rw[fu,List.length_cons,List.length_cons,mD]
theorem mv:∀(k:Nat) (ps:List PV) (i:Nat),(fu k ps)[i]?=(ps[i]?).map fun p=>.tup [.int ((k+i:Nat):Int),p]
 |_,[],i=>by simp[fu]
 |k,p::ps,0=>by simp[fu]
 |k,p::ps,i+1=>by
  rw[fu,List.getElem?_cons_succ,List.getElem?_cons_succ,mv,show k+1+i=k+(i+1) by omega]
noncomputable def Nv (t:jn):oS:=fun ρ Q=>t ρ fun ps=>One ps fun p=>OkL p fun ps=>Q (fu 0 ps)
theorem Cr (h:PI X tg iter (Db X.K (lA X.K t))):zB X tg iter (Nv t):=PI.weak h fun σ H R hh_=>hh_.elim fun F ρ Qp er q k=>⟨F,ρ,_,er,q,fun ps vs F1 H1 h1 g1 r1=>by
 obtain⟨p,rfl,h⟩:∃p,ps=[p]/\OkL p fun ps=>Qp (fu 0 ps):=by
  unfold One at h1
  split at h1
  ·exact⟨_,rfl,h1⟩
  ·exact h1.elim
 obtain⟨v,r,rfl,r1,er'⟩:=r1
 cases (show r=[] from er')
 obtain⟨a,vs,ps,rfl,hs,rs,h⟩:∃a vs ps,v=.ref a/\SqL X.K F1 a vs/\Reps X.K F1 ps vs/\Qp (fu 0 ps):=by
  cases p with
  |lst ps=>obtain⟨a,vs,rfl,e,rs⟩:=r1;exact⟨a,vs,ps,rfl,SqL.of e,rs,h⟩
  |src ps=>obtain⟨a,vs,rfl,e,rs⟩:=r1;exact⟨a,vs,ps,rfl,e,rs,h⟩
  |_=>exact h.elim
 refine⟨a,rfl,⟨vs,g1.fh.seq hs⟩,k _ _ F1 H1 h g1 fun F2 H2 i s1 s2=>?_⟩
 have h2:=(s1.trans s2).seq hs
 refine⟨fun p e=>?_,fun hl=>⟨vs,h2,by rw[rs.length];rw[mD] at hl;exact hl⟩⟩
 rw[mv] at e
 obtain⟨p',e1,rfl⟩:=Option.map_eq_some_iff.mp e
 obtain⟨v,ev,rv⟩:=rs.get e1
 refine⟨⟨vs,v,h2,ev⟩,fun x H3 ⟨q,y,ex,hq,e2,hy⟩=>?_⟩
 subst ex e2
 have:=hy vs h2
 rw[ev] at this
 cases this
 refine⟨L2.upd F2 q (.tup [.int i,v]),.new s2 hq _,q,[.int i,v],rfl,af,?_⟩
 refine⟨_,_,rfl,?_,_,_,rfl,(rv.mono s1).mono (bj (s2.free hq) _),rfl⟩
 show V.int i=V.int ((0+i:Nat):Int)
 rw[Nat.zero_add]⟩
noncomputable def QU (i j:Nat)(t:jn):i4:=fun D ρ=>t ρ fun ps=>Two ps fun p q=>D.nx ((ρ.set i (some (.val p))).set j (some (.val q)))
theorem FP (h:PS X st (eW i j (lA X.K t))):kx X st (QU i j t):=PS.weak h fun D σ H hh_=>hh_.elim fun F0 H0 F ρ Dp br h ft=>⟨F,ρ,_,br.er,h,fun ps vs F1 H1 h1 g1 r1=>by
 unfold Two at h1
 split at h1
 ·obtain⟨v,r,rfl,r1,v2,r2,e2,r3,e3⟩:=r1
  subst e2
  cases (show r2=[] from e3)
  exact⟨v,v2,rfl,ft.nx F1 H1 _ _ h1 (((br.grow g1).setV r1).setV r3)⟩
 ·exact h1.elim⟩
end
end Pu
end
section
namespace L2
open PySem PySem.Spec PyProof.Rows
noncomputable def IF:R2:=fun x y H Q=>∃l k xs,x=.ref l/\y=.int k/\H l=some (.tup xs)/\xs≠[]/\1≤k/\k≤1000/\xs.length≤1000/\(k=1->Q (.ref l) H)/\(k≠1->∀p,H p=none->Q (.ref p) (upd H p (.tup (List.replicate k.toNat xs).flatten)))
theorem Hb {X:Cx}:iD X (binaryOp .Mult) IF:=by
 intro pins s σ H x y v u Q I rx ry h
 obtain⟨l,k,xs,rfl,rfl,hH,hx,k1,k2,k3,q⟩:=h
 cases rx
 obtain⟨t,rfl⟩:=ry
 obtain⟨its,r,p1,z⟩:=I.tuple (SqT.of' hH)
 obtain⟨⟨cls,dd,data,sl⟩,e,hc,n,hd⟩:=id p1
 simp only at hc hd
 subst hc hd
 have hl:=r.length
 have z1:sizeLine ≥ 1000000:=by decide
 have hne:its≠[]:=fun w=>hx (r.nil_iff.mp w)
 have jT:its.length * k.toNat≤1000 * 1000:=Nat.mul_le_mul (by omega) (by omega)
 refine wpAny_binaryOp_repeat_ref (T:="tuple") (U:="int") (by decide) ⟨_,e,rfl⟩ (fun s'=>typeIs_int s' k t) my PySem.F.fills_int_mul PySem.F.slot_int_rmul sC PySem.F.slot_int_index.lookup
  (call_meets PySem.F.slot_int_rmul (typeIs_int s k t) PySem.F.entry_int_rmul (PySem.F.args_int_rmul_2 _ _) (oV k t l its.toArray n dd sl) ⟨e,rfl,⟨_,e,rfl⟩,?_⟩)
 by_cases hk:k=1
 ·subst hk
  refine call_meets PySem.F.slot_tuple_mul ⟨_,e,rfl⟩ PySem.F.entry_tuple_mul (PySem.F.args_tuple_mul_2 _ _) (o0 l its.toArray n dd sl t) ⟨e,?_⟩
  exact⟨.ref l,H,I,rfl,q.1 rfl⟩
 ·have hsz:((its.toArray.size:Nat):Int) * k=((its.length * k.toNat:Nat):Int):=by
   rw[List.size_toArray,Int.natCast_mul,Int.toNat_of_nonneg (by omega)]
  refine call_meets PySem.F.slot_tuple_mul ⟨_,e,rfl⟩ PySem.F.entry_tuple_mul (PySem.F.args_tuple_mul_2 _ _) (qE l its.toArray n dd sl k t ?a1 ?a2 ?a3 ?a4 ?a5 ?a6) ⟨e,?_⟩
  case a1=>simp;omega
  case a2=>simp[hne];exact hk
  case a3=>simp[hne];omega
  case a4=>rw[hsz];omega
  case a5=>
   rw[hsz]
   intro hh
   have h2:=of_decide_eq_true hh
   omega
  case a6=>
   rw[oU,List.size_toArray,tx,Nat.mul_comm]
   omega
  rw[oU]
  refine⟨.ref s.heap.objs.size,_,I.laid (t':=s.toks) (o:=.tup (List.replicate k.toNat xs).flatten) (fun b ob q=>Heap.get?_push_of_some _ q) (Nat.le_refl _) ?_,rfl,q.2 hk _ (I.hok.fresh (Nat.le_refl _))⟩
  exact⟨by rw[tx,Nat.mul_comm,hl];omega,_,r.rep k.toNat,IsTup.new _ _⟩
end L2
namespace Pu
open PySem PySem.Spec L2
section
variable {X:Cx}{e a b c l tg iter:Expr}{pos:Pos}{te ta tb:eJ}{t:jn}{st:Stmt}{i j:Nat}
noncomputable def Nw:jm:=fun x y Q=>OkT x fun ps=>OkI y fun k=>ps≠[]/\1≤k/\k≤1000/\ps.length≤1000/\Q (.tup (List.replicate k.toNat ps).flatten)
theorem FK:fH X.K IF Nw:=fun F H x y p q Qp Q s rx ry h k=>by
 obtain⟨a,vs,ps,rfl,rfl,hF,rs,h⟩:=h.rd rx
 obtain⟨n,rfl,rfl,h1,h2,h3,h4,h⟩:=h.rd ry
 have hl:=rs.length
 refine⟨a,n,vs,rfl,rfl,s _ _ hF,fun e=>?_,h2,h3,by omega,fun e=>?_,fun e p hp=>?_⟩
 ·subst e
  exact h1 (List.length_eq_zero_iff.mp hl.symm)
 ·subst e
  refine k _ _ F H h (.refl s) ⟨a,vs,rfl,hF,?_⟩
  simpa using rs
 ·exact k _ _ _ _ h (.new s hp _) ⟨p,_,rfl,af,(rs.repF _).mono (bj (s.free hp) _)⟩
theorem G4 (ha:hX X a ta)(hb:hX X b tb):fN X (.BinOp a .Mult b pos) (t9 Nw ta tb):=jb Hb FK ha hb
noncomputable def Iz:jm:=fun x y Q=>OkT x fun ps=>OkT y fun qs=>ps≠[]/\ps.length+qs.length≤sizeLine/\Q (.tup (ps++qs))
theorem FN:fH X.K (Ih X.K) Iz:=fun F H x y p q Qp Q s rx ry h k=>by
 obtain⟨a,vs,ps,rfl,rfl,hF,rs,h⟩:=h.rd rx
 obtain⟨b,us,qs,rfl,rfl,hF2,rs2,h1,h2,h⟩:=h.rd ry
 have hl:=rs.length
 have hl2:=rs2.length
 refine⟨a,b,vs,us,rfl,rfl,SqT.of (s _ _ hF),SqT.of (s _ _ hF2),fun e=>?_,by omega,fun e=>?_,fun e p hp=>?_⟩
 ·subst e
  exact h1 (List.length_eq_zero_iff.mp hl.symm)
 ·subst e
  have:qs=[]:=List.length_eq_zero_iff.mp hl2.symm
  subst this
  rw[List.append_nil] at h
  exact k _ _ F H h (.refl s) ⟨a,vs,rfl,hF,rs⟩
 ·exact k _ _ _ _ h (.new s hp _) ⟨p,_,rfl,af,(rs.app rs2).mono (bj (s.free hp) _)⟩
theorem FJ (ha:hX X a ta)(hb:hX X b tb):fN X (.BinOp a .Add b pos) (t9 Iz ta tb):=jb E6 FN ha hb
noncomputable def Dm (K:PySem.W.Frag):R2:=fun x y H Q=>∃a b ys,x=.ref a/\y=.ref b/\SqT K H a []/\SqT K H b ys/\Q (.ref b) H
theorem A6:iD X (binaryOp .Add) (Dm X.K):=by
 intro pins s σ H x y v u Q I rx ry h
 obtain⟨a,b,ys,rfl,rfl,ha,hb,q⟩:=h
 cases rx
 cases ry
 obtain⟨its,r1,⟨⟨cls,dd,data,sl⟩,ho,hc,n,hd⟩,_⟩:=I.tuple ha
 obtain⟨its2,r2,⟨⟨cls2,dd2,data2,sl2⟩,ho2,hc2,n2,hd2⟩,_⟩:=I.tuple hb
 simp only at hc hd hc2 hd2
 subst hc hd hc2 hd2
 cases r1
 exact concat_meets ⟨_,ho,rfl⟩ ⟨_,ho2,rfl⟩ noFill_tuple_add seq_tuple_add PySem.F.slot_tuple_add PySem.F.entry_tuple_add (PySem.F.args_tuple_add_2 _ _)
  (PyProof.Rows.tuple_addW0 a b #[] its2.toArray n n2 dd dd2 sl sl2 rfl) ⟨ho,ho2,.ref b,H,I,rfl,q⟩
noncomputable def IN:jm:=fun x y Q=>OkT x fun ps=>OkT y fun qs=>ps=[]/\Q (.tup qs)
theorem Bh:fH X.K (Dm X.K) IN:=fun F H x y p q Qp Q s rx ry h k=>by
 obtain⟨a,vs,ps,rfl,rfl,hF,rs,h⟩:=h.rd rx
 obtain⟨b,us,qs,rfl,rfl,hF2,rs2,h1,hq⟩:=h.rd ry
 cases h1
 cases (show vs=[] from rs)
 exact⟨a,b,us,rfl,rfl,SqT.of (s _ _ hF),SqT.of (s _ _ hF2),k (.tup qs) _ F H hq (.refl s) ⟨b,us,rfl,hF2,rs2⟩⟩
theorem Di (ha:hX X a ta)(hb:hX X b tb):fN X (.BinOp a .Add b pos) (t9 IN ta tb):=jb A6 Bh ha hb
noncomputable def RD (te:eJ)(tl th:zD):eJ:=fun ρ Q=>te ρ fun x=>tl ρ fun l=>th ρ fun h=>OkT x fun ps=>¬(HT.sIx ps.length 0 l=0/\HT.sIx ps.length ps.length h=ps.length)/\Q (.tup (cut ps l h))
theorem Cl {lo hi:Option Expr}{tl th:zD}{p2:Pos}(he:hX X e te)(hl:Ea X lo tl)(hh:Ea X hi th):fN X (.Subscript e (.Slice lo hi none p2) pos) (RD te tl th):=PE.weak (oC K2 he hl hh) fun σ H Q hh_=>hh_.elim fun F ρ Qp er q k=>⟨F,ρ,_,er,q,fun p v F1 H1 h1 g1 r1=>
 ⟨F1,ρ,_,er.grow g1,h1,fun l F2 H2 h2 g2=>⟨F2,ρ,_,(er.grow g1).grow g2,h2,fun h F3 H3 h3 g3=>by
  have gg:=(g1.trans g2).trans g3
  obtain⟨a,vs,ps,rfl,rfl,hF,rs,hn,q⟩:=h3.rd (r1.grow (g2.trans g3))
  refine⟨a,vs,rfl,SqT.of (gg.fh _ _ hF),by rw[rs.length];exact hn,fun p hp=>k _ _ _ _ q (gg.trans (.new gg.fh hp _)) ⟨p,_,rfl,af,rs.cut.mono (bj (gg.fh.free hp) _)⟩⟩⟩⟩⟩
end
end Pu
end
section
namespace Pu
open PySem PySem.Spec L2
noncomputable def P0 (n:Nat)(ps:List PV):ak:=ps.map (fun p=>some (Sl.val p))++List.replicate (n - ps.length) none
noncomputable def ra (K:PySem.W.Frag):Sp:=fun vs H Q _=>∃(a:Addr) (ns:List Int),vs=[.ref a]/\SqL K H a (ns.map V.int)/\ns.length≤63/\∀H',Q (.bl true) H'
theorem ja {K:PySem.W.Frag}{F:Hp}:∀(ns:List Int),Reps K F (ns.map PV.int) (ns.map V.int)
 |[]=>rfl
 |n::ns=>⟨_,_,rfl,rfl,ja ns⟩
theorem Ac {X:Cx}{body:List Stmt}{ts:i4}{N:List Str}{H:Hp}{vs:List V}{Q:VK}{E:XK}(hb:pj X body ts)(h:ra X.K vs H Q E)
  (hp:∀ns:List Int,ns.length≤63->ts (PEnds.of (fun r=>r=.v (.bl true))) (P0 N.length [.src (ns.map PV.int)])):∃t,PSs X body t/\t { nx:=fun _ H'=>Q .non H',rt:=Q } (L2.aQ N vs) H:=by
 obtain⟨a,ns,rfl,hS,hl,q⟩:=h
 refine⟨_,hb,H,H,H,P0 N.length [.src (ns.map PV.int)],_,?_,hp ns hl,?_⟩
 ·have er:=u8 (K:=X.K) (Same.refl H) N (ps:=[.src (ns.map PV.int)]) (vs:=[.ref a]) ⟨_,_,rfl,⟨a,_,rfl,hS,ja ns⟩,rfl⟩
  exact⟨er,.refl (Same.refl H),fun i a o=>(kl o).elim,fun i j a o _=>(kl o).elim⟩
 ·refine⟨fun F' H' σ' ρ' q b=>?_,fun F' H' σ' ρ' q b=>q.elim,fun F' H' σ' ρ' q b=>q.elim,fun p v F' H' e g rr=>?_,fun ps a vs F' H' e g h0 hF hH rs=>?_⟩
  ·have e:PR.v .non=PR.v (.bl true):=q
   cases e
  ·have e':PR.v p=PR.v (.bl true):=e
   cases e'
   cases (show v=.bl true from rr)
   exact q H'
  ·have e':PR.n ps=PR.v (.bl true):=e
   cases e'
theorem QX {l:PySem.W.OpenLaw}{q:Program}{loose:List Str}{XP:(Str->Option Value)->Heap->Prop}{YP:World->Heap->Prop}{d:DefRec}{K:Params->PySem.W.Frag}{k:Nat}(hk:k≤40)(hn:l.most=some 63)(hdf:d.params.defaults=[])
  (hY:∀(w:World) (h:Heap),YP w h->(K w.params).In h)
  (F:∀(w:World) (mg:Str->Option Value) (fa:Addr) (h:Heap),(K w.params).In h->h.Ns mainGlobals mg->mg d.name=some (.ref fa) →
   ∃fd:FuncData,(∀(s:Shared) (u:Value),BindsTo s fd ⟨[u],[]⟩ [("_law_script",u)])/\∀base:Heap,(K w.params).In base/\base.Ns mainGlobals mg->FnOk l.prog w (K w.params) mg base vX k fa fd ["_law_script"] (ra (K w.params))) :
  PySem.W.WalkO q loose XP YP l.row.toRowW d [] (fun f vs=>PySem.call f vs):=by
 have R:Room 40 callerA:=⟨rfl,by decide,by decide⟩
 exact L2.Fh (n:=63) (k:=k) (x:="_law_script") (CX:=fun _=>vX) (sp:=fun w=>ra (K w.params)) hn (by first|decide|omega) hdf (R.mono hk) hY (fun w mg fa h a b c=>let ⟨fd,x,y⟩:=F w mg fa h a b c;⟨fd,x,fun base p1 p2=>y base ⟨p1,p2⟩⟩)
  (fun _ _ a ns hl _ hS=>⟨a,ns,rfl,hS,hl,fun _=>rfl⟩) fun _ _ _ _ _ z=>z
end Pu
end
section
namespace Fo
noncomputable abbrev up (us:List Nat)(x:Nat):Nat:=us.getD x 0
theorem aT {us:List Nat}{x v t:Nat}(hx:x<us.length):up (us.set x v) t=if t=x then v else up us t:=by
 simp only[up,List.getD_eq_getElem?_getD,List.getElem?_set]
 by_cases h:x=t
 ·subst h;simp[hx]
 ·simp[h,Ne.symm h]
structure Fst (us:List Nat):Prop where
 bnd:∀x,x<us.length->up us x<us.length
 rk:∃r:Nat->Nat,(∀x,x<us.length->r x<us.length)/\∀x,x<us.length->up us x≠x->r (up us x)<r x
inductive Way (us:List Nat):Nat->List Nat->Prop where
 |head {x:Nat}:up us x=x->Way us x [x]
 |step {x:Nat} {l:List Nat}:up us x≠x->Way us (up us x) l->Way us x (x::l)
theorem Way.det {us:List Nat}{x:Nat}{l l':List Nat}(h:Way us x l)(h':Way us x l'):l=l':=by
 induction h generalizing l' with
 |head e=>cases h' with
  |head _=>rfl
  |step n _=>exact absurd e n
 |step n _ ih=>cases h' with
  |head e=>exact absurd e n
  |step _ q=>rw[ih q]
theorem Way.ne {us:List Nat}{x:Nat}{l:List Nat}(h:Way us x l):l≠[]:=by cases h<;>simp
theorem Way.pos {us:List Nat}{x:Nat}{l:List Nat}(h:Way us x l):1≤l.length:=by cases h<;>simp
theorem Way.cons {us:List Nat}{x:Nat}{l:List Nat}(h:Way us x l):∃t,l=x::t:=by cases h<;>simp
theorem Way.mem_self {us:List Nat}{x:Nat}{l:List Nat}(h:Way us x l):x∈l:=by cases h<;>simp
noncomputable def bp (l:List Nat):Nat:=l.getLastD 0
theorem bc {x:Nat}{l:List Nat}(h:l≠[]):bp (x::l)=bp l:=by
 cases l with
 |nil=>exact absurd rfl h
 |cons y t=>simp[bp,List.getLastD_cons]
theorem lV {l:List Nat}(h:l≠[]):bp l∈l:=by
 induction l with
 |nil=>exact absurd rfl h
 |cons y t ih=>
  cases t with
  |nil=>simp[bp]
  |cons z t=>rw[bc (by simp)];exact List.mem_cons_of_mem _ (ih (by simp))
theorem Way.head_last {us:List Nat}{x:Nat}{l:List Nat}(h:Way us x l):up us (bp l)=bp l:=by
 induction h with
 |head e=>exact e
 |step _ w ih=>rw[bc w.ne];exact ih
theorem Way.lt {us:List Nat}{x:Nat}{l:List Nat}(h:Way us x l)(b:∀x,x<us.length->up us x<us.length)(hx:x<us.length):∀y∈l,y<us.length:=by
 induction h with
 |head e=>intro y hy;rw[List.mem_singleton] at hy;subst hy;exact hx
 |step n w ih=>
  intro y hy
  rcases List.mem_cons.mp hy with rfl|hy
  ·exact hx
  ·exact ih (b _ hx) y hy
theorem Way.rank {us:List Nat}{x:Nat}{l:List Nat}(h:Way us x l)(b:∀x,x<us.length->up us x<us.length){r:Nat->Nat}(hr:∀x,x<us.length->up us x≠x->r (up us x)<r x)(hx:x<us.length):∀y∈l,r y≤r x:=by
 induction h with
 |head e=>intro y hy;rw[List.mem_singleton] at hy;subst hy;exact Nat.le_refl _
 | @step x l n w ih=>
  intro y hy
  rcases List.mem_cons.mp hy with rfl|hy
  ·exact Nat.le_refl _
  ·exact Nat.le_trans (ih (b _ hx) y hy) (Nat.le_of_lt (hr x hx n))
theorem Way.nodup {us:List Nat}{x:Nat}{l:List Nat}(h:Way us x l)(f:Fst us)(hx:x<us.length):l.Nodup:=by
 obtain⟨b,r,hb,hr⟩:=f
 induction h with
 |head e=>simp
 | @step x l n w ih=>
  refine List.nodup_cons.mpr ⟨fun hm=>?_,ih (b _ hx)⟩
  have h1:=w.rank b hr (b _ hx) x hm
  have h2:=hr x hx n
  omega
theorem Fst.way {us:List Nat}(f:Fst us){x:Nat}(hx:x<us.length):∃l,Way us x l/\l.length≤us.length:=by
 obtain⟨b,r,hb,hr⟩:=f
 suffices h:∀k x,x<us.length->r x≤k->∃l,Way us x l/\l.length≤k+1 by
  obtain⟨l,w,hl⟩:=h (r x) x hx (Nat.le_refl _)
  exact⟨l,w,by have:=hb x hx;omega⟩
 intro k
 induction k with
 |zero=>
  intro x hx h0
  by_cases e:up us x=x
  ·exact⟨_,.head e,by simp⟩
  ·exact absurd (hr x hx e) (by omega)
 |succ k ih=>
  intro x hx h0
  by_cases e:up us x=x
  ·exact⟨_,.head e,by simp⟩
  ·obtain⟨l,w,hl⟩:=ih (up us x) (b x hx) (by have:=hr x hx e;omega)
   exact⟨_,.step e w,by simp;omega⟩
theorem Way.congr {us us':List Nat}{x:Nat}{l:List Nat}(h:Way us x l)(e:∀y∈l,up us' y=up us y):Way us' x l:=by
 induction h with
 | @head x q=>exact .head (by rw[e x (by simp),q])
 | @step x l n w ih=>
  have q:up us' x=up us x:=e x (by simp)
  exact .step (by rw[q];exact n) (by rw[q];exact ih fun y hy=>e y (List.mem_cons_of_mem _ hy))
theorem Way.closed {us:List Nat}{x:Nat}{l:List Nat}(h:Way us x l):∀y∈l,up us y∈l:=by
 induction h with
 | @head x q=>intro y hy;rw[List.mem_singleton] at hy;subst hy;rw[q];simp
 | @step x l n w ih=>
  intro y hy
  rcases List.mem_cons.mp hy with rfl|hy
  ·exact List.mem_cons_of_mem _ w.mem_self
  ·exact List.mem_cons_of_mem _ (ih y hy)
theorem Way.later {us:List Nat}{x:Nat}{l:List Nat}(h:Way us x l):∀y∈l,∃l2,Way us y l2/\bp l2=bp l/\l2.length≤l.length/\∀z∈l2,z∈l:=by
 induction h with
 | @head x q=>intro y hy;rw[List.mem_singleton] at hy;subst hy;exact⟨_,.head q,rfl,Nat.le_refl _,fun _ h=>h⟩
 | @step x l n w ih=>
  intro y hy
  rcases List.mem_cons.mp hy with rfl|hy
  ·exact⟨_,.step n w,rfl,Nat.le_refl _,fun _ h=>h⟩
  ·obtain⟨l2,a,b,c,d⟩:=ih y hy
   exact⟨l2,a,by rw[b,bc w.ne],by simp;omega,fun z hz=>List.mem_cons_of_mem _ (d z hz)⟩
structure Shorter (us us':List Nat):Prop where
 len:us'.length=us.length
 up:∀t,t<us.length->(up us t=t/\Fo.up us' t=t)\/(Fo.up us t≠t/\∃l,Way us (Fo.up us t) l/\Fo.up us' t∈l)
theorem Shorter.refl {us:List Nat}(f:Fst us):Shorter us us:=⟨rfl,fun t ht=>by
 by_cases e:Fo.up us t=t
 ·exact .inl ⟨e,e⟩
 ·obtain⟨l,w,_⟩:=f.way (f.bnd t ht)
  exact .inr ⟨e,l,w,w.mem_self⟩⟩
theorem Shorter.fst {us us':List Nat}(s:Shorter us us')(f:Fst us):Fst us':=by
 obtain⟨b,r,hb,hr⟩:=f
 refine⟨fun x hx=>?_,r,fun x hx=>?_,fun x hx hn=>?_⟩
 ·rw[s.len] at hx ⊢
  rcases s.up x hx with ⟨_,e⟩|⟨_,l,w,m⟩
  ·rw[e];exact hx
  ·exact w.lt b (b x hx) _ m
 ·rw[s.len] at hx ⊢;exact hb x hx
 ·rw[s.len] at hx
  rcases s.up x hx with ⟨_,e⟩|⟨n,l,w,m⟩
  ·exact absurd e hn
  ·exact Nat.lt_of_le_of_lt (w.rank b hr (b x hx) _ m) (hr x hx n)
theorem Shorter.way {us us':List Nat}(s:Shorter us us')(f:Fst us){t:Nat}(ht:t<us.length){l:List Nat}(w:Way us t l):∃l',Way us' t l'/\bp l'=bp l/\l'.length≤l.length:=by
 obtain⟨b,r,hb,hr⟩:=f
 suffices h:∀k t,t<us.length->r t≤k->∀l,Way us t l->∃l',Way us' t l'/\bp l'=bp l/\l'.length≤l.length from h (r t) t ht (Nat.le_refl _) l w
 intro k
 induction k with
 |zero=>
  intro t ht h0 l w
  rcases s.up t ht with ⟨e,e'⟩|⟨n,_⟩
  ·cases w with
   |head _=>exact⟨_,.head e',rfl,Nat.le_refl _⟩
   |step n _=>exact absurd e n
  ·exact absurd (hr t ht n) (by omega)
 |succ k ih=>
  intro t ht h0 l w
  rcases s.up t ht with ⟨e,e'⟩|⟨n,l1,w1,m⟩
  ·cases w with
   |head _=>exact⟨_,.head e',rfl,Nat.le_refl _⟩
   |step n _=>exact absurd e n
  ·cases w with
   |head e=>exact absurd e n
   | @step _ l0 _ w0=>
    obtain rfl:=w0.det w1
    obtain⟨l2,w2,e2,c2,_⟩:=w0.later _ m
    have hy:Fo.up us' t<us.length:=w0.lt b (b t ht) _ m
    have hry:r (Fo.up us' t)<r t:=Nat.lt_of_le_of_lt (w0.rank b hr (b t ht) _ m) (hr t ht n)
    obtain⟨l3,w3,e3,c3⟩:=ih _ hy (by omega) l2 w2
    refine⟨t::l3,.step (fun e=>?_) w3,?_,?_⟩
    ·rw[e] at hry;omega
    ·rw[bc w3.ne,e3,e2,bc w0.ne]
    ·simp;omega
inductive Halv:List Nat->Nat->Nat->List Nat->Nat->Prop where
 |stop {us:List Nat} {x:Nat}:up us x=x->Halv us x x us 0
 |step {us:List Nat} {x h n:Nat} {us':List Nat}:up us x≠x->Halv (us.set x (up us (up us x))) (up us (up us x)) h us' n->Halv us x h us' (n+1)
inductive Splt:List Nat->Nat->Nat->List Nat->Nat->Prop where
 |stop {us:List Nat} {x:Nat}:up us x=x->Splt us x x us 0
 |step {us:List Nat} {x h n:Nat} {us':List Nat}:up us x≠x->Splt (us.set x (up us (up us x))) (up us x) h us' n->Splt us x h us' (n+1)
noncomputable def iX (us:List Nat)(l:List Nat)(h:Nat):List Nat:=l.foldl (fun u t=>u.set t h) us
theorem xj (us l:List Nat)(h:Nat):(iX us l h).length=us.length:=by
 induction l generalizing us with
 |nil=>rfl
 |cons x t ih=>rw[iX,List.foldl_cons,←iX,ih,List.length_set]
theorem Ae {us l:List Nat}{h:Nat}(hl:∀y∈l,y<us.length)(t:Nat):up (iX us l h) t=if t∈l then h else up us t:=by
 induction l generalizing us with
 |nil=>simp[iX]
 |cons x l ih=>
  rw[iX,List.foldl_cons,←iX,ih fun y hy=>by rw[List.length_set];exact hl y (List.mem_cons_of_mem _ hy),aT (hl x (by simp))]
  by_cases h1:t∈l
  ·simp[h1]
  ·by_cases h2:t=x
   ·simp[h2]
   ·simp[h1,h2]
theorem Way.set {us:List Nat}{x y v:Nat}{l:List Nat}(w:Way us y l)(hx:x<us.length)(h:x∉l):Way (us.set x v) y l:=
 w.congr fun z hz=>by rw[aT hx,if_neg (fun e:z=x=>h (e▸hz))]
theorem yC {x:Nat}{l:List Nat}:∀{us:List Nat},Way us x l->l.Nodup->(∀y∈l,y<us.length)->∃us',Splt us x (bp l) us' (l.length - 1)/\us'.length=us.length/\∀t,up us' t=if t∈l then up us (up us t) else up us t:=by
 induction l generalizing x with
 |nil=>intro us w;exact absurd rfl w.ne
 |cons z l ih=>
  intro us w nd hl
  cases w with
  |head e=>exact⟨us,.stop e,rfl,fun t=>by
    by_cases h:t∈[z]
    ·rw[List.mem_singleton] at h;subst h;rw[if_pos (by simp),e,e]
    ·rw[if_neg h]⟩
  |step n w=>
   have hz:z<us.length:=hl z (by simp)
   obtain⟨nz,nd⟩:=List.nodup_cons.mp nd
   obtain⟨us',a,b,c⟩:=ih (w.set (v:=up us (up us z)) hz nz) nd fun y hy=>by rw[List.length_set];exact hl y (List.mem_cons_of_mem _ hy)
   have pos:=w.pos
   refine⟨us',?_,by rw[b,List.length_set],fun t=>?_⟩
   ·rw[bc w.ne]
    have:(z::l).length - 1=(l.length - 1)+1:=by simp;omega
    rw[this]
    exact .step n a
   ·rw[c]
    have cl:=w.closed
    by_cases h1:t∈l
    ·have h2:t≠z:=fun e=>nz (e▸h1)
     have h3:up us t≠z:=fun e=>nz (e▸cl t h1)
     rw[if_pos h1,if_pos (List.mem_cons_of_mem _ h1),aT hz,aT hz,if_neg h2,if_neg h3]
    ·rw[if_neg h1,aT hz]
     by_cases h2:t=z
     ·subst h2;simp
     ·rw[if_neg h2,if_neg (by simp[h1,h2])]
noncomputable def bU:List Nat->List Nat
 |[]=>[]
 |[x]=>[x]
 |x::_::l=>x::bU l
theorem fX:∀(l:List Nat) (x:Nat),x∈bU l->x∈l
 |[],_,h=>h
 |[_],_,h=>h
 |x::y::l,z,h=>by
  rcases List.mem_cons.mp h with rfl|h
  ·simp
  ·exact List.mem_cons_of_mem _ (List.mem_cons_of_mem _ (fX l z h))
theorem tW:∀(l:List Nat) {x:Nat} {us:List Nat},Way us x l->l.Nodup->(∀y∈l,y<us.length)->∃us',Halv us x (bp l) us' (l.length / 2)/\us'.length=us.length/\∀t,up us' t=if t∈bU l then up us (up us t) else up us t
 |[],_,_,w,_,_=>absurd rfl w.ne
 |[z],_,us,w,nd,hl=>by
  cases w with
  |head e=>exact⟨us,(show ([z].length / 2=0) from (by simp))▸Halv.stop e,rfl,fun t=>by
    by_cases h:t∈bU [z]
    ·have h':t∈[z]:=h
     rw[List.mem_singleton] at h';subst h';rw[if_pos h,e,e]
    ·rw[if_neg h]⟩
  |step n w=>exact absurd rfl w.ne
 |z::y::l,_,us,w,nd,hl=>by
  cases w with
  |step n w=>
   have hz:z<us.length:=hl z (by simp)
   obtain⟨nz,nd⟩:=List.nodup_cons.mp nd
   cases w with
   |head e=>
    refine⟨us.set z (up us z),?_,by rw[List.length_set],fun t=>?_⟩
    ·have q:Halv (us.set z (up us (up us z))) (up us (up us z)) (up us z) (us.set z (up us z)) 0:=by
      rw[e]
      exact .stop (by rw[aT hz,if_neg n,e])
     have h1:[z,up us z].length / 2=0+1:=by simp
     rw[h1]
     exact Halv.step n q
    ·rw[aT hz]
     by_cases h:t=z
     ·subst h;rw[if_pos rfl,if_pos (by simp[bU]),e]
     ·rw[if_neg h,if_neg (by simp[bU,h])]
   |step n2 w=>
    have hm:z∉l:=fun h=>nz (List.mem_cons_of_mem _ h)
    obtain⟨us',a,b,c⟩:=tW l (w.set (v:=up us (up us z)) hz hm) (List.nodup_cons.mp nd).2 fun q hq=>by rw[List.length_set];exact hl q (List.mem_cons_of_mem _ (List.mem_cons_of_mem _ hq))
    refine⟨us',?_,by rw[b,List.length_set],fun t=>?_⟩
    ·have e3:bp (z::up us z::l)=bp l:=by rw[bc (by simp),bc w.ne]
     have e4:(z::up us z::l).length / 2=l.length / 2+1:=by simp;omega
     rw[e3,e4]
     exact Halv.step n a
    ·rw[c]
     have cl:=w.closed
     by_cases h1:t∈bU l
     ·have h0:t∈l:=fX l t h1
      have h2:t≠z:=fun e=>hm (e▸h0)
      have h3:up us t≠z:=fun e=>hm (e▸cl t h0)
      rw[if_pos h1,if_pos (by simp[bU,h1]),aT hz,aT hz,if_neg h2,if_neg h3]
     ·rw[if_neg h1,aT hz]
      by_cases h2:t=z
      ·subst h2;rw[if_pos rfl,if_pos (by simp[bU])]
      ·rw[if_neg h2,if_neg (by simp[bU,h1,h2])]
end Fo
end
section
namespace Fo
open PySem
noncomputable def vy (us:List Nat)(x h:Nat)(us':List Nat)(n:Nat):Prop:=us'=us/\∃l,Way us x l/\h=bp l/\n+1=l.length
noncomputable def sg (us:List Nat)(x h:Nat)(us':List Nat)(n:Nat):Prop:=∃l,Way us x l/\h=bp l/\n=l.length / 2/\us'.length=us.length/\∀t,up us' t=if t∈bU l then up us (up us t) else up us t
noncomputable def sq (us:List Nat)(x h:Nat)(us':List Nat)(n:Nat):Prop:=∃l,Way us x l/\h=bp l/\n+1=l.length/\us'.length=us.length/\∀t,up us' t=if t∈l then up us (up us t) else up us t
noncomputable def KY (us:List Nat)(x h:Nat)(us':List Nat)(n:Nat):Prop:=us'=us.set x (up us (up us x))/\∃l,Way us x l/\h=bp l/\n+1=l.length
noncomputable def vZ (us:List Nat)(x h:Nat)(us':List Nat)(n:Nat):Prop:=∃l,Way us x l/\h=bp l/\n+1=l.length/\us'.length=us.length/\∀t,up us' t=if t∈l then h else up us t
inductive RM:Str->List Nat->Nat->Nat->List Nat->Nat->Prop where
 |none {us x h us' n}:vy us x h us' n->RM "none" us x h us' n
 |whole {us x h us' n}:vZ us x h us' n->RM "whole" us x h us' n
 |halves {us x h us' n}:sg us x h us' n->RM "halves" us x h us' n
 |splits {us x h us' n}:sq us x h us' n->RM "splits" us x h us' n
 |one {us x h us' n}:KY us x h us' n->RM "one" us x h us' n
noncomputable def manners:List Str:=["none","whole","halves","splits","one"]
structure Frst (us:List Nat):Prop where
 one:1≤us.length
 most:us.length≤40
 fst:Fst us
end Fo
namespace Pu
open PySem PySem.Spec L2 Fo
noncomputable def nI (n:Nat):PV:=.int n
noncomputable def nums (us:List Nat):List PV:=us.map nI
noncomputable def oX:yN:=fun qs Q=>∃y:Str,qs=[.str y]/\Q (.v (.bl (decide (y∈manners))))
noncomputable def rH:yN:=fun qs Q=>∃us y x,qs=[.tup (nums us),.str y,nI x]/\Frst us/\y∈manners/\x<us.length/\∀h us' n,RM y us x h us' n->Q (.v (.tup [nI h,.tup (nums us'),nI n]))
theorem Grow.tup {F H F' H':Hp}(g:Grow F H F' H'){p:Addr}{vs:List V}(h:H' p=some (.tup vs)):Grow F H (L2.upd F' p (.tup vs)) H'/\Same F' (L2.upd F' p (.tup vs)):=by
 have sm:Same F' (L2.upd F' p (.tup vs)):=fun b o e=>by
  by_cases hb:b=p
  ·subst hb;rw[af,←h];exact (g.fh b o e)
  ·rw[au hb];exact e
 refine⟨⟨g.hh,g.ff.trans sm,fun b o e=>?_,fun b o e=>?_⟩,sm⟩
 ·by_cases hb:b=p
  ·subst hb;rw[af] at e;rw[h];exact e
  ·rw[au hb] at e;exact g.fh b o e
 ·by_cases hb:b=p
  ·subst hb;rw[af] at e;cases e;exact .inr (.inr ⟨_,rfl⟩)
  ·rw[au hb] at e;exact g.nw b o e
theorem rR {K:PySem.W.Frag}{F:Hp}:∀(us:List Nat),Reps K F (nums us) (us.map fun n:Nat=>V.int (n:Int))
 |[]=>rfl
 |n::us=>⟨_,_,rfl,rfl,rR us⟩
theorem lP {K:PySem.W.Frag}{F:Hp}:∀{us:List Nat} {vs:List V},Reps K F (nums us) vs->vs=us.map fun n:Nat=>V.int (n:Int)
 |[],_,h=>h
 |n::us,_,⟨v,r,e,h1,h2⟩=>by
  subst e
  cases (show v=_ from h1)
  rw[lP h2];rfl
end Pu
end
section
namespace Dp
open PySem PySem.Spec L2 Pu
inductive RV where
 |fz (p:PV)|nw (ps:List PV)|ln (p:PV)
noncomputable def RV.pv:RV->PV
 |.fz p=>p
 |.nw ps=>.lst ps
 |.ln p=>p
noncomputable def RV.fr:RV->Option PV
 |.fz p=>some p
 |.nw ps=>some (.lst ps)
 |.ln _=>none
noncomputable abbrev FE:=ak->Option RV
noncomputable abbrev FB:=ak->Option Bool
noncomputable abbrev FA:=ak->Option (List RV)
noncomputable abbrev FI:=ak->Option (List PV)
noncomputable def RvOk (K:PySem.W.Frag)(H F' H':Hp)(v:V):RV->Prop
 |.fz p=>Rep K F' p v
 |.nw ps=>∃a vs,v=.ref a/\H a=none/\F' a=none/\H' a=some (.lst vs)/\Reps K F' ps vs
 |.ln p=>RdV K F' H' p v
noncomputable def lR (K:PySem.W.Frag)(f:FE):TE:=fun σ H Q=>∃F ρ r,ER K F H σ ρ/\f ρ=some r/\∀v F' H',Grow F H F' H'->RvOk K H F' H' v r->Q v H'
theorem lR.elim {K:PySem.W.Frag}{f:FE}{σ:St}{H:Hp}{Q:VK}{C:Prop}(h:lR K f σ H Q)(k:∀F ρ r,ER K F H σ ρ->f ρ=some r->(∀v F' H',Grow F H F' H'->RvOk K H F' H' v r->Q v H')->C):C:=by obtain⟨F,ρ,r,a,b,c⟩:=h;exact k F ρ r a b c
noncomputable def DE (X:Cx)(e:Expr)(f:FE):Prop:=PE X e (lR X.K f)
noncomputable def tT (f:FE):eJ:=fun ρ Q=>∃r,f ρ=some r/\Q r.pv
noncomputable def tF (f:FE):eJ:=fun ρ Q=>∃r p,f ρ=some r/\r.fr=some p/\Q p
noncomputable def tN (f:FE):tK:=fun ρ Q=>∃ps,f ρ=some (.nw ps)/\Q ps
noncomputable def AJ (f:FB):lc:=fun ρ Q=>∃b,f ρ=some b/\Q b
noncomputable def LF (f:FA):jn:=fun ρ Q=>∃rs ps,f ρ=some rs/\rs.mapM RV.fr=some ps/\Q ps
noncomputable def Ev (f:FA):jn:=fun ρ Q=>∃rs,f ρ=some rs/\Q (rs.map RV.pv)
noncomputable def Iy (f:FI):oS:=fun ρ Q=>∃its,f ρ=some its/\Q its
section
variable {X:Cx}{e a b c:Expr}{pos:Pos}{f fa fb fc:FE}{te t1 t2:eJ}{tn n1 n2:tK}{i:Nat}
theorem RvOk.rd {K:PySem.W.Frag}{H F' H':Hp}{v:V}:∀{r:RV},RvOk K H F' H' v r->RdV K F' H' r.pv v
 |.fz _,h=>.frz h
 |.nw _,⟨_,_,e,_,h1,h2,h3⟩=>by subst e;exact .own h2 h1 h3
 |.ln _,h=>h
theorem DE.tt (h:DE X e f):hX X e (tT f):=PE.weak h fun σ H Q hh_=>hh_.elim fun F ρ Qp er ⟨r,e,q⟩ k=>⟨F,ρ,r,er,e,fun v F' H' g ro=>k _ v F' H' q g ro.rd⟩
theorem DE.ee (h:DE X e f):fN X e (tF f):=PE.weak h fun σ H Q hh_=>hh_.elim fun F ρ Qp er ⟨r,p,e,ef,q⟩ k=>⟨F,ρ,r,er,e,fun v F' H' g ro=>by
 cases r with
 |fz p'=>cases ef;exact k _ v F' H' q g ro
 |nw ps=>
  cases ef
  obtain⟨a,vs,rfl,h0,hF,hH,rs⟩:=ro
  exact k _ _ _ H' q (g.freeze h0 hF hH) ⟨a,vs,rfl,af,rs.mono (bj hF _)⟩
 |ln p'=>cases ef⟩
theorem DE.nn (h:DE X e f):xg X e (tN f):=PE.weak h fun σ H Q hh_=>hh_.elim fun F ρ Qp er ⟨ps,e,q⟩ k=>⟨F,ρ,_,er,e,fun v F' H' g ro=>by
 obtain⟨a,vs,rfl,h0,hF,hH,rs⟩:=ro
 exact k ps a vs F' H' q g h0 hF hH rs⟩
theorem DE.ofE (h:fN X e te)(w:∀ρ r,f ρ=some r->∃p,r=.fz p/\te ρ (fun x=>x=p)):DE X e f:=PE.weak h fun σ H Q hh_=>hh_.elim fun F ρ r er e k=>by
 obtain⟨p,rfl,t⟩:=w ρ r e
 exact⟨F,ρ,_,er,t,fun q v F' H' hq g rr=>by subst hq;exact k v F' H' g rr⟩
theorem DE.ofN (h:xg X e tn)(w:∀ρ r,f ρ=some r->∃ps,r=.nw ps/\tn ρ (fun x=>x=ps)):DE X e f:=PE.weak h fun σ H Q hh_=>hh_.elim fun F ρ r er e k=>by
 obtain⟨p,rfl,t⟩:=w ρ r e
 exact⟨F,ρ,_,er,t,fun q a vs F' H' hq g h0 hF hH rr=>by subst hq;exact k _ F' H' g ⟨a,vs,rfl,h0,hF,hH,rr⟩⟩
theorem PE.or {t u:TE}(h:PE X e t)(h':PE X e u):PE X e (fun σ H Q=>t σ H Q\/u σ H Q):=fun pins s σ H Q I q=>q.elim (h pins s σ H Q I) (h' pins s σ H Q I)
theorem DE.of2 (hE:fN X e te)(hN:xg X e tn)(w:∀ρ r,f ρ=some r->(∃p,r=.fz p/\te ρ (fun x=>x=p))\/∃ps,r=.nw ps/\tn ρ (fun x=>x=ps)):DE X e f:=PE.weak (PE.or hE hN) fun σ H Q hh_=>hh_.elim fun F ρ r er e k=>by
 rcases w ρ r e with ⟨p,rfl,t⟩|⟨p,rfl,t⟩
 ·exact .inl ⟨F,ρ,_,er,t,fun q v F' H' hq g rr=>by subst hq;exact k v F' H' g rr⟩
 ·exact .inr ⟨F,ρ,_,er,t,fun q a vs F' H' hq g h0 hF hH rr=>by subst hq;exact k _ F' H' g ⟨a,vs,rfl,h0,hF,hH,rr⟩⟩
theorem kQ (h:fN X e t1)(h':fN X e t2):fN X e (fun ρ Q=>t1 ρ Q\/t2 ρ Q):=PE.weak (PE.or h h') fun σ H Q hh_=>hh_.elim fun F ρ Qp er q k=>q.elim (fun q=>.inl ⟨F,ρ,Qp,er,q,k⟩) fun q=>.inr ⟨F,ρ,Qp,er,q,k⟩
theorem BM (h:xg X e n1)(h':xg X e n2):xg X e (fun ρ Q=>n1 ρ Q\/n2 ρ Q):=PE.weak (PE.or h h') fun σ H Q hh_=>hh_.elim fun F ρ Qp er q k=>q.elim (fun q=>.inl ⟨F,ρ,Qp,er,q,k⟩) fun q=>.inr ⟨F,ρ,Qp,er,q,k⟩
noncomputable def sl (ρ:ak)(i:Nat):Option Sl:=(ρ[i]?).join
noncomputable def E2:Sl->RV
 |.val p=>.fz p
 |.own ps=>.ln (.lst ps)
 |.dic ks ps=>.ln (.dct ks ps)
noncomputable def fV (i:Nat):FE:=fun ρ=>(sl ρ i).map E2
theorem hR {ρ:ak}{s:Sl}(h:sl ρ i=some s):ρ[i]?=some (some s):=by
 unfold sl at h
 cases q:ρ[i]? with
 |none=>rw[q] at h;cases h
 |some o=>rw[q] at h;rw[show o=some s from h]
theorem Sb (h:PE X e (cR i)):DE X e (fV i):=PE.weak h fun σ H Q hh_=>hh_.elim fun F ρ r er e k=>by
 unfold fV at e
 obtain⟨s,es,rfl⟩:=Option.map_eq_some_iff.mp e
 have e1:=hR es
 obtain⟨v,ev,rd⟩:=er.rd e1
 refine⟨v,ev,k v F H (.refl er.fz) ?_⟩
 cases s with
 |val p=>
  have:=er.sl i _ e1
  rw[ev] at this
  exact this
 |own ps=>exact rd
 |dic ks ps=>exact rd
noncomputable def fC (p:PV):FE:=fun _=>some (.fz p)
theorem Hw {p:PV}(h:fN X e (pC p)):DE X e (fC p):=.ofE h fun ρ r e=>by cases e;exact⟨p,rfl,rfl⟩
theorem Nk {i:Int}{j}:DE X (.Constant (.int i) j pos) (fC (.int i)):=Hw Mi
theorem QR {i:Bool}{j}:DE X (.Constant (.bool i) j pos) (fC (.bl i)):=Hw Py
theorem Pr {j}:DE X (.Constant .none j pos) (fC .non):=Hw IW
theorem M8 {x:Str}{j}:DE X (.Constant (.str x) j pos) (fC (.str x)):=Hw Lh
noncomputable def ah (g:PV->PV->Option RV)(a b:FE):FE:=fun ρ=>(a ρ).bind fun x=>(b ρ).bind fun y=>g x.pv y.pv
theorem u5 {α β γ:Type}{a:Option α}{b:Option β}{g:α->β->Option γ}{r:γ}(h:(a.bind fun x=>b.bind fun y=>g x y)=some r):∃x y,a=some x/\b=some y/\g x y=some r:=by
 obtain⟨x,e1,h⟩:=Option.bind_eq_some_iff.mp h
 obtain⟨y,e2,h⟩:=Option.bind_eq_some_iff.mp h
 exact⟨x,y,e1,e2,h⟩
theorem sk {g:PV->PV->Option RV}{gE:jm}(h:fN X e (t9 gE (tT fa) (tT fb)))(w:∀x y r,g x y=some r->∃p,r=.fz p/\gE x y (fun z=>z=p)):DE X e (ah g fa fb):=.ofE h fun ρ r e=>by
 obtain⟨x,y,e1,e2,e3⟩:=u5 e
 obtain⟨p,rfl,q⟩:=w _ _ r e3
 exact⟨p,rfl,x,e1,y,e2,q⟩
noncomputable def rI (f:Int->Int->PV):PV->PV->Option RV
 |.int i,.int j=>some (.fz (f i j))
 |_,_=>none
theorem Io {f:Int->Int->PV}:∀x y r,rI f x y=some r->∃p,r=.fz p/\Ew f x y (fun z=>z=p):=fun x y r h=>by
 unfold rI at h
 split at h
 ·cases h;exact⟨_,rfl,rfl⟩
 ·cases h
noncomputable def KN (C:Int->Int->Prop)[∀i j,Decidable (C i j)](f:Int->Int->PV):PV->PV->Option RV
 |.int i,.int j=>if C i j then some (.fz (f i j)) else none
 |_,_=>none
theorem pw {C D:Int->Int->Prop}[∀i j,Decidable (C i j)]{f:Int->Int->PV}(hc:∀i j,C i j->D i j):∀x y r,KN C f x y=some r->∃p,r=.fz p/\Pu.gI D f x y (fun z=>z=p):=fun x y r h=>by
 unfold KN at h
 split at h
 ·split at h
  ·cases h;exact⟨_,rfl,hc _ _ (by assumption),rfl⟩
  ·cases h
 ·cases h
end
end Dp
end
section
namespace Dp
open PySem PySem.Spec L2 Pu
theorem Hi {n:Nat}(h:n≤100000):n≤sizeLine:=Nat.le_trans h (by decide)
theorem RI {n:Nat}(h:n≤100000):n<sizeLine:=Nat.lt_of_le_of_lt h (by decide)
section
variable {X:Cx}{e a b c:Expr}{es cC:List Expr}{pos:Pos}{f fa fb fc:FE}{fs:FA}{i:Nat}{ba bb:FB}
noncomputable def bO:PV->PV->Option RV
 |.int i,.int j=>some (.fz (.int (i+j)))
 |.lst ps,.lst qs=>if ps.length+qs.length≤100000 then some (.nw (ps++qs)) else none
 |.tup ps,.tup qs=>if ps.length+qs.length≤100000 then some (.fz (.tup (ps++qs))) else none
 |.str x,.str y=>if x.length+y.length≤100000 then some (.fz (.str (x++y))) else none
 |_,_=>none
noncomputable def HS:jm:=fun x y Q=>match x,y with
 |.str x,.str y=>x.length+y.length≤sizeLine/\Q (.str (x++y))
 |_,_=>False
theorem EI:fH X.K (fun x y H Q=>∃i j,x=.str i/\y=.str j/\i.length+j.length≤sizeLine/\Q (.str (i++j)) H) HS:=fun F H x y p q Qp Q s rx ry h k=>by
 unfold HS at h
 split at h
 ·cases rx with
  |frz rx=>cases ry with
   |frz ry=>exact⟨_,_,rx,ry,h.1,k _ _ F H h.2 (.refl s) rfl⟩
 ·exact h.elim
theorem Po (ha:DE X a fa)(hb:DE X b fb):DE X (.BinOp a .Add b pos) (ah bO fa fb):=
 .of2 (kQ (K9 ha.tt hb.tt) (kQ (FJ ha.tt hb.tt) (kQ (jb xi EI ha.tt hb.tt) (Di ha.tt hb.tt)))) (Li ha.tt hb.tt) fun ρ r e=>by
  obtain⟨x,y,e1,e2,e3⟩:=u5 e
  unfold bO at e3
  split at e3
  ·next p q=>cases e3;exact .inl ⟨_,rfl,.inl ⟨x,e1,y,e2,by rw[p,q];rfl⟩⟩
  ·next ps qs p q=>
   split at e3
   ·cases e3;exact .inr ⟨_,rfl,x,e1,y,e2,by rw[p,q];exact⟨Hi (by assumption),rfl⟩⟩
   ·cases e3
  ·next ps qs p q=>
   split at e3
   ·next h=>
    cases e3
    by_cases z:ps=[]
    ·exact .inl ⟨_,rfl,.inr (.inr (.inr ⟨x,e1,y,e2,by rw[p,q];exact⟨z,by rw[z,List.nil_append]⟩⟩))⟩
    ·exact .inl ⟨_,rfl,.inr (.inl ⟨x,e1,y,e2,by rw[p,q];exact⟨z,Hi h,rfl⟩⟩)⟩
   ·cases e3
  ·next u v p q=>
   split at e3
   ·cases e3;exact .inl ⟨_,rfl,.inr (.inr (.inl ⟨x,e1,y,e2,by rw[p,q];exact⟨Hi (by assumption),rfl⟩⟩))⟩
   ·cases e3
  ·cases e3
noncomputable def sr:PV->PV->Option RV:=rI fun i j=>.int (i - j)
theorem Pp (ha:DE X a fa)(hb:DE X b fb):DE X (.BinOp a .Sub b pos) (ah sr fa fb):=sk (J6 ha.tt hb.tt) Io
noncomputable def gB:PV->PV->Option RV
 |.int i,.int j=>if (i.natAbs<2 ^ 64)\/(j.natAbs<2 ^ 64) then some (.fz (.int (i * j))) else none
 |.lst ps,.int j=>if j≤1000/\-1000≤j/\ps.length≤100 then some (.nw (List.replicate j.toNat ps).flatten) else none
 |.tup ps,.int j=>if ps.isEmpty=false/\1≤j/\j≤1000/\ps.length≤1000 then some (.fz (.tup (List.replicate j.toNat ps).flatten)) else none
 |_,_=>none
theorem Np (ha:DE X a fa)(hb:DE X b fb):DE X (.BinOp a .Mult b pos) (ah gB fa fb):=
 .of2 (kQ (K8 ha.tt hb.tt) (G4 ha.tt hb.tt)) (Kf ha.tt hb.tt) fun ρ r e=>by
  obtain⟨x,y,e1,e2,e3⟩:=u5 e
  unfold gB at e3
  split at e3
  ·next i j p q=>
   split at e3
   ·next h=>
    cases e3
    refine .inl ⟨_,rfl,.inl ⟨x,e1,y,e2,?_⟩⟩
    rw[p,q]
    refine⟨?_,rfl⟩
    show CMul i j
    unfold CMul
    rcases h with h|h
    ·exact .inl (by omega)
    ·exact .inr (by omega)
   ·cases e3
  ·next ps j p q=>
   split at e3
   ·next h=>
    cases e3
    refine .inr ⟨_,rfl,x,e1,y,e2,?_⟩
    rw[p,q]
    refine⟨by omega,by omega,?_,rfl⟩
    refine Hi ?_
    have h1:j.toNat≤1000:=by omega
    exact Nat.le_trans (Nat.mul_le_mul h.2.2 h1) (by decide)
   ·cases e3
  ·next ps j p q=>
   split at e3
   ·next h=>cases e3;exact .inl ⟨_,rfl,.inr ⟨x,e1,y,e2,by rw[p,q];exact⟨by intro z;subst z;exact absurd h.1 (by decide),h.2.1,h.2.2.1,h.2.2.2,rfl⟩⟩⟩
   ·cases e3
  ·cases e3
noncomputable def jS:PV->PV->Option RV:=KN (fun _ j=>0<j/\j<1073741824) fun i j=>.int (i / j)
theorem NX (ha:DE X a fa)(hb:DE X b fb):DE X (.BinOp a .FloorDiv b pos) (ah jS fa fb):=sk (JW ha.tt hb.tt) (pw fun _ _ h=>h)
noncomputable def bn:PV->PV->Option RV:=KN (fun _ j=>0<j) fun i j=>.int (i % j)
theorem Oe (ha:DE X a fa)(hb:DE X b fb):DE X (.BinOp a .Mod b pos) (ah bn fa fb):=sk (Ld ha.tt hb.tt) (pw fun _ _ h=>h)
noncomputable def FH:PV->PV->Option RV:=KN (fun i j=>0≤j/\j≤1000000/\i.natAbs<2 ^ 64) fun i j=>.int (i ^ j.toNat)
theorem MF (ha:DE X a fa)(hb:DE X b fb):DE X (.BinOp a .Pow b pos) (ah FH fa fb):=sk (Jf ha.tt hb.tt) (pw fun _ _ h=>h)
noncomputable def ON:PV->PV->Option RV:=KN (fun _ j=>0≤j) fun i j=>.int (i / 2 ^ j.toNat)
theorem Ng (ha:DE X a fa)(hb:DE X b fb):DE X (.BinOp a .RShift b pos) (ah ON fa fb):=sk (JP ha.tt hb.tt) (pw fun _ _ h=>h)
noncomputable def Ow:PV->PV->Option RV:=KN (fun i j=>0≤j/\j≤1000000/\i.natAbs<2 ^ 64) fun i j=>.int (i * 2 ^ j.toNat)
theorem OE (ha:DE X a fa)(hb:DE X b fb):DE X (.BinOp a .LShift b pos) (ah Ow fa fb):=sk (jb Kv (mP (f:=fun i j=>.int (i * 2 ^ j.toNat))) ha.tt hb.tt) (pw fun _ _ h=>h)
noncomputable def HA:PV->PV->Option RV:=rI fun i j=>.int (Builtin.bitAnd i j)
theorem LL (ha:DE X a fa)(hb:DE X b fb):DE X (.BinOp a .BitAnd b pos) (ah HA fa fb):=sk (E7 ha.tt hb.tt) Io
structure CmpR (X:Cx)(op:CmpOp)(g:PV->PV->Option RV):Prop where
 ok:∃(r:R2) (gE:jm),iD X (compareOp op) r/\fH X.K r gE/\∀x y r,g x y=some r->∃p,r=.fz (.bl p)/\∀Q:PV->Prop,Q (.bl p)->gE x y Q
theorem Sr {g:PV->PV->Option RV}{gE:jm}(h:∀x y r,g x y=some r->∃p,r=.fz (.bl p)/\∀Q:PV->Prop,Q (.bl p)->gE x y Q):∀x y r,g x y=some r->∃p,r=.fz p/\gE x y (fun z=>z=p):=fun x y r e=>by
 obtain⟨p,e1,e2⟩:=h x y r e;exact⟨_,e1,e2 _ rfl⟩
theorem Om {op:CmpOp}{g:PV->PV->Option RV}(hc:CmpR X op g)(ha:DE X a fa)(hb:DE X b fb)(hm:behindInMarks op b=false):DE X (.Compare a [op] [b] pos) (ah g fa fb):=by
 obtain⟨r,gE,h1,h2,h3⟩:=hc.ok
 exact sk (Kd h1 h2 ha.tt hb.tt hm) (Sr h3)
noncomputable def MD (f:Int->Int->Bool):PV->PV->Option RV
 |.int i,.int j=>some (.fz (.bl (f i j)))
 |_,_=>none
theorem t6 {f:Int->Int->Bool}:∀x y r,MD f x y=some r->∃p,r=.fz (.bl p)/\∀Q:PV->Prop,Q (.bl p)->Ew (fun i j=>.bl (f i j)) x y Q:=fun x y r h=>by
 unfold MD at h
 split at h
 ·cases h;exact⟨_,rfl,fun _ q=>q⟩
 ·cases h
noncomputable def HU:PV->PV->Option RV:=MD fun i j=>decide (i<j)
noncomputable def Lv:PV->PV->Option RV:=MD fun i j=>decide (i≤j)
noncomputable def A9:PV->PV->Option RV:=MD fun i j=>decide (j<i)
noncomputable def Nh:PV->PV->Option RV:=MD fun i j=>decide (j≤i)
theorem Rf:CmpR X .Lt HU:=⟨_,_,Pl,OL,t6⟩
theorem Q2:CmpR X .LtE Lv:=⟨_,_,NV,ND,t6⟩
theorem Q1:CmpR X .Gt A9:=⟨_,_,O5,Pw,t6⟩
theorem Q7:CmpR X .GtE Nh:=⟨_,_,Pi,MT,t6⟩
noncomputable def eD (x y:PV):Option RV:=if plain x&&plain y&&decide (lv x≤50) then some (.fz (.bl (iQ x y))) else none
noncomputable def iW (x y:PV):Option RV:=if plain x&&plain y&&decide (lv x≤50) then some (.fz (.bl (!iQ x y))) else none
theorem Q9 (hu:X.A.units+64<cLine):CmpR X .Eq eD:=⟨_,_,KT hu,OG,fun x y r h=>by
 unfold eD at h
 split at h
 ·next q=>cases h;rw[Bool.and_eq_true,Bool.and_eq_true,decide_eq_true_eq] at q;exact⟨_,rfl,fun _ z=>⟨q.1.1,q.1.2,q.2,z⟩⟩
 ·cases h⟩
theorem Rb (hu:X.A.units+64<cLine):CmpR X .NotEq iW:=⟨_,_,Ml hu,Ou,fun x y r h=>by
 unfold iW at h
 split at h
 ·next q=>cases h;rw[Bool.and_eq_true,Bool.and_eq_true,decide_eq_true_eq] at q;exact⟨_,rfl,fun _ z=>⟨q.1.1,q.1.2,q.2,z⟩⟩
 ·cases h⟩
noncomputable def E4 (x y:PV):Option RV:=match items y with
 |some ps=>if plain x&&aw ps&&decide (ck ps≤50) then some (.fz (.bl (pin x ps))) else none
 |none=>none
noncomputable def oq (x y:PV):Option RV:=match items y with
 |some ps=>if plain x&&aw ps&&decide (ck ps≤50) then some (.fz (.bl (!pin x ps))) else none
 |none=>none
theorem QC (hu:X.A.units+64<cLine):CmpR X .In E4:=⟨_,_,Ky hu,N0,fun x y r h=>by
 unfold E4 at h
 split at h
 ·next ps e=>
  split at h
  ·next q=>cases h;rw[Bool.and_eq_true,Bool.and_eq_true,decide_eq_true_eq] at q;refine⟨_,rfl,fun _ z=>?_⟩;unfold Sg OkS;rw[e];exact⟨q.1.1,q.1.2,q.2,z⟩
  ·cases h
 ·cases h⟩
theorem GY (hu:X.A.units+64<cLine):CmpR X .NotIn oq:=⟨_,_,zO hu,Do,fun x y r h=>by
 unfold oq at h
 split at h
 ·next ps e=>
  split at h
  ·next q=>cases h;rw[Bool.and_eq_true,Bool.and_eq_true,decide_eq_true_eq] at q;refine⟨_,rfl,fun _ z=>?_⟩;unfold CG OkS;rw[e];exact⟨q.1.1,q.1.2,q.2,z⟩
  ·cases h
 ·cases h⟩
noncomputable def QK (x y:PV):Option RV:=match y with
 |.non=>some (.fz (.bl (jY x)))
 |_=>none
noncomputable def we (x y:PV):Option RV:=match y with
 |.non=>some (.fz (.bl (!jY x)))
 |_=>none
theorem Ro:CmpR X .Is QK:=⟨_,_,Lj,Ln,fun x y r h=>by
 unfold QK at h
 split at h
 ·cases h;exact⟨_,rfl,fun _ q=>q⟩
 ·cases h⟩
theorem ED:CmpR X .IsNot we:=⟨_,_,E1,EN,fun x y r h=>by
 unfold we at h
 split at h
 ·cases h;exact⟨_,rfl,fun _ q=>q⟩
 ·cases h⟩
noncomputable def DB (X:Cx)(e:Expr)(g:FB):Prop:=PuB X e (AJ g)
noncomputable def DW (X:Cx)(e:Expr)(g:FB):Prop:=PuW X e (AJ g)
noncomputable def AI:Option RV->Option Bool
 |some (.fz (.bl b))=>some b
 |_=>none
noncomputable def fT (f:FE):FB:=fun ρ=>AI (f ρ)
theorem fM {o:Option RV}{b:Bool}(h:AI o=some b):o=some (.fz (.bl b)):=by
 unfold AI at h
 split at h
 ·cases h;rfl
 ·cases h
theorem PuB.weak {t t':lc}(h:PuB X e t)(w:∀ρ Q,t' ρ Q->t ρ Q):PuB X e t':=PT.weak h fun σ H Q hh_=>hh_.elim fun F ρ Qp er q k=>⟨F,ρ,Qp,er,w ρ Qp q,k⟩
theorem PuW.weak {t t':lc}(h:PuW X e t)(w:∀ρ Q,t' ρ Q->t ρ Q):PuW X e t':=PW.weak h fun σ H Q hh_=>hh_.elim fun F ρ Qp er q k=>⟨F,ρ,Qp,er,w ρ Qp q,k⟩
theorem NW {op:CmpOp}{g:PV->PV->Option RV}(hc:CmpR X op g)(ha:DE X a fa)(hb:DE X b fb)(hm:behindInMarks op b=false):DB X (.Compare a [op] [b] pos) (fT (ah g fa fb)):=by
 obtain⟨r,gE,h1,h2,h3⟩:=hc.ok
 refine PuB.weak (Ex h1 h2 ha.tt hb.tt hm) fun ρ Q ⟨z,e,q⟩=>?_
 obtain⟨x,y,e1,e2,e3⟩:=u5 (fM e)
 obtain⟨p,e4,q4⟩:=h3 _ _ _ e3
 cases e4
 exact⟨x,e1,y,e2,q4 _ q⟩
theorem OD (h:DE X e f)(hv:∀whole,isTrue e X.env whole=(do let v ←whole;standAt e.pos;holding [v] (truthy v)):=by intro _;rfl):DB X e (fT f):=PuB.weak (Hm (KA h.ee hv)) fun ρ Q ⟨b,e,q⟩=>⟨_,_,fM e,rfl,q⟩
noncomputable def kM (g:FB):FB:=fun ρ=>(g ρ).map fun b=>!b
theorem Oj (h:DB X a ba):DB X (.UnaryOp .Not a pos) (kM ba):=PuB.weak (EM h) fun ρ Q ⟨b,e,q⟩=>by
 obtain⟨b',e1,rfl⟩:=Option.map_eq_some_iff.mp e
 exact⟨b',e1,q⟩
noncomputable def ip (g k:FB):FB:=fun ρ=>(g ρ).bind fun b=>if b=true then k ρ else some false
noncomputable def o4 (g k:FB):FB:=fun ρ=>(g ρ).bind fun b=>if b=true then some true else k ρ
theorem JF (h:DB X a ba):DW X (.BoolOp .And [a] pos) ba:=B4 h
theorem NQ (h:DB X a ba):DW X (.BoolOp .Or [a] pos) ba:=GU h
theorem Pv (ha:DB X a ba)(hb:DW X (.BoolOp .And (b::cC) pos) bb):DW X (.BoolOp .And (a::b::cC) pos) (ip ba bb):=PuW.weak (FY ha hb) fun ρ Q ⟨z,e,q⟩=>by
 obtain⟨x,e1,e2⟩:=Option.bind_eq_some_iff.mp e
 refine⟨x,e1,?_⟩
 cases x with
 |true=>exact⟨z,e2,q⟩
 |false=>cases e2;exact q
theorem QP (ha:DB X a ba)(hb:DW X (.BoolOp .Or (b::cC) pos) bb):DW X (.BoolOp .Or (a::b::cC) pos) (o4 ba bb):=PuW.weak (KL ha hb) fun ρ Q ⟨z,e,q⟩=>by
 obtain⟨x,e1,e2⟩:=Option.bind_eq_some_iff.mp e
 refine⟨x,e1,?_⟩
 cases x with
 |true=>cases e2;exact q
 |false=>exact⟨z,e2,q⟩
theorem SA (h:DW X e ba):DB X e ba:=NP h
noncomputable def wq (f:FE):FE:=fun ρ=>(f ρ).bind fun r=>r.fr.map .fz
noncomputable def oZ (f g:FE):FE:=fun ρ=>(AI (f ρ)).bind fun b=>if b=true then wq g ρ else some (.fz (.bl false))
noncomputable def MP (f g:FE):FE:=fun ρ=>(AI (f ρ)).bind fun b=>if b=true then some (.fz (.bl true)) else wq g ρ
theorem jW {ρ:ak}{r:RV}(h:wq f ρ=some r):∃p,r=.fz p/\tF f ρ (fun x=>x=p):=by
 obtain⟨r',e1,e2⟩:=Option.bind_eq_some_iff.mp h
 obtain⟨p,e3,rfl⟩:=Option.map_eq_some_iff.mp e2
 exact⟨p,rfl,r',p,e1,e3,rfl⟩
theorem M2 {op}(h:DE X a f):DE X (.BoolOp op [a] pos) (wq f):=.ofE (Mg h.ee) fun ρ r e=>jW e
theorem M6 (ha:DE X a fa)(hb:DE X (.BoolOp .And (b::cC) pos) fb):DE X (.BoolOp .And (a::b::cC) pos) (oZ fa fb):=.ofE (Lb ha.ee hb.ee) fun ρ r e=>by
 obtain⟨x,e1,e2⟩:=Option.bind_eq_some_iff.mp e
 cases x with
 |true=>
  rw[if_pos rfl] at e2
  obtain⟨p,e3,q⟩:=jW e2
  refine⟨p,e3,_,_,fM e1,rfl,?_⟩
  exact q
 |false=>
  rw[if_neg Bool.false_ne_true] at e2
  cases e2
  exact⟨_,rfl,_,_,fM e1,rfl,rfl⟩
theorem P5 (ha:DE X a fa)(hb:DE X (.BoolOp .Or (b::cC) pos) fb):DE X (.BoolOp .Or (a::b::cC) pos) (MP fa fb):=.ofE (Px ha.ee hb.ee) fun ρ r e=>by
 obtain⟨x,e1,e2⟩:=Option.bind_eq_some_iff.mp e
 cases x with
 |false=>
  rw[if_neg Bool.false_ne_true] at e2
  obtain⟨p,e3,q⟩:=jW e2
  refine⟨p,e3,_,_,fM e1,rfl,?_⟩
  exact q
 |true=>
  rw[if_pos rfl] at e2
  cases e2
  exact⟨_,rfl,_,_,fM e1,rfl,rfl⟩
noncomputable def xP (f:FE):FE:=fun ρ=>(AI (f ρ)).map fun b=>.fz (.bl (!b))
theorem Ol (ha:DE X a fa):DE X (.UnaryOp .Not a pos) (xP fa):=.ofE (Mk ha.ee) fun ρ r e=>by
 obtain⟨b,e1,rfl⟩:=Option.map_eq_some_iff.mp e
 exact⟨_,rfl,_,_,fM e1,rfl,rfl⟩
noncomputable def mT (f:FE):FE:=fun ρ=>(f ρ).bind fun r=>match r.fr with
 |some (.int i)=>some (.fz (.int (-i)))
 |_=>none
theorem Ov (ha:DE X a fa):DE X (.UnaryOp .USub a pos) (mT fa):=.ofE (LP ha.ee) fun ρ r e=>by
 obtain⟨x,e1,e2⟩:=Option.bind_eq_some_iff.mp e
 split at e2
 ·next i e3=>cases e2;exact⟨_,rfl,x,_,e1,e3,rfl⟩
 ·cases e2
noncomputable def MX (g:FB)(f k:FE):FE:=fun ρ=>(g ρ).bind fun b=>if b=true then wq f ρ else wq k ρ
theorem Q6 (hc:DB X c ba)(ha:DE X a fa)(hb:DE X b fb):DE X (.IfExp c a b pos) (MX ba fa fb):=.ofE (JG hc ha.ee hb.ee) fun ρ r e=>by
 obtain⟨x,e1,e2⟩:=Option.bind_eq_some_iff.mp e
 cases x with
 |true=>
  rw[if_pos rfl] at e2
  obtain⟨p,e3,q⟩:=jW e2
  exact⟨p,e3,true,e1,q⟩
 |false=>
  rw[if_neg Bool.false_ne_true] at e2
  obtain⟨p,e3,q⟩:=jW e2
  exact⟨p,e3,false,e1,q⟩
noncomputable def Gy (g g':PV->PV->Option RV)(a b c:FE):FE:=fun ρ=>(a ρ).bind fun x=>(b ρ).bind fun y=>(AI (g x.pv y.pv)).bind fun k=>if k=true then (c ρ).bind fun z=>g' y.pv z.pv else some (.fz (.bl false))
theorem HP {g g':PV->PV->Option RV}{gE gE':jm}(h:∀x y r,g x y=some r->∃p,r=.fz (.bl p)/\∀Q:PV->Prop,Q (.bl p)->gE x y Q)(h':∀x y r,g' x y=some r->∃p,r=.fz (.bl p)/\∀Q:PV->Prop,Q (.bl p)->gE' x y Q){ρ:ak}{r:RV}(e:Gy g g' fa fb fc ρ=some r) :
  ∃p,r=.fz (.bl p)/\∀Q:PV->Prop,Q (.bl p)->rX gE gE' (tT fa) (tT fb) (tT fc) ρ Q:=by
 obtain⟨x,y,e1,e2,e3⟩:=u5 e
 obtain⟨k,e4,e5⟩:=Option.bind_eq_some_iff.mp e3
 obtain⟨p,e6,q6⟩:=h _ _ _ (fM e4)
 cases e6
 cases k with
 |true=>
  rw[if_pos rfl] at e5
  obtain⟨z,e7,e8⟩:=Option.bind_eq_some_iff.mp e5
  obtain⟨p,e9,q9⟩:=h' _ _ _ e8
  refine⟨p,e9,fun Q q=>⟨x,e1,y,e2,q6 _ ?_⟩⟩
  exact⟨z,e7,q9 _ q⟩
 |false=>
  rw[if_neg Bool.false_ne_true] at e5
  cases e5
  exact⟨_,rfl,fun Q q=>⟨x,e1,y,e2,q6 _ q⟩⟩
theorem Rx {op op':CmpOp}{g g':PV->PV->Option RV}(h:CmpR X op g)(h':CmpR X op' g')(ha:DE X a fa)(hb:DE X b fb)(hc:DE X c fc)(hm:lastMarks [op,op'] [b,c]=false:=by rfl):DE X (.Compare a [op,op'] [b,c] pos) (Gy g g' fa fb fc):=by
 obtain⟨r,gE,h1,h2,h3⟩:=h.ok
 obtain⟨r',gE',h1',h2',h3'⟩:=h'.ok
 refine .ofE (CK h1 h2 h1' h2' ha.tt hb.tt hc.tt hm) fun ρ r e=>?_
 obtain⟨p,e1,q⟩:=HP h3 h3' e
 exact⟨_,e1,q _ rfl⟩
theorem Rp {op op':CmpOp}{g g':PV->PV->Option RV}(h:CmpR X op g)(h':CmpR X op' g')(ha:DE X a fa)(hb:DE X b fb)(hc:DE X c fc)(hm:lastMarks [op,op'] [b,c]=false:=by rfl):DB X (.Compare a [op,op'] [b,c] pos) (fT (Gy g g' fa fb fc)):=by
 obtain⟨r,gE,h1,h2,h3⟩:=h.ok
 obtain⟨r',gE',h1',h2',h3'⟩:=h'.ok
 refine PuB.weak (zR h1 h2 h1' h2' ha.tt hb.tt hc.tt hm) fun ρ Q ⟨z,e,q⟩=>?_
 obtain⟨p,e1,q1⟩:=HP h3 h3' (fM e)
 cases e1
 exact q1 _ q
structure DA (X:Cx)(es:List Expr)(fs:FA):Prop where
 f:IQ X es (LF fs)
 t:Af X es (Ev fs)
noncomputable def ae:FA:=fun _=>some []
noncomputable def aa (f:FE)(fs:FA):FA:=fun ρ=>(f ρ).bind fun r=>(fs ρ).bind fun rs=>some (r::rs)
theorem vB {t t':jn}(h:IQ X es t)(w:∀ρ Q,t' ρ Q->t ρ Q):IQ X es t':=PA.weak h fun σ H Q hh_=>hh_.elim fun F ρ Qp er q k=>⟨F,ρ,Qp,er,w ρ Qp q,k⟩
theorem qX {t t':jn}(h:Af X es t)(w:∀ρ Q,t' ρ Q->t ρ Q):Af X es t':=PA.weak h fun σ H Q hh_=>hh_.elim fun F ρ Qp er q k=>⟨F,ρ,Qp,er,w ρ Qp q,k⟩
theorem mapM_cons {r:RV}{rs:List RV}{ps:List PV}(h:(r::rs).mapM RV.fr=some ps):∃p qs,r.fr=some p/\rs.mapM RV.fr=some qs/\ps=p::qs:=by
 rw[List.mapM_cons] at h
 obtain⟨p,e1,h⟩:=Option.bind_eq_some_iff.mp h
 obtain⟨qs,e2,h⟩:=Option.bind_eq_some_iff.mp h
 cases h
 exact⟨p,qs,e1,e2,rfl⟩
theorem OO:DA X [] ae:=⟨vB EC fun ρ Q ⟨rs,ps,e,e2,q⟩=>by cases e;cases e2;exact q,qX Cm fun ρ Q ⟨rs,e,q⟩=>by cases e;exact q⟩
theorem Jj (hn:NS e)(he:DE X e f)(ht:DA X es fs):DA X (e::es) (aa f fs):=by
 constructor
 ·refine vB (BW hn he.ee ht.f) fun ρ Q ⟨rs,ps,e1,e2,q⟩=>?_
  obtain⟨r,e3,e1⟩:=Option.bind_eq_some_iff.mp e1
  obtain⟨rs',e4,e1⟩:=Option.bind_eq_some_iff.mp e1
  cases e1
  obtain⟨p,qs,e5,e6,rfl⟩:=mapM_cons e2
  exact⟨r,p,e3,e5,rs',qs,e4,e6,q⟩
 ·refine qX (Al hn he.tt ht.t) fun ρ Q ⟨rs,e1,q⟩=>?_
  obtain⟨r,e3,e1⟩:=Option.bind_eq_some_iff.mp e1
  obtain⟨rs',e4,e1⟩:=Option.bind_eq_some_iff.mp e1
  cases e1
  exact⟨r,e3,rs',e4,q⟩
noncomputable def eA (fs:FA):FE:=fun ρ=>(fs ρ).bind fun rs=>(rs.mapM RV.fr).bind fun ps=>if ps.length≤100000 then some (.fz (.tup ps)) else none
noncomputable def gP (fs:FA):FE:=fun ρ=>(fs ρ).bind fun rs=>(rs.mapM RV.fr).bind fun ps=>if ps.length≤100000 then some (.nw ps) else none
theorem Pf {x1}(h:DA X es fs):DE X (.Tuple es x1 pos) (eA fs):=.ofE (Jk h.f) fun ρ r e=>by
 obtain⟨rs,e1,e⟩:=Option.bind_eq_some_iff.mp e
 obtain⟨ps,e2,e⟩:=Option.bind_eq_some_iff.mp e
 split at e
 ·next z=>cases e;exact⟨_,rfl,rs,ps,e1,e2,Hi z,rfl⟩
 ·cases e
theorem MS (h:DA X es fs):DE X (.List es pos) (gP fs):=.ofN (JV h.f) fun ρ r e=>by
 obtain⟨rs,e1,e⟩:=Option.bind_eq_some_iff.mp e
 obtain⟨ps,e2,e⟩:=Option.bind_eq_some_iff.mp e
 split at e
 ·next z=>cases e;exact⟨_,rfl,rs,ps,e1,e2,Hi z,rfl⟩
 ·cases e
noncomputable def aN:PV->PV->Option RV
 |.str z,.int i=>if z.length≤100000 then (L2.atI z.cps.toList i).map fun c=>.fz (.str ⟨#[c]⟩) else none
 |p,.int i=>(items p).bind fun ps=>(L2.atI ps i).map .fz
 |_,_=>none
theorem Jn:∀x y r,aN x y=some r->∃p,r=.fz p/\QA x y (fun z=>z=p):=fun x y r h=>by
 unfold aN at h
 split at h
 ·split at h
  ·next z=>
   obtain⟨c,e1,rfl⟩:=Option.map_eq_some_iff.mp h
   refine⟨_,rfl,Hi z,?_⟩
   rw[e1];exact rfl
  ·cases h
 ·next hn=>
  obtain⟨ps,e1,h⟩:=Option.bind_eq_some_iff.mp h
  obtain⟨p,e2,rfl⟩:=Option.map_eq_some_iff.mp h
  refine⟨p,rfl,?_⟩
  have:∀i:Int,L2.atI ps i=some p->OkS x fun ps=>OkO (L2.atI ps i) fun z=>z=p:=fun i ei=>by
   unfold OkS;rw[e1];show OkO (L2.atI ps i) _;rw[ei];exact rfl
  show OkI (.int _) _
  cases x<;>first|exact this _ e2|(cases e1)
 ·cases h
theorem Qq (ha:DE X a fa)(hb:DE X b fb)(hs:kj b):DE X (.Subscript a b pos) (ah aN fa fb):=sk (IT ha.tt hb.tt hs) Jn
noncomputable abbrev FO:=ak->Option (Option Int)
noncomputable def tO (f:FO):zD:=fun ρ Q=>∃o,f ρ=some o/\Q o
noncomputable def DO (X:Cx)(e:Option Expr)(f:FO):Prop:=Ea X e (tO f)
noncomputable def GF:FO:=fun _=>some none
noncomputable def Gn (f:FE):FO:=fun ρ=>(f ρ).bind fun r=>match r.fr with
 |some (.int i)=>some (some i)
 |_=>none
theorem vD {o:Option Expr}{t t':zD}(h:Ea X o t)(w:∀ρ Q,t' ρ Q->t ρ Q):Ea X o t':=PO.weak h fun σ H Q hh_=>hh_.elim fun F ρ Qp er q k=>⟨F,ρ,Qp,er,w ρ Qp q,k⟩
theorem P8:DO X none GF:=vD CZ fun ρ Q ⟨o,e,q⟩=>by cases e;exact q
theorem Rh (h:DE X e f):DO X (some e) (Gn f):=vD (AV h.ee) fun ρ Q ⟨o,e,q⟩=>by
 obtain⟨r,e1,e2⟩:=Option.bind_eq_some_iff.mp e
 split at e2
 ·next i e3=>cases e2;exact⟨r,_,e1,e3,q⟩
 ·cases e2
noncomputable def Hv (p:PV)(l h:Option Int):Option RV:=match p with
 |.lst ps=>some (.nw (cut ps l h))
 |.src ps=>some (.nw (cut ps l h))
 |.tup ps=>if HT.sIx ps.length 0 l=0/\HT.sIx ps.length ps.length h=ps.length then none else some (.fz (.tup (cut ps l h)))
 |_=>none
noncomputable def Es (f:FE)(l h:FO):FE:=fun ρ=>(f ρ).bind fun r=>(l ρ).bind fun lo=>(h ρ).bind fun hi=>Hv r.pv lo hi
theorem P9 {lo hi:Option Expr}{fl fh:FO}{p2:Pos}(ha:DE X a fa)(hl:DO X lo fl)(hh:DO X hi fh):DE X (.Subscript a (.Slice lo hi none p2) pos) (Es fa fl fh):=.of2 (Cl ha.tt hl hh) (LM ha.tt hl hh) fun ρ r e=>by
 obtain⟨x,e1,e⟩:=Option.bind_eq_some_iff.mp e
 obtain⟨l,e2,e⟩:=Option.bind_eq_some_iff.mp e
 obtain⟨h,e3,e⟩:=Option.bind_eq_some_iff.mp e
 unfold Hv at e
 split at e
 ·next ps q=>cases e;exact .inr ⟨_,rfl,x,e1,l,e2,h,e3,by rw[q];exact rfl⟩
 ·next ps q=>cases e;exact .inr ⟨_,rfl,x,e1,l,e2,h,e3,by rw[q];exact rfl⟩
 ·next ps q=>
  split at e
  ·cases e
  ·next z=>cases e;exact .inl ⟨_,rfl,x,e1,l,e2,h,e3,by rw[q];exact⟨z,rfl⟩⟩
 ·cases e
end
end Dp
end
section
namespace Dp
open PySem PySem.Spec L2 Pu
section
variable {X:Cx}{e a b c tg iter:Expr}{es cC:List Expr}{pos:Pos}{f fa fb fc:FE}{fs:FA}{i:Nat}{ba bb:FB}
noncomputable def fB (g:List PV->Option RV)(fs:FA):FE:=fun ρ=>(fs ρ).bind fun rs=>g (rs.map RV.pv)
theorem mm {r:List V->Hp->VK->Prop}{g0:vo}{g:List PV->Option RV}(hr:kP X.K r g0)(w:∀ps r,g ps=some r->∃p,r=.fz p/\g0 ps (fun z=>z=p))(h:PE X e (km r (lAT X.K (Ev fs)))):DE X e (fB g fs):=.ofE (NK hr h) fun ρ r e=>by
 obtain⟨rs,e1,e2⟩:=Option.bind_eq_some_iff.mp e
 obtain⟨p,rfl,q⟩:=w _ _ e2
 exact⟨p,rfl,rs,e1,q⟩
theorem N8 {r:List V->Hp->VK->Prop}{g0:Im}{g:List PV->Option RV}(hr:zj X.K r g0)(w:∀ps r,g ps=some r->∃p,r=.nw p/\g0 ps (fun z=>z=p))(h:PE X e (km r (lAT X.K (Ev fs)))):DE X e (fB g fs):=.ofN (CY hr h) fun ρ r e=>by
 obtain⟨rs,e1,e2⟩:=Option.bind_eq_some_iff.mp e
 obtain⟨p,rfl,q⟩:=w _ _ e2
 exact⟨p,rfl,rs,e1,q⟩
noncomputable def gJ:List PV->Option RV
 |[.str z]=>if z.length≤100000 then some (.fz (.int z.length)) else none
 |[p]=>(items p).map fun ps=>.fz (.int ps.length)
 |_=>none
theorem Fb:∀ps r,gJ ps=some r->∃p,r=.fz p/\MI ps (fun z=>z=p):=fun ps r h=>by
 unfold gJ at h
 split at h
 ·split at h
  ·next z=>cases h;exact⟨_,rfl,Hi z,rfl⟩
  ·cases h
 ·next p hp=>
  obtain⟨qs,e1,rfl⟩:=Option.map_eq_some_iff.mp h
  refine⟨_,rfl,?_⟩
  have:OkS p fun ps=>PV.int ps.length=PV.int qs.length:=by unfold OkS;rw[e1]
  show One [p] _
  cases p<;>first|exact this|(cases e1)
 ·cases h
noncomputable def Bf:List PV->Option RV
 |[.int i]=>some (.fz (.int (if i<0 then -i else i)))
 |_=>none
theorem GM:∀ps r,Bf ps=some r->∃p,r=.fz p/\PB ps (fun z=>z=p):=fun ps r h=>by
 unfold Bf at h
 split at h
 ·cases h;exact⟨_,rfl,rfl⟩
 ·cases h
noncomputable def AW:List PV->Option RV
 |[.int i,.int j]=>some (.fz (.int (if j > i then j else i)))
 |_=>none
theorem DY:∀ps r,AW ps=some r->∃p,r=.fz p/\II ps (fun z=>z=p):=fun ps r h=>by
 unfold AW at h
 split at h
 ·cases h;exact⟨_,rfl,rfl⟩
 ·cases h
noncomputable def om:List PV->Option RV
 |[.int i,.int j]=>some (.fz (.int (if j<i then j else i)))
 |_=>none
theorem BP:∀ps r,om ps=some r->∃p,r=.fz p/\IA ps (fun z=>z=p):=fun ps r h=>by
 unfold om at h
 split at h
 ·cases h;exact⟨_,rfl,rfl⟩
 ·cases h
noncomputable def uD:List PV->Option RV
 |[.int i]=>some (.fz (.int i))
 |[.bl b]=>some (.fz (.int (if b then 1 else 0)))
 |_=>none
theorem Gv:∀ps r,uD ps=some r->∃p,r=.fz p/\OB ps (fun z=>z=p):=fun ps r h=>by
 unfold uD at h
 split at h
 ·cases h;exact⟨_,rfl,rfl⟩
 ·cases h;exact⟨_,rfl,rfl⟩
 ·cases h
noncomputable def Hl:List PV->Option (List Bool)
 |[]=>some []
 |.bl b::ps=>(Hl ps).map fun bs=>b::bs
 |_=>none
theorem C4:∀{ps:List PV} {bs:List Bool},Hl ps=some bs->ps=bs.map PV.bl:=fun {ps}=>by
 induction ps with
 |nil=>intro bs h;cases h;rfl
 |cons p ps ih=>
  intro bs h
  cases p<;>first|(cases h;done)|skip
  obtain⟨bs',e1,rfl⟩:=Option.map_eq_some_iff.mp h
  rw[ih e1];rfl
noncomputable def jU:PV->Option (List PV)
 |.lst ps=>some ps
 |.src ps=>some ps
 |_=>none
noncomputable def DG:List PV->Option RV
 |[p]=>(jU p).bind fun ps=>(Hl ps).map fun bs=>.fz (.bl (bs.all id))
 |_=>none
noncomputable def BJ:List PV->Option RV
 |[p]=>(jU p).bind fun ps=>(Hl ps).map fun bs=>.fz (.bl (bs.any id))
 |_=>none
theorem gD {p:PV}{ps:List PV}{Q:List PV->Prop}(h:jU p=some ps)(q:Q ps):OkL p Q:=by
 cases p<;>first|(cases h;done)|(cases h;exact q)
theorem EZ:∀ps r,DG ps=some r->∃p,r=.fz p/\NM ps (fun z=>z=p):=fun ps r h=>by
 unfold DG at h
 split at h
 ·obtain⟨qs,e1,h⟩:=Option.bind_eq_some_iff.mp h
  obtain⟨bs,e2,rfl⟩:=Option.map_eq_some_iff.mp h
  refine⟨_,rfl,gD e1 ?_⟩
  rw[C4 e2,ui]
 ·cases h
theorem EX:∀ps r,BJ ps=some r->∃p,r=.fz p/\PJ ps (fun z=>z=p):=fun ps r h=>by
 unfold BJ at h
 split at h
 ·obtain⟨qs,e1,h⟩:=Option.bind_eq_some_iff.mp h
  obtain⟨bs,e2,rfl⟩:=Option.map_eq_some_iff.mp h
  refine⟨_,rfl,gD e1 ?_⟩
  rw[C4 e2,ui]
 ·cases h
noncomputable def lj:List PV->Option RV
 |[.lst ps]=>some (.fz (.tup ps))
 |[.tup ps]=>some (.fz (.tup ps))
 |[.src ps]=>some (.fz (.tup ps))
 |_=>none
theorem EB:∀ps r,lj ps=some r->∃p,r=.fz p/\N7 ps (fun z=>z=p):=fun ps r h=>by
 unfold lj at h
 split at h
 ·cases h;exact⟨_,rfl,rfl⟩
 ·cases h;exact⟨_,rfl,rfl⟩
 ·cases h;exact⟨_,rfl,rfl⟩
 ·cases h
noncomputable def iA:List PV->Option RV
 |[.rng lo j]=>if lo=0/\0≤j/\j≤1000000 then some (.nw (qJ 0 j.toNat)) else none
 |[p]=>(items p).map .nw
 |_=>none
theorem Gj:∀ps r,iA ps=some r->∃p,r=.nw p/\(MQ ps (fun z=>z=p)\/HQ ps (fun z=>z=p)):=fun ps r h=>by
 unfold iA at h
 split at h
 ·split at h
  ·next z=>cases h;exact⟨_,rfl,.inr ⟨z.1,z.2.1,z.2.2,rfl⟩⟩
  ·cases h
 ·next p hp=>
  obtain⟨qs,e1,rfl⟩:=Option.map_eq_some_iff.mp h
  refine⟨_,rfl,.inl ?_⟩
  show OkS p _
  unfold OkS;rw[e1]
 ·cases h
theorem JE {x:Str}{p:Pos}(hx:x = "list")(h1:PE X e (km (fun xs H Q=>∃p ys,xs=[.ref p]/\(SqL X.K H p ys\/SqT X.K H p ys)/\∀l,H l=none->Q (.ref l) (upd H l (.lst ys))) (lAT X.K (Ev fs))))
  (h2:PE X e (km (fun xs H Q=>∃p j,xs=[.ref p]/\H p=some (.rng 0 j)/\0≤j/\j≤1000000/\∀l,H l=none->Q (.ref l) (upd H l (.lst (p8 j.toNat)))) (lAT X.K (Ev fs)))):DE X e (fB iA fs):=.ofN (BM (CY JC h1) (CY Hh h2)) fun ρ r e=>by
 obtain⟨rs,e1,e2⟩:=Option.bind_eq_some_iff.mp e
 obtain⟨p,rfl,q⟩:=Gj _ _ e2
 exact⟨p,rfl,q.elim (fun q=>.inl ⟨rs,e1,q⟩) fun q=>.inr ⟨rs,e1,q⟩⟩
noncomputable def xu:List PV->Option RV
 |[.int j]=>if -(2 ^ 62)≤j/\j<2 ^ 62 then some (.fz (.rng 0 j)) else none
 |_=>none
theorem GJ:∀ps r,xu ps=some r->∃p,r=.fz p/\OZ ps (fun z=>z=p):=fun ps r h=>by
 unfold xu at h
 split at h
 ·split at h
  ·next z=>cases h;exact⟨_,rfl,z.1,z.2,rfl⟩
  ·cases h
 ·cases h
noncomputable def t8:List PV->Option RV
 |[p,.ty n]=>if n = "int"\/n = "bool"\/n = "str"\/n = "tuple"\/n = "list"\/n = "dict" then (PL n p).map fun b=>.fz (.bl b) else none
 |_=>none
theorem LV:∀ps r,t8 ps=some r->∃p,r=.fz p/\Pc ps (fun z=>z=p):=fun ps r h=>by
 unfold t8 at h
 split at h
 ·split at h
  ·next z=>
   obtain⟨b,e1,rfl⟩:=Option.map_eq_some_iff.mp h
   refine⟨_,rfl,z,?_⟩
   rw[e1];exact rfl
  ·cases h
 ·cases h
noncomputable def eY:List PV->Option (List Int)
 |[]=>some []
 |.int i::ps=>(eY ps).map fun is=>i::is
 |_=>none
noncomputable def kR:List PV->Option (List (List Int))
 |[]=>some []
 |.tup qs::ps=>(eY qs).bind fun is=>if is.isEmpty then none else (kR ps).map fun ks=>is::ks
 |_=>none
theorem kr:∀{ps:List PV} {is:List Int},eY ps=some is->ps=is.map PV.int:=fun {ps}=>by
 induction ps with
 |nil=>intro bs h;cases h;rfl
 |cons p ps ih=>
  intro bs h
  cases p<;>first|(cases h;done)|skip
  obtain⟨bs',e1,rfl⟩:=Option.map_eq_some_iff.mp h
  rw[ih e1];rfl
theorem xw (is:List Int):eY (is.map PV.int)=some is:=by
 induction is with
 |nil=>rfl
 |cons b bs ih=>rw[List.map_cons,eY,ih];rfl
theorem kc {K:PySem.W.Frag}{F:Hp}:∀{is:List Int} {vs:List V},Reps K F (is.map PV.int) vs->vs=is.map V.int
 |[],_,h=>h
 |i::is,_,⟨v,r,e,h,t⟩=>by rw[e,show v=V.int i from h,kc t];rfl
noncomputable def sU:List PV->Option RV
 |[p]=>(jU p).bind fun ps=>(kR ps).bind fun ks=>if ps.length<64 then some (.nw ((qo ks).map fun i=>ps.getD i .non)) else none
 |_=>none
noncomputable def uU:Im:=fun ps Q=>One ps fun p=>OkL p fun ps=>∃ks,kR ps=some ks/\ps.length<64/\Q ((qo ks).map fun i=>ps.getD i .non)
theorem xO {K:PySem.W.Frag}{F H:Hp}(s:Same F H):∀{ps:List PV} {vs:List V} {ks:List (List Int)},Reps K F ps vs->kR ps=some ks->TupsIn H vs ks
 |[],_,_,h,e=>by rw[show _=[] from h];cases e;exact .nil
 |p::ps,_,_,⟨v,r,ev,h,t⟩,e=>by
  subst ev
  cases p<;>first|(cases e;done)|skip
  rw[kR] at e
  obtain⟨is,e1,e⟩:=Option.bind_eq_some_iff.mp e
  split at e
  ·cases e
  ·next ne=>
   obtain⟨ks,e2,rfl⟩:=Option.map_eq_some_iff.mp e
   obtain⟨a,vs,rfl,h1,h2⟩:=h
   rw[kr e1] at h2
   rw[kc h2] at h1
   exact .cons (s _ _ h1) (by intro z;subst z;exact absurd rfl ne) (xO s t e2)
theorem x0 {K:PySem.W.Frag}{F:Hp}{ps:List PV}{vs:List V}(h:Reps K F ps vs):∀{l:List Nat},(∀i∈l,i<ps.length)->Reps K F (l.map fun i=>ps.getD i .non) (l.map fun i=>vs.getD i .non)
 |[],_=>rfl
 |i::l,hl=>by
  have hi:=hl i List.mem_cons_self
  obtain⟨v,ev,rv⟩:=h.get (List.getElem?_eq_getElem hi)
  refine⟨v,_,?_,?_,x0 h fun j hj=>hl j (List.mem_cons_of_mem _ hj)⟩
  ·rw[List.map_cons,List.getD_eq_getElem?_getD,ev];rfl
  ·show Rep K F (ps.getD i .non) v
   rw[List.getD_eq_getElem?_getD,List.getElem?_eq_getElem hi];exact rv
theorem Ba:∀{ps:List PV} {ks:List (List Int)},kR ps=some ks->ks.length=ps.length:=fun {ps}=>by
 induction ps with
 |nil=>intro bs h;cases h;rfl
 |cons p ps ih=>
  intro ks e
  cases p<;>first|(cases e;done)|skip
  rw[kR] at e
  obtain⟨is,e1,e⟩:=Option.bind_eq_some_iff.mp e
  split at e
  ·cases e
  ·obtain⟨ks,e2,rfl⟩:=Option.map_eq_some_iff.mp e
   rw[List.length_cons,List.length_cons,ih e2]
theorem xh:zj X.K (fun xs H Q=>∃p ts ks,xs=[.ref p]/\SqL X.K H p ts/\ts.length<64/\TupsIn H ts ks/\∀l,H l=none->Q (.ref l) (upd H l (.lst ((qo ks).map fun i=>ts.getD i .non)))) uU:=fun F H xs ps Qp Q s r h k=>by
 obtain⟨p,v,rfl,rfl,r,h⟩:=h.rd r
 obtain⟨a,vs,ps,rfl,hs,rs,ks,e,h64,h⟩:=h.rd s r
 refine⟨a,vs,ks,rfl,hs,by rw[rs.length];exact h64,xO s rs e,fun l hl=>?_⟩
 have hk:=Ba e
 refine k _ l _ F _ h (.newO s hl _) hl (s.free hl) af (x0 rs fun i hi=>?_)
 have:=(AG ks).subset hi
 rw[List.mem_range] at this
 omega
theorem xc:∀ps r,sU ps=some r->∃p,r=.nw p/\uU ps (fun z=>z=p):=fun ps r h=>by
 unfold sU at h
 split at h
 ·obtain⟨qs,e1,h⟩:=Option.bind_eq_some_iff.mp h
  obtain⟨ks,e2,h⟩:=Option.bind_eq_some_iff.mp h
  split at h
  ·next z=>cases h;exact⟨_,rfl,gD e1 ⟨ks,e2,z,rfl⟩⟩
  ·cases h
 ·cases h
mutual
noncomputable def tf:PV->Bool
 |.tup ps=>HX ps
 |p=>cD p
noncomputable def HX:List PV->Bool
 |[]=>true
 |p::ps=>tf p&&HX ps
end
noncomputable def My:PR->Bool
 |.v p=>tf p
 |.n ps=>HX ps
noncomputable def lh (F1 F2:Hp):Hp:=fun b=>match F2 b with
 |some (.tup vs)=>some (.tup vs)
 |_=>F1 b
mutual
theorem Cp {K:PySem.W.Frag}{F1 F2:Hp}:∀{p:PV} {v:V},tf p=true->Rep K F2 p v->Rep K (lh F1 F2) p v
 |.tup ps,v,h,⟨a,vs,e,h1,h2⟩=>by
  rw[tf] at h
  refine⟨a,vs,e,?_,og h h2⟩
  unfold lh;rw[h1]
 |.non,_,_,r=>r
 |.bl _,_,_,r=>r
 |.int _,_,_,r=>r
 |.str _,_,_,r=>r
 |.ty _,_,_,r=>r
 |.fn _,_,_,r=>r
 |.lst _,_,h,_=>by cases h
 |.dct _ _,_,h,_=>by cases h
 |.src _,_,h,_=>by cases h
 |.ktu _,_,h,_=>by cases h
 |.rng _ _,_,h,_=>by cases h
theorem og {K:PySem.W.Frag}{F1 F2:Hp}:∀{ps:List PV} {vs:List V},HX ps=true->Reps K F2 ps vs->Reps K (lh F1 F2) ps vs
 |[],_,_,r=>r
 |p::ps,_,h,⟨v,t,e,r1,r2⟩=>by
  rw[HX,Bool.and_eq_true] at h
  exact⟨v,t,e,Cp h.1 r1,og h.2 r2⟩
end
theorem El {F1 H1 F2 H2:Hp}(s:Same F1 H1)(g:Grow H1 H1 F2 H2):Grow F1 H1 (lh F1 F2) H2:=by
 refine⟨g.hh,fun b o e=>?_,fun b o e=>?_,fun b o e=>?_⟩
 ·have h2:=g.ff b o (s b o e)
  unfold lh
  cases o<;>rw[h2]<;>first|rfl|exact e
 ·unfold lh at e
  split at e
  ·next vs h=>rw[←e];exact g.fh b _ h
  ·exact g.hh b o (s b o e)
 ·unfold lh at e
  split at e
  ·cases e;exact .inr (.inr ⟨_,rfl⟩)
  ·exact .inl e
theorem oR {F1 F2:Hp}{a:Addr}(h1:F1 a=none)(h2:F2 a=none):lh F1 F2 a=none:=by unfold lh;rw[h2];exact h1
noncomputable def Ho (φ:yN)(t:jn):eJ:=fun ρ Q=>t ρ fun ps=>φ ps fun r=>My r=true/\Q r.pv
noncomputable def Be (φ:yN)(t:jn):tK:=fun ρ Q=>t ρ fun ps=>φ ps fun r=>My r=true/\RW r Q
theorem zE {φ:yN}{t:jn}(h:PE X e (bf (aP X.K φ) [] E0 (lAT X.K t))):fN X e (Ho φ t):=PE.weak h fun σ H Q hh_=>hh_.elim fun F ρ Qp er q k=>⟨F,ρ,_,er,q,fun ps vs F1 H1 h1 g1 r1=>by
 show aP X.K φ (vs++[]) H1 Q E0
 rw[List.append_nil]
 refine⟨H1,ps,_,Same.refl _,r1.all g1.fh,h1,fun r v F2 H2 h2 g2 rr=>?_⟩
 have gk:=El g1.fh g2
 cases r with
 |v p=>exact k p _ _ H2 h2.2 (g1.trans gk) (Cp h2.1 rr)
 |n ps=>
  obtain⟨a,vs,rfl,h0,hF,hH,rs⟩:=rr
  have hF1:=oR (g1.fh.free h0) hF
  exact k (.lst ps) _ _ H2 h2.2 ((g1.trans gk).freeze (g1.hh.free h0) hF1 hH) ⟨a,vs,rfl,af,(og h2.1 rs).mono (bj hF1 _)⟩⟩
theorem wv {φ:yN}{t:jn}(h:PE X e (bf (aP X.K φ) [] E0 (lAT X.K t))):xg X e (Be φ t):=PE.weak h fun σ H Q hh_=>hh_.elim fun F ρ Qp er q k=>⟨F,ρ,_,er,q,fun ps vs F1 H1 h1 g1 r1=>by
 show aP X.K φ (vs++[]) H1 Q E0
 rw[List.append_nil]
 refine⟨H1,ps,_,Same.refl _,r1.all g1.fh,h1,fun r v F2 H2 h2 g2 rr=>?_⟩
 have gk:=El g1.fh g2
 cases r with
 |v p=>exact h2.2.elim
 |n ps=>
  obtain⟨a,vs,rfl,h0,hF,hH,rs⟩:=rr
  exact k ps a vs _ H2 h2.2 (g1.trans gk) (g1.hh.free h0) (oR (g1.fh.free h0) hF) hH (og h2.1 rs)⟩
noncomputable def be (F:List PV->Option PR):yN:=fun qs Q=>∃r,F qs=some r/\Q r
noncomputable def qB:PR->RV
 |.v p=>.fz p
 |.n ps=>.nw ps
noncomputable def ao (F:List PV->Option PR)(fs:FA):FE:=fun ρ=>(fs ρ).bind fun rs=>match rs.mapM RV.fr with
 |some ps=>(F ps).map qB
 |none=>(F (rs.map RV.pv)).bind fun r=>if My r=true then some (qB r) else none
theorem Cv {F:List PV->Option PR}(h1:PE X e (bf (aP X.K (be F)) [] E0 (lA X.K (LF fs))))(h2:PE X e (bf (aP X.K (be F)) [] E0 (lAT X.K (Ev fs)))):DE X e (ao F fs):=
 .of2 (kQ (GH h1) (zE h2)) (BM (Eh h1) (wv h2)) fun ρ r e=>by
  obtain⟨rs,e1,e2⟩:=Option.bind_eq_some_iff.mp e
  split at e2
  ·next ps ep=>
   obtain⟨q,e3,rfl⟩:=Option.map_eq_some_iff.mp e2
   cases q with
   |v p=>exact .inl ⟨p,rfl,.inl ⟨rs,ps,e1,ep,.v p,e3,rfl⟩⟩
   |n qs=>exact .inr ⟨qs,rfl,.inl ⟨rs,ps,e1,ep,.n qs,e3,rfl⟩⟩
  ·obtain⟨q,e3,e4⟩:=Option.bind_eq_some_iff.mp e2
   split at e4
   ·next hf=>
    cases e4
    cases q with
    |v p=>exact .inl ⟨p,rfl,.inr ⟨rs,e1,.v p,e3,hf,rfl⟩⟩
    |n qs=>exact .inr ⟨qs,rfl,.inr ⟨rs,e1,.n qs,e3,hf,rfl⟩⟩
   ·cases e4
noncomputable def DI (X:Cx)(tg iter:Expr)(f:FI):Prop:=zB X tg iter (Iy f)
theorem ji {t t':oS}(h:zB X tg iter t)(w:∀ρ Q,t' ρ Q->t ρ Q):zB X tg iter t':=PI.weak h fun σ H Q hh_=>hh_.elim fun F ρ Qp er q k=>⟨F,ρ,Qp,er,w ρ Qp q,k⟩
theorem Ki {t u:oS}(h:zB X tg iter t)(h':zB X tg iter u):zB X tg iter (fun ρ Q=>t ρ Q\/u ρ Q):=fun pins s σ H Q I hh_=>hh_.elim fun F ρ Qp er q k=>q.elim (fun q=>h pins s σ H Q I ⟨F,ρ,Qp,er,q,k⟩) fun q=>h' pins s σ H Q I ⟨F,ρ,Qp,er,q,k⟩
noncomputable def tz (f:FE):FI:=fun ρ=>(f ρ).bind fun r=>r.fr.bind items
theorem zd (h:DE X iter f):DI X tg iter (tz f):=ji (Ki (DU h.ee) (GG h.ee)) fun ρ Q ⟨its,e,q⟩=>by
 obtain⟨r,e1,e⟩:=Option.bind_eq_some_iff.mp e
 obtain⟨p,e2,e⟩:=Option.bind_eq_some_iff.mp e
 cases p<;>first|(cases e;done)|skip
 ·cases e;exact .inr ⟨r,_,e1,e2,q⟩
 ·cases e;exact .inl ⟨r,_,e1,e2,q⟩
 ·cases e;exact .inl ⟨r,_,e1,e2,q⟩
 ·cases e;exact .inr ⟨r,_,e1,e2,q⟩
noncomputable def Kb (i:Int):Bool:=decide (-(2 ^ 62)≤i)&&decide (i<2 ^ 62)
noncomputable def lF:List PV->Option (List PV)
 |[.int j]=>if Kb j then some (qJ 0 j.toNat) else none
 |_=>none
noncomputable def Ka:List PV->Option (List PV)
 |[.int i,.int j]=>if Kb i&&Kb j then some (qJ i (j - i).toNat) else none
 |_=>none
noncomputable def lX (g:List PV->Option (List PV))(fs:FA):FI:=fun ρ=>(fs ρ).bind fun rs=>g (rs.map RV.pv)
theorem mV {i:Int}(h:Kb i=true):-(2 ^ 62)≤i/\i<2 ^ 62:=by
 unfold Kb at h
 rw[Bool.and_eq_true,decide_eq_true_eq,decide_eq_true_eq] at h
 exact h
theorem La (h:PI X tg iter (ca (lAT X.K (Ev fs)))):DI X tg iter (lX lF fs):=ji (AO h) fun ρ Q ⟨its,e,q⟩=>by
 obtain⟨rs,e1,e⟩:=Option.bind_eq_some_iff.mp e
 refine⟨rs,e1,?_⟩
 unfold lF at e
 split at e
 ·next j ej=>
  split at e
  ·next z=>cases e;rw[ej];exact⟨(mV z).1,(mV z).2,q⟩
  ·cases e
 ·cases e
theorem Ko (h:PI X tg iter (cg (lAT X.K (Ev fs)))):DI X tg iter (lX Ka fs):=ji (B3 h) fun ρ Q ⟨its,e,q⟩=>by
 obtain⟨rs,e1,e⟩:=Option.bind_eq_some_iff.mp e
 refine⟨rs,e1,?_⟩
 unfold Ka at e
 split at e
 ·next i j ej=>
  split at e
  ·next z=>cases e;rw[Bool.and_eq_true] at z;rw[ej];exact⟨⟨(mV z.1).1,(mV z.1).2,(mV z.2).1,(mV z.2).2⟩,q⟩
  ·cases e
 ·cases e
noncomputable def IH (fs:FA):FI:=fun ρ=>(fs ρ).bind fun rs=>(rs.mapM RV.fr).bind fun ps=>match ps with
 |[p]=>(jU p).map (fu 0)
 |_=>none
theorem K7 (h:PI X tg iter (Db X.K (lA X.K (LF fs)))):DI X tg iter (IH fs):=ji (Cr h) fun ρ Q ⟨its,e,q⟩=>by
 obtain⟨rs,e1,e⟩:=Option.bind_eq_some_iff.mp e
 obtain⟨ps,e2,e⟩:=Option.bind_eq_some_iff.mp e
 split at e
 ·next p=>
  obtain⟨qs,e3,rfl⟩:=Option.map_eq_some_iff.mp e
  exact⟨rs,_,e1,e2,gD e3 q⟩
 ·cases e
noncomputable abbrev FT:=PV->ak->Option ak
noncomputable abbrev Eu:=List PV->ak->Option ak
noncomputable def qT (t:FT):t4:=fun p ρ Q=>∃ρ',t p ρ=some ρ'/\Q ρ'
noncomputable def N4 (t:Eu):tm:=fun p ρ Q=>∃ρ',t p ρ=some ρ'/\Q ρ'
noncomputable def gN (i:Nat):FT:=fun p ρ=>some (ρ.set i (some (.val p)))
noncomputable def g0:Eu:=fun ps ρ=>match ps with
 |[]=>some ρ
 |_=>none
noncomputable def gC (t:FT)(ts:Eu):Eu:=fun ps ρ=>match ps with
 |p::ps=>(t p ρ).bind fun ρ'=>ts ps ρ'
 |[]=>none
theorem qN {K:PySem.W.Frag}{g0:TG}{g g':t4}(h:gQ K g0 g)(w:∀p ρ Q,g' p ρ Q->g p ρ Q):gQ K g0 g':=fun F H σ ρ p v Qp Q s r q k=>h F H σ ρ p v Qp Q s r (w p ρ Qp q) k
theorem pk {K:PySem.W.Frag}{g0:ve}{g g':tm}(h:ke K g0 g)(w:∀p ρ Q,g' p ρ Q->g p ρ Q):ke K g0 g':=fun F H σ ρ p v Qp Q s r q k=>h F H σ ρ p v Qp Q s r (w p ρ Qp q) k
theorem Ku {K:PySem.W.Frag}{i:Nat}:gQ K (aO i) (qT (gN i)):=qN G1 fun p ρ Q ⟨ρ',e,q⟩=>by cases e;exact q
theorem Pj {K:PySem.W.Frag}:ke K fD (N4 g0):=pk Jl fun ps ρ Q ⟨ρ',e,q⟩=>by
 cases ps with
 |nil=>cases e;exact q
 |cons=>cases e
theorem Mb {K:PySem.W.Frag}{h0:TG}{t:FT}{hs0:ve}{ts:Eu}(h1:gQ K h0 (qT t))(h2:ke K hs0 (N4 ts)):ke K (bX h0 hs0) (N4 (gC t ts)):=pk (Fj h1 h2) fun ps ρ Q ⟨ρ',e,q⟩=>by
 cases ps with
 |nil=>cases e
 |cons p ps=>
  obtain⟨ρ2,e1,e2⟩:=Option.bind_eq_some_iff.mp e
  exact⟨ρ2,e1,ρ',e2,q⟩
noncomputable def mZ (n:Nat)(ts:Eu):FT:=fun p ρ=>match p with
 |.tup ps=>if ps.length=n then ts ps ρ else none
 |_=>none
theorem Ob {K:PySem.W.Frag}{n:Nat}{hs0:ve}{ts:Eu}(h:ke K hs0 (N4 ts)):gQ K (eL K n hs0) (qT (mZ n ts)):=qN (J9 h) fun p ρ Q ⟨ρ',e,q⟩=>by
 unfold mZ at e
 split at e
 ·split at e
  ·next z=>exact⟨z,ρ',e,q⟩
  ·cases e
 ·cases e
noncomputable def qj (t:FT)(c:FB)(f:FE)(ρ:ak):List PV->Option (List PV)
 |[]=>some []
 |p::ps=>(t p ρ).bind fun ρ2=>(c ρ2).bind fun b=>if b=true then (f ρ2).bind fun r=>r.fr.bind fun q=>(qj t c f ρ ps).map fun qs=>q::qs else qj t c f ρ ps
noncomputable def gH (fm:List (Option Nat))(it:FI)(t:FT)(c:FB)(f:FE):FE:=fun ρ=>(it ρ).bind fun its=>if its.length<1000 then (qj t c f (jH fm ρ) its).map .nw else none
noncomputable def jA:FB:=fun _=>some true
theorem CB {t:FT}{c:FB}{ρ:ak}:∀{its qs acc:List PV} {Q:List PV->Prop},qj t c f ρ its=some qs->Q (acc++qs)->Mq (qT t) (AJ c) (tF f) ρ its acc Q:=fun {its}=>by
 induction its with
 |nil=>intro qs acc Q e q;cases e;rw[List.append_nil] at q;exact q
 |cons p ps ih=>
  intro qs acc Q e q
  rw[qj] at e
  obtain⟨ρ2,e1,e⟩:=Option.bind_eq_some_iff.mp e
  obtain⟨b,e2,e⟩:=Option.bind_eq_some_iff.mp e
  refine⟨ρ2,e1,b,e2,?_⟩
  cases b with
  |true=>
   rw[if_pos rfl] at e ⊢
   obtain⟨r,e3,e⟩:=Option.bind_eq_some_iff.mp e
   obtain⟨y,e4,e⟩:=Option.bind_eq_some_iff.mp e
   obtain⟨ys,e5,rfl⟩:=Option.map_eq_some_iff.mp e
   exact⟨r,y,e3,e4,ih e5 (by rw[List.append_assoc];exact q)⟩
  |false=>
   rw[if_neg Bool.false_ne_true] at e ⊢
   exact ih e q
theorem tw {fm:List (Option Nat)}{it:FI}{t:FT}{c:FB}{ρ:ak}{r:RV}(e:gH fm it t c f ρ=some r):∃ps,r=.nw ps/\qQ fm (Iy it) (qT t) (AJ c) (tF f) ρ (fun x=>x=ps):=by
 obtain⟨its,e1,e⟩:=Option.bind_eq_some_iff.mp e
 split at e
 ·next z=>
  obtain⟨ps,e2,rfl⟩:=Option.map_eq_some_iff.mp e
  exact⟨ps,rfl,its,e1,z,CB e2 rfl⟩
 ·cases e
noncomputable def R3 (X:Cx)(ifs:List Expr)(c:FB):Prop:=Jm X ifs (AJ c)
theorem Mf:R3 X [] jA:=PIf.weak Bn fun σ H Q hh_=>hh_.elim fun F ρ Qp er ⟨b,e,q⟩ k=>by cases e;exact⟨F,ρ,Qp,er,q,k⟩
theorem JO (h:DB X c ba):R3 X [c] ba:=DQ h
theorem LG {fm:List (Option Nat)}{it:FI}{h0:TG}{t:FT}{c:FB}(hg:gQ X.K h0 (qT t))(h:PE X e (i5 fm (lI X.K (Iy it)) h0 (lB X.K (AJ c)) (lE X.K (tF f)))):DE X e (gH fm it t c f):=.ofN (Gp (K:=X.K) hg h) fun ρ r e=>tw e
end
end Dp
end
section
namespace Dp
open PySem PySem.Spec L2 Pu
inductive Out where
 |nx (ρ:ak)|bk (ρ:ak)|ct (ρ:ak)|rt (p:PV)|rn (ps:List PV)|bad
noncomputable abbrev FS:=ak->Out
noncomputable def Out.sat (D:PEnds):Out->Prop
 |.nx ρ=>D.nx ρ
 |.bk ρ=>D.bk ρ
 |.ct ρ=>D.ct ρ
 |.rt p=>D.rt p
 |.rn ps=>D.rn ps
 |.bad=>False
noncomputable def m6 (f:FS):i4:=fun D ρ=>(f ρ).sat D
noncomputable def DS (X:Cx)(st:Stmt)(f:FS):Prop:=kx X st (m6 f)
noncomputable def Er (X:Cx)(st:List Stmt)(f:FS):Prop:=pj X st (m6 f)
section
variable {X:Cx}{e a b c tg iter:Expr}{es:List Expr}{st:Stmt}{cC:List Stmt}{pos:Pos}{f fa fb:FE}{fs:FA}{s u:FS}{i j:Nat}{ba:FB}
theorem aY {t t':i4}(h:kx X st t)(w:∀D ρ,t' D ρ->t D ρ):kx X st t':=PS.weak h fun D σ H hh_=>hh_.elim fun F0 H0 F ρ Dp br q ft=>⟨F0,H0,F,ρ,Dp,br,w Dp ρ q,ft⟩
theorem Av {t t':i4}(h:pj X cC t)(w:∀D ρ,t' D ρ->t D ρ):pj X cC t':=PSs.weak h fun D σ H hh_=>hh_.elim fun F0 H0 F ρ Dp br q ft=>⟨F0,H0,F,ρ,Dp,br,w Dp ρ q,ft⟩
theorem wc {t t':i4}(h:kx X st t)(h':kx X st t'):kx X st (fun D ρ=>t D ρ\/t' D ρ):=fun pins s σ H D I hh_=>hh_.elim fun F0 H0 F ρ Dp br q ft=>q.elim (fun q=>h pins s σ H D I ⟨F0,H0,F,ρ,Dp,br,q,ft⟩) fun q=>h' pins s σ H D I ⟨F0,H0,F,ρ,Dp,br,q,ft⟩
noncomputable def aK:FS:=fun ρ=>.nx ρ
noncomputable def bZ:FS:=fun _=>.bad
noncomputable def RZ:FS:=fun ρ=>.bk ρ
noncomputable def Sc:FS:=fun ρ=>.ct ρ
noncomputable def aq (s u:FS):FS:=fun ρ=>match s ρ with
 |.nx ρ'=>u ρ'
 |o=>o
theorem O0:Er X [] aK:=Bl
theorem Op (h:DS X st s):Er X [st] s:=C1 h
theorem L5 (h1:DS X st s)(h2:Er X cC u):Er X (st::cC) (aq s u):=Av (zP h1 h2) fun D ρ q=>by
 unfold m6 aq at q
 unfold OS m6
 cases e:s ρ with
 |nx ρ'=>rw[e] at q;exact q
 |_=>rw[e] at q;exact q
theorem Kz:DS X (.Pass pos) aK:=Bx
theorem Nf {x j pos pos'}:DS X (.Expr (.Constant (.str x) j pos) pos') aK:=FW
theorem QB:DS X (.Break pos) RZ:=AB
theorem RG:DS X (.Continue pos) Sc:=A4
theorem bY:DS X st bZ:=aY rO fun D ρ q=>q
noncomputable def j0 (f:FE):FS:=fun ρ=>match f ρ with
 |some (.fz _)=>.nx ρ
 |_=>.bad
theorem pA (h:PS X st (bA (lE X.K (tF f)))):DS X st (j0 f):=aY (BO h) fun D ρ q=>by
 unfold m6 j0 at q
 split at q
 ·next p e=>exact⟨_,_,e,rfl,q⟩
 ·exact q.elim
noncomputable def bC (f:FE):FS:=fun ρ=>match f ρ with
 |some (.fz p)=>.rt p
 |some (.nw ps)=>.rn ps
 |_=>.bad
theorem HW (h:DE X e f):DS X (.Return (some e) pos) (bC f):=aY (wc (xL h.ee) (Bw h.nn)) fun D ρ q=>by
 unfold m6 bC at q
 split at q
 ·next p e=>exact .inl ⟨_,_,e,rfl,q⟩
 ·next p e=>exact .inr ⟨_,e,q⟩
 ·exact q.elim
noncomputable def il (i:Nat):FS:=fun ρ=>match sl ρ i with
 |some (.val p)=>.rt p
 |some (.own ps)=>.rn ps
 |_=>.bad
theorem Ly (h:PE X e (cR i)):DS X (.Return (some e) pos) (il i):=aY (wc (xL (Sb h).ee) (C0 h)) fun D ρ q=>by
 unfold m6 il at q
 split at q
 ·next p e=>exact .inl ⟨.fz p,p,by unfold fV;rw[e];rfl,rfl,q⟩
 ·next p e=>refine .inr ?_;unfold Ix go;rw[hR e];exact q
 ·exact q.elim
noncomputable def i9 (g:FB)(s u:FS):FS:=fun ρ=>match g ρ with
 |some true=>s ρ
 |some false=>u ρ
 |none=>.bad
theorem Qs {sa sb:List Stmt}(hc:DB X c ba)(ha:Er X sa s)(hb:Er X sb u):DS X (.If c sa sb pos) (i9 ba s u):=aY (Jw hc ha hb) fun D ρ q=>by
 unfold m6 i9 at q
 split at q
 ·next e=>exact⟨true,e,q⟩
 ·next e=>exact⟨false,e,q⟩
 ·exact q.elim
noncomputable def bh (i:Nat)(f:FE):FS:=fun ρ=>match (f ρ).bind RV.fr with
 |some p=>.nx (ρ.set i (some (.val p)))
 |none=>.bad
theorem O9 (h:PS X st (cv (lE X.K (tF f)) (aO i))):DS X st (bh i f):=aY (xS h) fun D ρ q=>by
 unfold m6 bh at q
 split at q
 ·next p e=>
  obtain⟨r,e1,e2⟩:=Option.bind_eq_some_iff.mp e
  exact⟨r,p,e1,e2,q⟩
 ·exact q.elim
noncomputable def je (i:Nat)(f:FE):FS:=fun ρ=>match f ρ with
 |some (.fz p)=>.nx (ρ.set i (some (.val p)))
 |some (.nw ps)=>.nx (ρ.set i (some (.own ps)))
 |_=>.bad
theorem Oo (h:PS X st (cv (lE X.K (tF f)) (aO i)))(h':PS X st (cv (lN X.K (tN f)) (aO i))):DS X st (je i f):=aY (wc (xS h) (ur h')) fun D ρ q=>by
 unfold m6 je at q
 split at q
 ·next p e=>exact .inl ⟨_,_,e,rfl,q⟩
 ·next p e=>exact .inr ⟨_,e,q⟩
 ·exact q.elim
theorem J3 {fm:List (Option Nat)}{it:FI}{h0:TG}{t:FT}{c:FB}(hg:gQ X.K h0 (qT t))(h:PS X st (cv (i5 fm (lI X.K (Iy it)) h0 (lB X.K (AJ c)) (lE X.K (tF f))) (aO i))):DS X st (bh i (gH fm it t c f)):=aY (sZ hg h) fun D ρ q=>by
 unfold m6 bh at q
 split at q
 ·next p e=>
  obtain⟨r,e1,e2⟩:=Option.bind_eq_some_iff.mp e
  obtain⟨ps,rfl,k⟩:=tw e1
  cases e2
  obtain⟨its,e3,hl,k⟩:=k
  refine⟨its,e3,hl,?_⟩
  obtain⟨its',e4,e5⟩:=Option.bind_eq_some_iff.mp e1
  rw[e3] at e4;cases e4
  rw[if_pos hl] at e5
  obtain⟨qs,e6,e7⟩:=Option.map_eq_some_iff.mp e5
  cases e7
  exact CB e6 q
 ·exact q.elim
theorem J0 {fm:List (Option Nat)}{it:FI}{h0:TG}{t:FT}{c:FB}(hg:gQ X.K h0 (qT t))(h:PS X st (cv (i5 fm (lI X.K (Iy it)) h0 (lB X.K (AJ c)) (lE X.K (tF f))) (aO i))):DS X st (je i (gH fm it t c f)):=aY (vw hg h) fun D ρ q=>by
 have key:∀r,gH fm it t c f ρ=some r->∃its ps,r=.nw ps/\it ρ=some its/\its.length<1000/\qj t c f (jH fm ρ) its=some ps:=fun r e1=>by
  obtain⟨its,e3,e5⟩:=Option.bind_eq_some_iff.mp e1
  split at e5
  ·next hl=>
   obtain⟨qs,e6,e7⟩:=Option.map_eq_some_iff.mp e5
   exact⟨its,qs,e7.symm,e3,hl,e6⟩
  ·cases e5
 unfold m6 je at q
 split at q
 ·next p e=>obtain⟨_,_,z,_⟩:=key _ e;cases z
 ·next p e=>
  obtain⟨its,ps,z,e3,hl,e6⟩:=key _ e
  cases z
  exact⟨its,e3,hl,CB e6 q⟩
 ·exact q.elim
noncomputable def iw (f:FE)(t:FT):FS:=fun ρ=>match (f ρ).bind RV.fr with
 |some p=>match t p ρ with
  |some ρ'=>.nx ρ'
  |none=>.bad
 |none=>.bad
theorem Pk {h0:TG}{t:FT}(hg:gQ X.K h0 (qT t))(h:PS X st (cv (lE X.K (tF f)) h0)):DS X st (iw f t):=aY (Gd hg h) fun D ρ q=>by
 unfold m6 iw at q
 split at q
 ·next p e=>
  obtain⟨r,e1,e2⟩:=Option.bind_eq_some_iff.mp e
  split at q
  ·next ρ' e3=>exact⟨r,p,e1,e2,ρ',e3,q⟩
  ·exact q.elim
 ·exact q.elim
noncomputable def nN (i j:Nat)(fs:FA):FS:=fun ρ=>match (fs ρ).bind fun rs=>rs.mapM RV.fr with
 |some [p,q]=>.nx ((ρ.set i (some (.val p))).set j (some (.val q)))
 |_=>.bad
theorem OP (h:PS X st (eW i j (lA X.K (LF fs)))):DS X st (nN i j fs):=aY (FP h) fun D ρ q=>by
 unfold m6 nN at q
 split at q
 ·next p p' e=>
  obtain⟨r,e1,e2⟩:=Option.bind_eq_some_iff.mp e
  exact⟨r,_,e1,e2,q⟩
 ·exact q.elim
noncomputable def NI (i:Nat)(s:FS):FS:=fun ρ=>s (frz i ρ)
theorem Nq (i:Nat)(h:DS X st s):DS X st (NI i s):=wX i h
noncomputable def wA (g:Int->Int->Int)(i:Nat)(f:FE):FS:=fun ρ=>match sl ρ i,(f ρ).bind RV.fr with
 |some (.val (.int a)),some (.int b)=>.nx (ρ.set i (some (.val (.int (g a b)))))
 |_,_=>.bad
theorem M4 {g:Int->Int->Int}(h:PS X st (fK i (lE X.K (tF f)) (kJ g))):DS X st (wA g i f):=aY (G3 h) fun D ρ q=>by
 unfold m6 wA at q
 split at q
 ·next a b e1 e2=>
  obtain⟨r,e3,e4⟩:=Option.bind_eq_some_iff.mp e2
  unfold Lw gv
  rw[hR e1]
  exact⟨r,_,e3,e4,q⟩
 ·exact q.elim
noncomputable def nB (i:Nat)(fs:FA):FS:=fun ρ=>match sl ρ i,(fs ρ).bind fun rs=>rs.mapM RV.fr with
 |some (.own ps),some [q]=>if ps.length≤100000 then .nx (ρ.set i (some (.own (ps++[q])))) else .bad
 |_,_=>.bad
theorem OV (h:PS X st (bA (ma X.K "list" rY (cR i) (lA X.K (LF fs))))):DS X st (nB i fs):=aY (GX h) fun D ρ q=>by
 unfold m6 nB at q
 split at q
 ·next ps p e1 e2=>
  obtain⟨r,e3,e4⟩:=Option.bind_eq_some_iff.mp e2
  unfold MU go
  rw[hR e1]
  split at q
  ·next z=>exact⟨r,_,e3,e4,RI z,q⟩
  ·exact q.elim
 ·exact q.elim
noncomputable def mJ (j:Nat)(fi f:FE):FS:=fun ρ=>match (f ρ).bind RV.fr,sl ρ j,(fi ρ).bind RV.fr with
 |some v,some (.own ps),some (.int k)=>match qh ps.length k with
  |some n=>.nx (ρ.set j (some (.own (ps.set n v))))
  |none=>.bad
 |_,_,_=>.bad
theorem MW {fi:FE}(h:PS X st (cv (lE X.K (tF f)) (L2.eV (cR j) (lE X.K (tF fi)) b7))):DS X st (mJ j fi f):=aY (Ar h) fun D ρ q=>by
 unfold m6 mJ at q
 split at q
 ·next v ps k e1 e2 e3=>
  obtain⟨r,e4,e5⟩:=Option.bind_eq_some_iff.mp e1
  obtain⟨r',e6,e7⟩:=Option.bind_eq_some_iff.mp e3
  split at q
  ·next n en=>
   refine⟨r,v,e4,e5,?_⟩
   unfold go
   rw[hR e2]
   refine⟨r',_,e6,e7,?_⟩
   show OkO (qh ps.length k) _
   rw[en]
   exact q
  ·exact q.elim
 ·exact q.elim
noncomputable def df (t:FT)(s:FS):List PV->ak->Out
 |[],ρ=>.nx ρ
 |p::ps,ρ=>match t p ρ with
  |some ρ1=>match s ρ1 with
   |.nx ρ2=>df t s ps ρ2
   |.ct ρ2=>df t s ps ρ2
   |.bk ρ2=>.nx ρ2
   |o=>o
  |none=>.bad
noncomputable def jV (it:FI)(t:FT)(s:FS):FS:=fun ρ=>match it ρ with
 |some its=>df t s its ρ
 |none=>.bad
theorem GP {t:FT}{D:PEnds}:∀{its:List PV} {ρ:ak},(df t s its ρ).sat D->qP (qT t) (m6 s) D its ρ:=fun {its}=>by
 induction its with
 |nil=>intro ρ q;exact q
 |cons p ps ih=>
  intro ρ q
  rw[df] at q
  split at q
  ·next ρ1 e1=>
   refine⟨ρ1,e1,?_⟩
   show (s ρ1).sat _
   cases e2:s ρ1 with
   |nx ρ2=>rw[e2] at q;exact ih q
   |ct ρ2=>rw[e2] at q;exact ih q
   |bk ρ2=>rw[e2] at q;exact q
   |rt _=>rw[e2] at q;exact q
   |rn _=>rw[e2] at q;exact q
   |bad=>rw[e2] at q;exact q
  ·exact q.elim
theorem Nm {it:FI}{h0:TG}{t:FT}(hg:gQ X.K h0 (qT t))(h:PS X st (KQ (lI X.K (Iy it)) h0 (lS X.K (m6 s)))):DS X st (jV it t s):=aY (FU hg h) fun D ρ q=>by
 unfold m6 jV at q
 split at q
 ·next its e=>exact⟨its,e,GP q⟩
 ·exact q.elim
noncomputable def cB (c:FB)(s:FS):Nat->ak->Out
 |0,_=>.bad
 |n+1,ρ=>match c ρ with
  |some true=>match s ρ with
   |.nx ρ2=>cB c s n ρ2
   |.ct ρ2=>cB c s n ρ2
   |.bk ρ2=>.nx ρ2
   |o=>o
  |some false=>.nx ρ
  |none=>.bad
noncomputable def kZ (c:FB)(s:FS):FS:=fun ρ=>cB c s 10000 ρ
theorem Cy {c:FB}{D:PEnds}:∀{n:Nat} {ρ:ak},(cB c s n ρ).sat D->ko (AJ c) (m6 s) D n ρ:=fun {n}=>by
 induction n with
 |zero=>intro ρ q;exact q
 |succ n ih=>
  intro ρ q
  rw[cB] at q
  split at q
  ·next e1=>
   refine⟨true,e1,?_⟩
   show (if true=true then (s ρ).sat _ else _)
   rw[if_pos rfl]
   cases e2:s ρ with
   |nx ρ2=>rw[e2] at q;exact ih q
   |ct ρ2=>rw[e2] at q;exact ih q
   |bk ρ2=>rw[e2] at q;exact q
   |rt _=>rw[e2] at q;exact q
   |rn _=>rw[e2] at q;exact q
   |bad=>rw[e2] at q;exact q
  ·next e1=>
   exact⟨false,e1,q⟩
  ·exact q.elim
theorem F7 {c:FB}(h:PS X st (wa (lB X.K (AJ c)) (lS X.K (m6 s)))):DS X st (kZ c s):=aY (Ak h) fun D ρ q=>⟨10000,Cy q⟩
end
noncomputable def Out.res:Out->Option PR
 |.nx _=>some (.v .non)
 |.rt p=>some (.v p)
 |.rn ps=>some (.n ps)
 |_=>none
noncomputable def run (a n:Nat)(s:FS)(qs:List PV):Option PR:=if qs.length=a then (s (P0 n qs)).res else none
theorem Dj {o:Out}{r:PR}{Q:PR->Prop}(h:o.res=some r)(q:Q r):o.sat (PEnds.of Q):=by
 cases o<;>cases h<;>exact q
theorem Of {P:Program}{w:World}{K:PySem.W.Frag}{mg:Str->Option Value}{base:Heap}{x:Str}{st:Stmt}{N ps:List Str}{k a n:Nat}{s:FS}(F:FunD K mg x st ps)(S:FnScope N ps (ad st))
  (hb:∀(f:Addr) (cdv:Value) (A:Around) (outer:List Env) (s':Shared) (H:Hp) (E:XK),Room k (A.deeper (PyProof.Rows.envOfC x (ad st) s'.heap.objs.size f cdv))->Er (lJ vX P w K mg base N x (ad st) f cdv A outer s' H E).nox (ag st) s)
  (ha:ps.length=a:=by rfl) (hn:N.length=n:=by rfl):Def P w K mg base (k+1) x ps (aP K (be (run a n s))):=by
 subst ha hn
 refine Qb F S (fun qs Q ⟨r,e,q⟩=>?_) hb fun qs Q ⟨r,e,q⟩=>?_
 ·unfold run at e
  split at e
  ·assumption
  ·cases e
 ·unfold run at e
  split at e
  ·exact Dj e q
  ·cases e
theorem Jy {X:Cx}{body:List Stmt}{s:FS}{N:List Str}{H:Hp}{vs:List V}{Q:VK}{E:XK}{n:Nat}(hb:Er X body s)(h:ra X.K vs H Q E)
  (hp:∀ns:List Int,ns.length≤63->run 1 n s [.src (ns.map PV.int)]=some (.v (.bl true))) (hn:N.length=n:=by rfl):∃t,PSs X body t/\t { nx:=fun _ H'=>Q .non H',rt:=Q } (L2.aQ N vs) H:=by
 subst hn
 exact Ac hb h fun ns hl=>by
  have this:(s (P0 N.length [.src (ns.map PV.int)])).res=some (.v (.bl true)):=hp ns hl
  exact Dj this rfl
end Dp
end
section
namespace Dp
open PySem PySem.Spec L2 Pu
section
variable {X:Cx}{e a b c tg iter:Expr}{es:List Expr}{st:Stmt}{cC:List Stmt}{p pos:Pos}{f fa fb:FE}{fs:FA}{s u:FS}{i j k:Nat}{ba:FB}{x:Str}{ps:List Str}{F:List PV->Option PR}
theorem FC (d:Def X.prog X.w X.K X.mg X.base j x ps (aP X.K (be F)))(hr:Room k X.A)(ha:DA X (e::es) fs)(hj:j≤k:=by decide)(hg:Gl X x:=by rfl)(hdb:(x==("__debug__" : Str))=false:=by decide)(he:starEach (e::es) X.env=(false,eval e X.env)::starEach es X.env:=by rfl)
  (hpl:(backTo pos (starEach es X.env)).any (·.1)=false:=by rfl):DE X (.Call (.Name x p) (e::es) [] pos) (ao F fs):=Cv (lg d hr ha.f hj hg hdb he hpl) (lg d hr ha.t hj hg hdb he hpl)
noncomputable def Ch (F:List PV->Option PR):FE:=fun _=>(F []).map qB
theorem BY (d:Def X.prog X.w X.K X.mg X.base j x ps (aP X.K (be F)))(hr:Room k X.A)(hj:j≤k:=by decide)(hg:Gl X x:=by rfl)(hdb:(x==("__debug__" : Str))=false:=by decide):DE X (.Call (.Name x p) [] [] pos) (Ch F):=by
 have h:=zC (p:=p) (pos:=pos) d hr hj hg hdb
 have h':PE X (.Call (.Name x p) [] [] pos) (bf (aP X.K (be F)) [] E0 (lA X.K (LF ae))):=PE.weak h fun σ H Q hh_=>hh_.elim fun F ρ Qp er ⟨rs,ps,e1,e2,q⟩ k=>by
  cases e1;cases e2
  exact k [] [] F H q (.refl er.fz) rfl
 have h2:PE X (.Call (.Name x p) [] [] pos) (bf (aP X.K (be F)) [] E0 (lAT X.K (Ev ae))):=PE.weak h fun σ H Q hh_=>hh_.elim fun F ρ Qp er ⟨rs,e1,q⟩ k=>by
  cases e1
  exact k [] [] F H q (.refl er.fz) .nil
 exact Cv h' h2
theorem EH (hm:X.mg "list" = none)(ha:DA X (e::es) fs)(hc:X.calm=true:=by rfl)(hg:Gl X "list":=by rfl)(he:starEach (e::es) X.env=(false,eval e X.env)::starEach es X.env:=by rfl)(hpl:(backTo pos (starEach es X.env)).any (·.1)=false:=by rfl) :
  DE X (.Call (.Name "list" p) (e::es) [] pos) (fB iA fs):=JE (x:="list") (p:=p) rfl (fq lK hg hm nS ha.t (by decide) (by decide) he hpl) (fq (qc hc) hg hm nS ha.t (by decide) (by decide) he hpl)
theorem Kc {pos':Pos}(he:DE X e f)(hN:X.N.Nodup)(hi:X.N[i]?=some x)(hx:Kp X.env.scope x)(hs:swapsWith e (some (.Name x pos')) pos.line X.env=pure false:=by rfl)(hf:X.fn x=true\/X.env.scope.names.lookup x=some .local:=by first|exact .inl rfl|exact .inr rfl|assumption) :
  DS X (.Assign [.Name x pos'] e pos) (je i f):=Oo (dm hN hi hx he.ee hs hf) (dm hN hi hx he.nn hs hf)
end
end Dp
end
section
namespace Pu
open PySem L2 Fo
theorem sW {i j:Int}:iQ (.int i) (.int j)=decide (i=j):=by
 simp only[iQ,cD,kf,Da,Bool.true_and]
 rw[Bool.eq_iff_iff,beq_iff_eq,decide_eq_true_iff]
theorem lM {i j:Str}:iQ (.str i) (.str j)=decide (i=j):=by
 simp only[iQ,cD,kf,Da,Bool.true_and]
 rw[Bool.eq_iff_iff,beq_iff_eq,decide_eq_true_iff]
theorem Qm {i j:Bool}:iQ (.bl i) (.bl j)=(i==j):=by
 simp only[iQ,cD,kf,Da,Bool.true_and]
theorem yM {ps qs:List PV}:iQ (.tup ps) (.tup qs)=gR ps qs:=by simp only[iQ]
theorem xU {ps qs:List PV}:iQ (.lst ps) (.lst qs)=gR ps qs:=by simp only[iQ]
theorem zX {p q:PV}{ps qs:List PV}:gR (p::ps) (q::qs)=(iQ p q&&gR ps qs):=by simp only[gR]
theorem BL:gR [] []=true:=by simp only[gR]
theorem d8 (us:List Nat):(nums us).length=us.length:=List.length_map ..
theorem pG:nums []=[]:=rfl
theorem dl (x:Nat)(us:List Nat):nums (x::us)=nI x::nums us:=rfl
theorem uZ (us vs:List Nat):nums (us++vs)=nums us++nums vs:=List.map_append
theorem lY (us:List Nat)(i v:Nat):(nums us).set i (nI v)=nums (us.set i v):=by unfold nums;rw[List.map_set]
theorem gM:∀us:List Nat,aw (nums us)=true
 |[]=>by simp only[nums,List.map_nil,aw]
 |x::us=>by rw[dl,aw,gM us];simp only[nI,plain,Bool.and_true]
theorem i7:∀us:List Nat,ck (nums us)=0
 |[]=>by simp only[nums,List.map_nil,ck]
 |x::us=>by rw[dl,ck,i7 us];simp only[nI,lv,Nat.max_self]
theorem mK:∀us vs:List Nat,gR (nums us) (nums vs)=decide (us=vs)
 |[],[]=>by simp[nums,gR]
 |[],_::_=>by simp[nums,gR]
 |_::_,[]=>by simp[nums,gR]
 |x::us,y::vs=>by
  rw[dl,dl,zX,mK us vs,nI,nI,sW,Bool.eq_iff_iff]
  simp
  intro _
  omega
theorem aG {n x:Nat}(h:x<n):qh n (x:Int)=some x:=by
 unfold qh
 rw[if_pos (by omega),if_pos (by omega),Int.toNat_natCast]
theorem gt {ps:List PV}{x:Nat}{p:PV}(h:ps[x]?=some p):L2.atI ps (x:Int)=some p:=by
 unfold L2.atI
 have hx:x<ps.length:=(List.getElem?_eq_some_iff.mp h).1
 rw[aG hx]
 exact h
theorem R7 {a:PV}{l:List PV}:L2.atI (a::l) (0:Int)=some a:=gt (x:=0) rfl
theorem R6 {a b:PV}{l:List PV}:L2.atI (a::b::l) (1:Int)=some b:=gt (x:=1) rfl
theorem SO {a b c:PV}{l:List PV}:L2.atI (a::b::c::l) (2:Int)=some c:=gt (x:=2) rfl
theorem SN {a b c d:PV}{l:List PV}:L2.atI (a::b::c::d::l) (3:Int)=some d:=gt (x:=3) rfl
theorem vv {us:List Nat}{x:Nat}(hx:x<us.length):(nums us)[x]?=some (nI (up us x)):=by
 unfold nums
 rw[List.getElem?_map,List.getElem?_eq_getElem hx]
 simp[up,hx]
theorem ai {us:List Nat}{x:Nat}(hx:x<us.length):L2.atI (nums us) (x:Int)=some (nI (up us x)):=gt (vv hx)
theorem jd (us:List Nat)(y:Nat):L2.atI (nums (us++[y])) (-1)=some (nI y):=by
 unfold L2.atI qh
 rw[d8,List.length_append,if_neg (by decide),if_pos (by simp;omega)]
 have:(-1+((us.length+[y].length:Nat):Int)).toNat=us.length:=by simp;omega
 rw[this]
 show (nums (us++[y]))[us.length]?=_
 rw[vv (by simp)]
 simp[up]
theorem zh {l:List Nat}(h:l≠[]):L2.atI (nums l) (-1)=some (nI (bp l)):=by
 obtain⟨us,y,rfl⟩:∃us y,l=us++[y]:=⟨l.dropLast,l.getLast h,(List.dropLast_concat_getLast h).symm⟩
 rw[jd]
 simp[bp]
theorem mI (us:List Nat)(y:Nat):nums us++[PV.int y]=nums (us++[y]):=(uZ us [y]).symm
theorem bu (us:List Nat)(i v:Nat):(nums us).set i (PV.int v)=nums (us.set i v):=lY us i v
theorem Gr (n:Nat):qJ 0 n=nums (List.range n):=by
 unfold qJ nums
 exact List.map_congr_left fun i _=>by rw[nI,Int.zero_add]
theorem pI {us:List Nat}{v:PV}(h:v∈nums us):∃u∈us,v=nI u:=by
 obtain⟨u,hu,e⟩:=List.mem_map.mp h
 exact⟨u,hu,e.symm⟩
noncomputable def iL (ns:List Int):List PV:=ns.map PV.int
theorem DL (ns:List Int):(iL ns).length=ns.length:=List.length_map ..
theorem Mm {n:Nat}{lo:Int}{v:PV}(h:v∈qJ lo n):∃i:Int,v=.int i/\lo≤i/\i<lo+n:=by
 obtain⟨k,hk,rfl⟩:=List.mem_map.mp h
 have:=List.mem_range.mp hk
 exact⟨lo+k,rfl,by omega,by omega⟩
theorem xM (lo:Int)(n:Nat):(qJ lo n).length=n:=by simp[qJ]
theorem Oc {i:Int}(h:0≤i):PV.int i=nI i.toNat:=by rw[nI,Int.toNat_of_nonneg h]
theorem L0 (ns:List Int)(lo hi:Option Int):cut (iL ns) lo hi=iL (cut ns lo hi):=by
 unfold cut iL
 rw[List.length_map,List.map_take,List.map_drop]
theorem D5 (ns:List Nat)(lo hi:Option Int):cut (nums ns) lo hi=nums (cut ns lo hi):=by
 unfold cut nums
 rw[List.length_map,List.map_take,List.map_drop]
end Pu
namespace Fo
open PySem L2
structure Left (y:Str)(us:List Nat)(x h:Nat)(us':List Nat)(n:Nat)(l:List Nat):Prop where
 way:Way us x l
 hd:h=bp l
 st:n+1≤l.length
 AK:y ≠ "halves"->n+1=l.length
 sh:Shorter us us'
 off:∀t,t<us.length->t∉l->up us' t=up us t
 no:y = "none"->us'=us
theorem wd {us:List Nat}(f:Fst us){t:Nat}(ht:t<us.length):(up us t=t/\up us (up us t)=t)\/(up us t≠t/\∃l,Way us (up us t) l/\up us (up us t)∈l):=by
 by_cases e:up us t=t
 ·exact .inl ⟨e,by rw[e,e]⟩
 ·obtain⟨l,w,_⟩:=f.way (f.bnd t ht)
  exact .inr ⟨e,l,w,w.closed _ w.mem_self⟩
theorem RM.left {y:Str}{us:List Nat}{x h:Nat}{us':List Nat}{n:Nat}(f:Fst us)(hx:x<us.length)(r:RM y us x h us' n):∃l,Left y us x h us' n l:=by
 have self:=Shorter.refl f
 cases r with
 |none r=>
  obtain⟨rfl,l,w,e,hn⟩:=r
  exact⟨l,w,e,by omega,fun _=>hn,self,fun _ _ _=>rfl,fun _=>rfl⟩
 |whole r=>
  obtain⟨l,w,e,hn,len,hu⟩:=r
  refine⟨l,w,e,by omega,fun _=>hn,⟨len,fun t ht=>?_⟩,fun t ht hm=>by rw[hu,if_neg hm],fun z=>absurd z (by decide)⟩
  rw[hu]
  by_cases hm:t∈l
  ·rw[if_pos hm]
   obtain⟨l2,w2,e2,_,_⟩:=w.later t hm
   cases w2 with
   |head q=>exact .inl ⟨q,by rw[e,←e2];rfl⟩
   |step q w3=>exact .inr ⟨q,_,w3,by rw[e,←e2,bc w3.ne];exact lV w3.ne⟩
  ·rw[if_neg hm];exact self.up t ht
 |halves r=>
  obtain⟨l,w,e,hn,len,hu⟩:=r
  have pos:=w.pos
  refine⟨l,w,e,by omega,fun z=>absurd rfl z,⟨len,fun t ht=>?_⟩,fun t ht hm=>by rw[hu,if_neg fun q=>hm (fX l t q)],fun z=>absurd z (by decide)⟩
  rw[hu]
  by_cases hm:t∈bU l
  ·rw[if_pos hm];exact wd f ht
  ·rw[if_neg hm];exact self.up t ht
 |splits r=>
  obtain⟨l,w,e,hn,len,hu⟩:=r
  refine⟨l,w,e,by omega,fun _=>hn,⟨len,fun t ht=>?_⟩,fun t ht hm=>by rw[hu,if_neg hm],fun z=>absurd z (by decide)⟩
  rw[hu]
  by_cases hm:t∈l
  ·rw[if_pos hm];exact wd f ht
  ·rw[if_neg hm];exact self.up t ht
 |one r=>
  obtain⟨rfl,l,w,e,hn⟩:=r
  refine⟨l,w,e,by omega,fun _=>hn,⟨by rw[List.length_set],fun t ht=>?_⟩,fun t ht hm=>by rw[aT hx,if_neg fun q=>hm (by rw[q];exact w.mem_self)],fun z=>absurd z (by decide)⟩
  rw[aT hx]
  by_cases hm:t=x
  ·rw[if_pos hm,hm];exact wd f hx
  ·rw[if_neg hm];exact self.up t ht
theorem CT {us vs:List Nat}(h:us.length=vs.length)(e:∀t,up us t=up vs t):us=vs:=by
 apply List.ext_getElem h
 intro i h1 h2
 have:=e i
 simpa [up,h1,h2] using this
theorem RM.frst {y:Str}{us:List Nat}{x h:Nat}{us':List Nat}{n:Nat}(f:Frst us)(hx:x<us.length)(r:RM y us x h us' n):Frst us'/\us'.length=us.length:=by
 obtain⟨l,L⟩:=r.left f.fst hx
 have e:=L.sh.len
 exact⟨⟨by rw[e];exact f.one,by rw[e];exact f.most,L.sh.fst f.fst⟩,e⟩
end Fo
namespace Pu
open PySem L2 Fo
end Pu
end
section
namespace Dp
open PySem PySem.Spec L2 Pu
section
variable {X:Cx}{e a b c tg iter:Expr}{es:List Expr}{st:Stmt}{cC:List Stmt}{p pos:Pos}{f fa fb:FE}{fs:FA}{s u:FS}{i j k:Nat}{ba:FB}{x:Str}
noncomputable def L8 (f:FE):FE:=fun ρ=>(f ρ).bind fun r=>(jU r.pv).map fun ps=>.nw ps.reverse
theorem M5 {j1}{p2 p3 p4:Pos}(ha:DE X a fa):DE X (.Subscript a (.Slice none none (some (.UnaryOp .USub (.Constant (.int 1) j1 p3) p4)) p2) pos) (L8 fa):=
 .ofN (tn:=fun ρ Q=>tT fa ρ fun x=>OkL x fun ps=>Q ps.reverse) (PE.weak (FX ha.tt (HL B1 kh)) fun σ H Q hh_=>hh_.elim fun F ρ Qp er q k=>⟨F,ρ,_,er,q,fun p v F1 H1 q1 g1 r1=>by
   obtain⟨a,vs,ps,rfl,hs,rs,q⟩:=OkL.rd q1 g1.fh r1
   exact⟨1,rfl,rfl,a,vs,rfl,hs,fun p hp=>k _ p _ F1 _ q (g1.trans (.newO g1.fh hp _)) (g1.hh.free hp) (g1.fh.free hp) af rs.rev⟩⟩) fun ρ r e=>by
  obtain⟨x,e1,e2⟩:=Option.bind_eq_some_iff.mp e
  obtain⟨ps,e3,rfl⟩:=Option.map_eq_some_iff.mp e2
  exact⟨_,rfl,x,e1,gD e3 rfl⟩
noncomputable def xk:List Int->Int
 |[]=>0
 |[i]=>i
 |i::j::l=>max i (xk (j::l))
noncomputable def wf:List Int->Int
 |[]=>0
 |[i]=>i
 |i::j::l=>min i (wf (j::l))
theorem yQ:∀{l:List Int},0<l.length->xk l∈l/\∀a∈l,a≤xk l
 |[i],_=>by simp[xk]
 |i::j::l,_=>by
  obtain⟨h1,h2⟩:=yQ (l:=j::l) (by simp)
  rw[xk]
  refine⟨?_,fun a ha=>?_⟩
  ·by_cases h:i≤xk (j::l)
   ·rw[Int.max_eq_right h];exact List.mem_cons_of_mem _ h1
   ·rw[Int.max_eq_left (by omega)];exact List.mem_cons_self
  ·rcases List.mem_cons.mp ha with rfl|ha
   ·exact Int.le_max_left _ _
   ·exact Int.le_trans (h2 a ha) (Int.le_max_right _ _)
theorem xE:∀{l:List Int},0<l.length->wf l∈l/\∀a∈l,wf l≤a
 |[i],_=>by simp[wf]
 |i::j::l,_=>by
  obtain⟨h1,h2⟩:=xE (l:=j::l) (by simp)
  rw[wf]
  refine⟨?_,fun a ha=>?_⟩
  ·by_cases h:i≤wf (j::l)
   ·rw[Int.min_eq_left h];exact List.mem_cons_self
   ·rw[Int.min_eq_right (by omega)];exact List.mem_cons_of_mem _ h1
  ·rcases List.mem_cons.mp ha with rfl|ha
   ·exact Int.min_le_left _ _
   ·exact Int.le_trans (Int.min_le_right _ _) (h2 a ha)
noncomputable def kL (g:List Int->Int):List PV->Option RV
 |[p]=>(jU p).bind fun ps=>(eY ps).bind fun is=>if is.length=0 then none else some (.fz (.int (g is)))
 |_=>none
noncomputable def Ib:=kL xk
noncomputable def Hy:=kL wf
noncomputable def cL (R:List Int->Int->Prop):vo:=fun ps Q=>One ps fun p=>OkL p fun ps=>∃is,eY ps=some is/\0<is.length/\∀M,R is M->Q (.int M)
theorem PK {R:List Int->Int->Prop}:kP X.K (fun xs H Q=>∃(p:Addr) (ns:List Int),xs=[.ref p]/\SqL X.K H p (ns.map V.int)/\0<ns.length/\∀M,R ns M->Q (.int M) H) (cL R):=fun F H xs ps Qp Q s r h k=>by
 obtain⟨p,v,rfl,rfl,r,h⟩:=h.rd r
 obtain⟨a,vs,ps,rfl,hs,rs,is,e,hl,h⟩:=h.rd s r
 rw[kr e] at rs
 rw[kc rs] at hs
 exact⟨a,is,rfl,hs,hl,fun M hM=>k _ _ F H (h M hM) (.refl s) rfl⟩
theorem HJ {g:List Int->Int}{R:List Int->Int->Prop}(hg:∀is M,R is M->0<is.length->M=g is):∀ps r,kL g ps=some r->∃p,r=.fz p/\cL R ps (fun z=>z=p):=fun ps r h=>by
 unfold kL at h
 split at h
 ·obtain⟨qs,e1,h⟩:=Option.bind_eq_some_iff.mp h
  obtain⟨is,e2,h⟩:=Option.bind_eq_some_iff.mp h
  split at h
  ·cases h
  ·next z=>cases h;exact⟨_,rfl,gD e1 ⟨is,e2,by omega,fun M hM=>by rw[hg is M hM (by omega)]⟩⟩
 ·cases h
theorem Lx (hm:X.mg "max" = none)(ha:DA X (e::es) fs)(hc:X.calm=true:=by rfl)(hg:Gl X "max":=by rfl)(he:starEach (e::es) X.env=(false,eval e X.env)::starEach es X.env:=by rfl)(hpl:(backTo pos (starEach es X.env)).any (·.1)=false:=by rfl) :
  DE X (.Call (.Name "max" p) (e::es) [] pos) (fB Ib fs):=mm (PK (R:=fun is M=>M∈is/\∀a∈is,a≤M)) (HJ fun is M h hl=>by
   obtain⟨h1,h2⟩:=yQ hl
   exact Int.le_antisymm (h2 M h.1) (h.2 _ h1)) (PE.weak (cG (zu hc) hg hm Cb ha.t (by decide) (by decide) he hpl) fun σ H Q hh_=>hh_.elim fun F ρ Qp er q k=>⟨F,ρ,Qp,er,q,fun ps vs F' H' h1 g r=>by
   obtain⟨p,ns,e1,e2,e3,e4⟩:=k ps vs F' H' h1 g r
   exact⟨p,ns,e1,e2,e3,fun M h h'=>e4 M ⟨h,h'⟩⟩⟩)
theorem IZ (hm:X.mg "min" = none)(ha:DA X (e::es) fs)(hc:X.calm=true:=by rfl)(hg:Gl X "min":=by rfl)(he:starEach (e::es) X.env=(false,eval e X.env)::starEach es X.env:=by rfl)(hpl:(backTo pos (starEach es X.env)).any (·.1)=false:=by rfl) :
  DE X (.Call (.Name "min" p) (e::es) [] pos) (fB Hy fs):=mm (PK (R:=fun is M=>M∈is/\∀a∈is,M≤a)) (HJ fun is M h hl=>by
   obtain⟨h1,h2⟩:=xE hl
   exact Int.le_antisymm (h.2 _ h1) (h2 M h.1)) (PE.weak (cG (zK hc) hg hm Br ha.t (by decide) (by decide) he hpl) fun σ H Q hh_=>hh_.elim fun F ρ Qp er q k=>⟨F,ρ,Qp,er,q,fun ps vs F' H' h1 g r=>by
   obtain⟨p,ns,e1,e2,e3,e4⟩:=k ps vs F' H' h1 g r
   exact⟨p,ns,e1,e2,e3,fun M h h'=>e4 M ⟨h,h'⟩⟩⟩)
noncomputable def r6:List PV->Option RV
 |[p]=>(jU p).bind fun ps=>(eY ps).map fun is=>.fz (.int is.sum)
 |_=>none
noncomputable def Ox:vo:=fun ps Q=>One ps fun p=>OkL p fun ps=>∃is,eY ps=some is/\Q (.int is.sum)
theorem KI:kP X.K (fun xs H Q=>∃(p:Addr) (ns:List Int),xs=[.ref p]/\SqL X.K H p (ns.map V.int)/\Q (.int ns.sum) H) Ox:=fun F H xs ps Qp Q s r h k=>by
 obtain⟨p,v,rfl,rfl,r,h⟩:=h.rd r
 obtain⟨a,vs,ps,rfl,hs,rs,is,e,h⟩:=h.rd s r
 rw[kr e] at rs
 rw[kc rs] at hs
 exact⟨a,is,rfl,hs,k _ _ F H h (.refl s) rfl⟩
theorem Gq:∀ps r,r6 ps=some r->∃p,r=.fz p/\Ox ps (fun z=>z=p):=fun ps r h=>by
 unfold r6 at h
 split at h
 ·obtain⟨qs,e1,h⟩:=Option.bind_eq_some_iff.mp h
  obtain⟨is,e2,rfl⟩:=Option.map_eq_some_iff.mp h
  exact⟨_,rfl,gD e1 ⟨is,e2,rfl⟩⟩
 ·cases h
theorem NO (hm:X.mg "sum" = none)(ha:DA X (e::es) fs)(hc:X.calm=true:=by rfl)(hg:Gl X "sum":=by rfl)(he:starEach (e::es) X.env=(false,eval e X.env)::starEach es X.env:=by rfl)(hpl:(backTo pos (starEach es X.env)).any (·.1)=false:=by rfl) :
  DE X (.Call (.Name "sum" p) (e::es) [] pos) (fB r6 fs):=mm KI Gq (cG (Ah hc) hg hm PyProof.Rows.boot_sum ha.t (by decide) (by decide) he hpl)
noncomputable def j2 (g:Int->Int->Int)(j:Nat)(fi f:FE):FS:=fun ρ=>match sl ρ j,(fi ρ).bind RV.fr,(f ρ).bind RV.fr with
 |some (.own ps),some (.int k),some (.int b)=>if 0≤k then (match ps[k.toNat]? with
  |some (.int a)=>.nx (ρ.set j (some (.own (ps.set k.toNat (.int (g a b))))))
  |_=>.bad) else .bad
 |_,_,_=>.bad
theorem Gw {g:Int->Int->Int}{o ix e:Expr}{fi:FE}{op:Operator}{tpos:Pos}(ho:PE X o (cR j))(hi:DE X ix fi)(he:DE X e f)(hp:Mx X op (kJ g))
  (ha:∀ov iv new,augStore ix ov iv new=(do holding [new,ov,iv] (setItem ov iv new);release [new,ov,iv] [];pure .next):=by intros;rfl):DS X (.AugAssign (.Subscript o ix tpos) op e pos) (j2 g j fi f):=
 PS.weak (EJ ho hi.ee B7 he.ee hp jf ha) fun D σ H hh_=>hh_.elim fun F0 H0 F ρ Dp br h ft=>by
  unfold m6 j2 at h
  split at h
  ·next ps k b e1 e2 e3=>
   split at h
   ·next k0=>
    split at h
    ·next a0 ea=>
     obtain⟨r1,e4,e5⟩:=Option.bind_eq_some_iff.mp e2
     obtain⟨r2,e6,e7⟩:=Option.bind_eq_some_iff.mp e3
     obtain⟨a,vs,ev,ow,k1,k2,k3⟩:=br.ownAt (hR e1)
     refine⟨_,ev,F,ρ,_,br.er,⟨r1,_,e4,e5,rfl⟩,fun q w F1 H1 hq g1 rr=>?_⟩
     subst hq
     cases (show w=.int k from rr)
     have kk:=g1.keep k2 k1
     have hlt:k.toNat<ps.length:=(List.getElem?_eq_some_iff.mp ea).1
     obtain⟨v,ev2,rv⟩:=k3.get ea
     cases (show v=.int a0 from rv)
     have hix:qh vs.length k=some k.toNat:=by
      have:=aG (n:=vs.length) (x:=k.toNat) (by rw[k3.length];exact hlt)
      rwa [Int.toNat_of_nonneg k0] at this
     refine⟨a,vs,k,.int a0,rfl,rfl,k0,SqL.of kk.2,?_,?_⟩
     ·unfold L2.atI;rw[hix];exact ev2
     ·refine⟨F1,ρ,_,br.er.grow g1,⟨r2,_,e6,e7,rfl⟩,fun q w F2 H2 hq g2 rr=>?_⟩
      subst hq
      cases (show w=.int b from rr)
      have kk2:=g2.keep kk.1 kk.2
      refine⟨a0,b,rfl,rfl,a,vs,k,k.toNat,rfl,rfl,kk2.2,hix,?_⟩
      have g12:=g1.trans g2
      exact ft.nx F2 _ σ _ h ((br.grow g12).mut (s:=.own _) ow rfl ⟨a,_,rfl,af,kk2.1,(k3.mono g12.ff).set (show Rep X.K F2 (.int (g a0 b)) (.int (g a0 b)) from rfl) k.toNat⟩)
    ·exact h.elim
   ·exact h.elim
  ·exact h.elim
end
end Dp
end
section
namespace Fo
open PySem
noncomputable def hV (us:List Nat):Nat->Nat->List Nat
 |0,x=>[x]
 |n+1,x=>if up us x=x then [x] else x::hV us n (up us x)
noncomputable def way (us:List Nat)(x:Nat):List Nat:=hV us us.length x
theorem GA {us:List Nat}{x:Nat}{l:List Nat}(w:Way us x l):∀{n:Nat},l.length≤n+1->hV us n x=l:=by
 induction w with
 | @head x e=>
  intro n h
  cases n with
  |zero=>rfl
  |succ n=>rw[hV,if_pos e]
 | @step x l ne w ih=>
  intro n h
  cases n with
  |zero=>have:=w.pos;rw[List.length_cons] at h;omega
  |succ n=>rw[hV,if_neg ne,ih (by simpa using h)]
theorem fG {us:List Nat}{x:Nat}{l:List Nat}(f:Fst us)(hx:x<us.length)(w:Way us x l):way us x=l:=by
 obtain⟨l',w',h⟩:=f.way hx
 cases w.det w'
 exact GA w (by omega)
theorem aI {us:List Nat}{x:Nat}(f:Fst us)(hx:x<us.length):Way us x (way us x):=by
 obtain⟨l,w,_⟩:=f.way hx
 rw[fG f hx w];exact w
theorem nP {us:List Nat}{x:Nat}(f:Fst us)(hx:x<us.length):(way us x).length≤us.length:=by
 obtain⟨l,w,h⟩:=f.way hx
 rw[fG f hx w];exact h
noncomputable def hd (us:List Nat)(x:Nat):Nat:=bp (way us x)
noncomputable def dp (us:List Nat)(x:Nat):Nat:=(way us x).length - 1
noncomputable def m8 (y:Str)(us:List Nat)(x t:Nat):Nat:=
 if y = "whole" then (if t∈way us x then hd us x else up us t)
 else if y = "halves" then (if t∈bU (way us x) then up us (up us t) else up us t)
 else if y = "splits" then (if t∈way us x then up us (up us t) else up us t)
 else if y = "one" then (if t=x then up us (up us t) else up us t)
 else up us t
noncomputable def b0 (y:Str)(us:List Nat)(x:Nat):List Nat:=(List.range us.length).map (m8 y us x)
noncomputable def jJ (y:Str)(us:List Nat)(x:Nat):Nat:=if y = "halves" then (way us x).length / 2 else dp us x
theorem nY {us:List Nat}{t:Nat}(h:us.length≤t):up us t=0:=by
 unfold up;rw[List.getD_eq_getElem?_getD,List.getElem?_eq_none h];rfl
theorem bV (y:Str)(us:List Nat)(x:Nat):(b0 y us x).length=us.length:=by unfold b0;rw[List.length_map,List.length_range]
theorem mQ {y:Str}{us:List Nat}{x t:Nat}(h:t<us.length):up (b0 y us x) t=m8 y us x t:=by
 unfold up b0
 rw[List.getD_eq_getElem?_getD,List.getElem?_map,List.getElem?_range h];rfl
theorem gU {y:Str}{us us':List Nat}{x:Nat}(hl:us'.length=us.length)(h:∀t,t<us.length->up us' t=m8 y us x t):us'=b0 y us x:=by
 refine CT (by rw[hl,bV]) fun t=>?_
 by_cases ht:t<us.length
 ·rw[h t ht,mQ ht]
 ·rw[nY (by omega),nY (by rw[bV];omega)]
theorem RM.fun {y:Str}{us:List Nat}{x h:Nat}{us':List Nat}{n:Nat}(f:Fst us)(hx:x<us.length)(r:RM y us x h us' n):h=hd us x/\us'=b0 y us x/\n=jJ y us x:=by
 cases r with
 |none r=>
  obtain⟨rfl,l,w,e,hn⟩:=r
  rw[←fG f hx w] at e hn
  refine⟨e,gU rfl fun t ht=>rfl,?_⟩
  show n=dp us' x
  unfold dp;omega
 |whole r=>
  obtain⟨l,w,e,hn,hl,hu⟩:=r
  rw[←fG f hx w] at e hn hu
  refine⟨e,gU hl fun t ht=>?_,?_⟩
  ·rw[hu t,e];rfl
  ·show n=dp us x
   unfold dp;omega
 |halves r=>
  obtain⟨l,w,e,hn,hl,hu⟩:=r
  rw[←fG f hx w] at e hn hu
  exact⟨e,gU hl fun t ht=>by rw[hu t];rfl,hn⟩
 |splits r=>
  obtain⟨l,w,e,hn,hl,hu⟩:=r
  rw[←fG f hx w] at e hn hu
  refine⟨e,gU hl fun t ht=>by rw[hu t];rfl,?_⟩
  show n=dp us x
  unfold dp;omega
 |one r=>
  obtain⟨rfl,l,w,e,hn⟩:=r
  rw[←fG f hx w] at e hn
  refine⟨e,gU (List.length_set) fun t ht=>?_,?_⟩
  ·rw[aT hx]
   show (if t=x then up us (up us x) else up us t)=if t=x then up us (up us t) else up us t
   by_cases q:t=x
   ·rw[if_pos q,if_pos q,q]
   ·rw[if_neg q,if_neg q]
  ·show n=dp us x
   unfold dp;omega
theorem tJ (us:List Nat)(k x:Nat):Nat.repeat (up us) (k+1) x=Nat.repeat (up us) k (up us x):=by
 induction k with
 |zero=>rfl
 |succ k ih=>
  show up us (Nat.repeat (up us) (k+1) x)=up us (Nat.repeat (up us) k (up us x))
  rw[ih]
theorem zl {us:List Nat}{x:Nat}{l:List Nat}(w:Way us x l):∀k,l.length≤k+1->up us (Nat.repeat (up us) k x)=Nat.repeat (up us) k x:=by
 induction w with
 | @head x e=>
  intro k _
  have:Nat.repeat (up us) k x=x:=by
   induction k with
   |zero=>rfl
   |succ k ih=>show up us (Nat.repeat (up us) k x)=x;rw[ih (by simp)];exact e
  rw[this];exact e
 | @step x l n w ih=>
  intro k hk
  have pos:=w.pos
  cases k with
  |zero=>rw[List.length_cons] at hk;omega
  |succ k=>rw[tJ];exact ih k (by simpa using hk)
noncomputable def Ms (us:List Nat):Bool:=decide (1≤us.length)&&decide (us.length≤40)&&us.all (fun u=>decide (u<us.length))&&(List.range us.length).all fun x=>decide (up us (Nat.repeat (up us) (us.length - 1) x)=Nat.repeat (up us) (us.length - 1) x)
theorem uh {us:List Nat}:∀(k y:Nat),up us (Nat.repeat (up us) k y)=Nat.repeat (up us) k y->∀m,k≤m->hV us m y=hV us k y:=fun k=>by
 induction k with
 |zero=>
  intro y h m _
  cases m with
  |zero=>rfl
  |succ m=>have e:hV us (m+1) y=if up us y=y then [y] else y::hV us m (up us y):=rfl;rw[e,if_pos (show up us y=y from h)];rfl
 |succ k ih=>
  intro y h m hm
  cases m with
  |zero=>omega
  |succ m=>
   rw[hV,hV]
   by_cases e:up us y=y
   ·rw[if_pos e,if_pos e]
   ·rw[if_neg e,if_neg e,ih (up us y) (by rw[←tJ];exact h) m (by omega)]
theorem yP (us:List Nat):∀(n x:Nat),(hV us n x).length≤n+1
 |0,x=>by rw[hV];simp
 |n+1,x=>by
  rw[hV]
  split
  ·simp
  ·rw[List.length_cons];have:=yP us n (up us x);omega
theorem C7 (us:List Nat):∀(n x:Nat),1≤(hV us n x).length
 |0,x=>by rw[hV];simp
 |n+1,x=>by
  rw[hV]
  split<;>simp
theorem KZ {us:List Nat}(h:Ms us=true):Frst us:=by
 unfold Ms at h
 rw[Bool.and_eq_true,Bool.and_eq_true,Bool.and_eq_true,decide_eq_true_eq,decide_eq_true_eq,List.all_eq_true,List.all_eq_true] at h
 obtain⟨⟨⟨h1,h2⟩,h3⟩,h4⟩:=h
 have bnd:∀x,x<us.length->up us x<us.length:=fun x hx=>by
  have:=h3 us[x] (List.getElem_mem hx)
  rw[decide_eq_true_eq] at this
  show us.getD x 0<_
  rw[List.getD_eq_getElem?_getD,List.getElem?_eq_getElem hx];exact this
 refine⟨h1,h2,bnd,fun x=>(hV us (us.length - 1) x).length - 1,fun x hx=>?_,fun x hx ne=>?_⟩
 ·have:=yP us (us.length - 1) x
  show (hV us (us.length - 1) x).length - 1<us.length
  omega
 ·have hf:=h4 x (List.mem_range.mpr hx)
  rw[decide_eq_true_eq] at hf
  have hu:=h4 (up us x) (List.mem_range.mpr (bnd x hx))
  rw[decide_eq_true_eq] at hu
  show (hV us (us.length - 1) (up us x)).length - 1<(hV us (us.length - 1) x).length - 1
  cases hn:us.length - 1 with
  |zero=>rw[hn] at hf;exact absurd hf ne
  |succ n=>
   rw[hn,tJ] at hf
   have e:=uh n (up us x) hf (n+1) (by omega)
   have e2:hV us (n+1) x=x::hV us n (up us x):=by rw[hV,if_neg ne]
   rw[e,e2,List.length_cons]
   have:=C7 us n (up us x)
   omega
theorem JL {us:List Nat}(f:Frst us):Ms us=true:=by
 unfold Ms
 rw[Bool.and_eq_true,Bool.and_eq_true,Bool.and_eq_true,decide_eq_true_eq,decide_eq_true_eq,List.all_eq_true,List.all_eq_true]
 refine⟨⟨⟨f.one,f.most⟩,fun u hu=>?_⟩,fun x hx=>?_⟩
 ·obtain⟨i,hi,rfl⟩:=List.mem_iff_getElem.mp hu
  have:=f.fst.bnd i hi
  rw[decide_eq_true_eq]
  unfold up at this
  rwa [List.getD_eq_getElem?_getD,List.getElem?_eq_getElem hi] at this
 ·rw[decide_eq_true_eq]
  obtain⟨l,w,hl⟩:=f.fst.way (List.mem_range.mp hx)
  have:=f.one
  exact zl w _ (by omega)
end Fo
namespace Dp
open PySem L2 Pu Fo
noncomputable def j9:List PV->Option (List Nat)
 |[]=>some []
 |.int i::ps=>if 0≤i then (j9 ps).map fun us=>i.toNat::us else none
 |_=>none
theorem nj:∀us:List Nat,j9 (nums us)=some us
 |[]=>rfl
 |u::us=>by
  show j9 (.int (u:Int)::nums us)=_
  rw[j9,if_pos (by omega),nj us];rfl
theorem zQ:∀{ps:List PV} {us:List Nat},j9 ps=some us->ps=nums us:=fun {ps}=>by
 induction ps with
 |nil=>intro us h;cases h;rfl
 |cons p ps ih=>
  intro us h
  cases p<;>first|(cases h;done)|skip
  next i=>
  rw[j9] at h
  split at h
  ·next z=>
   obtain⟨us',e1,rfl⟩:=Option.map_eq_some_iff.mp h
   rw[ih e1,dl,nI,Int.toNat_of_nonneg z]
  ·cases h
noncomputable def dI (qs:List PV):Option PR:=match qs with
 |[.str y]=>some (.v (.bl (decide (y∈manners))))
 |_=>none
noncomputable def fj (qs:List PV):Option PR:=match qs with
 |[.tup ps,.str y,.int x]=>match j9 ps with
  |some us=>if Ms us=true/\y∈manners/\0≤x/\x<us.length then some (.v (.tup [nI (hd us x.toNat),.tup (nums (b0 y us x.toNat)),nI (jJ y us x.toNat)])) else none
  |none=>none
 |_=>none
section
variable {P:Program}{w:World}{K:PySem.W.Frag}{mg:Str->Option Value}{base:Heap}{k:Nat}{ps:List Str}{x:Str}
theorem y2 {φ ψ:yN}(h:∀qs Q,ψ qs Q->φ qs Q)(d:Def P w K mg base k x ps (aP K φ)):Def P w K mg base k x ps (aP K ψ):=Pu.Def.imp d fun vs H Q E ⟨F,qs,Qp,s,r,q,z⟩=>⟨F,qs,Qp,s,r,h qs Qp q,z⟩
theorem uw (d:Def P w K mg base k x ps (aP K oX)):Def P w K mg base k x ps (aP K (be dI)):=y2 (fun qs Q ⟨r,e,q⟩=>by
 unfold dI at e
 split at e
 ·cases e;exact⟨_,rfl,q⟩
 ·cases e) d
theorem wT (d:Def P w K mg base k x ps (aP K rH)):Def P w K mg base k x ps (aP K (be fj)):=y2 (fun qs Q ⟨r,e,q⟩=>by
 unfold fj at e
 split at e
 ·next pp y xx _=>
  split at e
  ·next us eu=>
   split at e
   ·next z=>
    cases e
    have f:=KZ z.1
    refine⟨us,y,xx.toNat,?_,f,z.2.1,?_,fun h us' n r=>?_⟩
    ·rw[zQ eu,nI,Int.toNat_of_nonneg z.2.2.1]
    ·have:=z.2.2;omega
    ·obtain⟨rfl,rfl,rfl⟩:=r.fun f.fst (by have:=z.2.2;omega)
     exact q
   ·cases e
  ·cases e
 ·cases e) d
end
theorem Ag {us:List Nat}(f:Frst us){y:Str}(hy:y∈manners){x:Nat}(hx:x<us.length):fj [.tup (nums us),.str y,nI x]=some (.v (.tup [nI (hd us x),.tup (nums (b0 y us x)),nI (jJ y us x)])):=by
 show (match j9 (nums us) with
  |some us=>if Ms us=true/\y∈manners/\0≤(x:Int)/\(x:Int)<us.length then some (PR.v (.tup [nI (hd us (x:Int).toNat),.tup (nums (b0 y us (x:Int).toNat)),nI (jJ y us (x:Int).toNat)])) else none
  |none=>none)=_
 rw[nj]
 show (if _ then _ else _)=_
 rw[if_pos ⟨JL f,hy,by omega,by omega⟩,Int.toNat_natCast]
theorem wO (y:Str):dI [.str y]=some (.v (.bl (decide (y∈manners)))):=rfl
end Dp
namespace Lo
open PySem Fo Pu
noncomputable def P3 (acc:List (Nat×List Nat))(h x:Nat):List (Nat×List Nat):=
 if acc.any (fun t=>decide (t.1=h)) then acc.map (fun t=>if t.1=h then (t.1,t.2++[x]) else t) else acc++[(h,[x])]
noncomputable def Pd (us:List Nat)(n:Nat):List (Nat×List Nat):=(List.range n).foldl (fun acc x=>P3 acc (hd us x) x) []
noncomputable def DN (us:List Nat):List (List Nat):=(Pd us us.length).map (·.2)
end Lo
namespace Dp
open PySem L2 Pu Fo Lo
end Dp
end
section
namespace Fo
open PySem L2
theorem dE {us:List Nat}{x t:Nat}(f:Fst us)(hx:x<us.length)(h:t∈way us x):t<us.length:=(aI f hx).lt f.bnd hx t h
theorem Bs {us:List Nat}(f:Fst us){x:Nat}(hx:x<us.length){y:Str}(hy:y∈manners):RM y us x (hd us x) (b0 y us x) (jJ y us x):=by
 have w:=aI f hx
 have pos:=w.pos
 have low:∀t,us.length≤t->up (b0 y us x) t=0/\up us t=0/\t∉way us x:=fun t ht=>⟨nY (by rw[bV];omega),nY ht,fun q=>by have:=dE f hx q;omega⟩
 have hdp:dp us x+1=(way us x).length:=by unfold dp;omega
 rcases (show y = "none"\/y = "whole"\/y = "halves"\/y = "splits"\/y = "one" by simpa [manners] using hy) with rfl|rfl|rfl|rfl|rfl
 ·exact .none ⟨(gU rfl fun t ht=>rfl).symm,_,w,rfl,hdp⟩
 ·refine .whole ⟨_,w,rfl,hdp,bV ..,fun t=>?_⟩
  by_cases ht:t<us.length
  ·rw[mQ ht];rfl
  ·obtain⟨a,b,c⟩:=low t (by omega)
   rw[a,b,if_neg c]
 ·refine .halves ⟨_,w,rfl,rfl,bV ..,fun t=>?_⟩
  by_cases ht:t<us.length
  ·rw[mQ ht];rfl
  ·obtain⟨a,b,c⟩:=low t (by omega)
   rw[a,b,if_neg fun q=>c (fX _ _ q)]
 ·refine .splits ⟨_,w,rfl,hdp,bV ..,fun t=>?_⟩
  by_cases ht:t<us.length
  ·rw[mQ ht];rfl
  ·obtain⟨a,b,c⟩:=low t (by omega)
   rw[a,b,if_neg c]
 ·refine .one ⟨(gU (List.length_set) fun t ht=>?_).symm,_,w,rfl,hdp⟩
  rw[aT hx]
  show (if t=x then up us (up us x) else up us t)=if t=x then up us (up us t) else up us t
  by_cases q:t=x
  ·rw[if_pos q,if_pos q,q]
  ·rw[if_neg q,if_neg q]
theorem fJ {us:List Nat}(f:Frst us){x:Nat}(hx:x<us.length){y:Str}(hy:y∈manners):Frst (b0 y us x):=((Bs f.fst hx hy).frst f hx).1
theorem lL {us:List Nat}{x:Nat}(f:Fst us)(hx:x<us.length)(e:up us x=x):way us x=[x]:=fG f hx (.head e)
theorem uC {us:List Nat}{x:Nat}(f:Fst us)(hx:x<us.length)(e:up us x≠x):way us x=x::way us (up us x):=fG f hx (.step e (aI f (f.bnd x hx)))
theorem gy {us:List Nat}{x:Nat}(f:Fst us)(hx:x<us.length)(e:up us x=x):hd us x=x:=by unfold hd;rw[lL f hx e];rfl
theorem Fq {us:List Nat}{x:Nat}(f:Fst us)(hx:x<us.length)(e:up us x≠x):hd us x=hd us (up us x):=by
 unfold hd
 rw[uC f hx e,bc (aI f (f.bnd x hx)).ne]
theorem NH {us:List Nat}{x:Nat}(f:Fst us)(hx:x<us.length):hd us (up us x)=hd us x:=by
 by_cases e:up us x=x
 ·rw[e]
 ·exact (Fq f hx e).symm
theorem oy {us:List Nat}{x:Nat}(f:Fst us)(hx:x<us.length):up us (hd us x)=hd us x:=(aI f hx).head_last
theorem kG {us:List Nat}{x:Nat}(f:Fst us)(hx:x<us.length):hd us x<us.length:=dE f hx (lV (aI f hx).ne)
theorem Dq {us:List Nat}(f:Fst us){x:Nat}(hx:x<us.length){y:Str}(hy:y∈manners){t:Nat}(ht:t<us.length):hd (b0 y us x) t=hd us t/\dp (b0 y us x) t≤dp us t:=by
 obtain⟨l,L⟩:=(Bs f hx hy).left f hx
 obtain⟨l',w',e1,e2⟩:=L.sh.way f ht (aI f ht)
 have f':=L.sh.fst f
 have:=fG f' (by rw[bV];exact ht) w'
 unfold hd dp
 rw[this]
 exact⟨e1,by omega⟩
end Fo
end
section
namespace L2
open PySem PyProof.Rows PySem.W
section
variable {n:Nat}{lt:Nat->Nat->Bool}{p:Array Nat}
end
end L2
end
section
namespace L2
open PySem PySem.Spec PyProof.Rows PySem.W
noncomputable def uv (is:List Int):List Int:=is.mergeSort fun a b=>decide (a≤b)
theorem rj (is:List Int):(uv is).Perm is:=List.mergeSort_perm ..
theorem GV (is:List Int):(uv is).Pairwise (·≤·):=by
 have:=List.pairwise_mergeSort (le:=fun a b:Int=>decide (a≤b)) (fun a b c h1 h2=>by simp only[decide_eq_true_eq] at *;omega) (fun a b=>by simp only[Bool.or_eq_true,decide_eq_true_eq];omega) is
 exact this.imp fun h=>by simpa using h
theorem E8 {is js:List Int}(p:js.Perm is)(u:js.Pairwise (·≤·)):js=uv is:=
 List.Perm.eq_of_pairwise (fun a b _ _ h1 h2=>Int.le_antisymm h1 h2) u (GV is) (p.trans (rj is).symm)
theorem mn:∀{is:List Int} {vs:List Value},Vals (is.map V.int) vs->IntsAre vs is
 |[],_,r=>by cases r;exact .nil
 |i::is,_,r=>by
  cases r with
  |cons r1 r2=>obtain⟨t,rfl⟩:=r1;exact .cons i t (mn r2)
theorem tP {is:List Int}{vs:List Value}(h:IntsAre vs is):Vals (is.map V.int) vs:=by
 induction h with
 |nil=>exact .nil
 |cons n t _ ih=>exact .cons ⟨t,rfl⟩ ih
theorem wU {prog:Program}{w:World}{A:Around}{E:Value->Shared->Prop}{s:Shared}{p:Addr}{T:String}{o:Obj}{vs:List Value}{n:Nat}{is:List Int}{Q:Value->Shared->Prop}(hT:T = "list"\/T = "tuple")
  (ho:s.heap.get? p=some o) (hc:o.cls=.type T) (hd:o.data=.seq vs.toArray n) (hi:IntsAre vs is) (h64:vs.length<64)
  (h:∀(h1 h':Heap) (D:Addr) (out:List Value) (js:List Int) (e:Nat),(∀b u,s.heap.get? b=some u->h1.get? b=some u)->(∀b u,h1.get? b=some u->h'.get? b=some u)->h1.objs.size≤D->h'.get? D=some (seqObj "list" out.toArray e)->IntsAre out js->js.Perm is->js.Pairwise (·≤·)->Q (.ref D) { s with heap:=h' }) :
  wpAny (model prog w) A (call (.builtin "sorted") [.ref p]) Q E s:=by
 refine Calls.call_function_entry kind_sorted plain_sorted entry_sorted (args_sorted1 _) ?_
 unfold Builtin.«sorted»
 refine wpAny_bind (m:=checkCount "sorted" 1 1 _) (wpAny_pure (wpAny_bind (wpAny_collect_seq p hT ho hc hd (fun h' keep=>wpAny_bind (wpAny_newList ?_ (by show vs.length≤_;rw[sizeLine_eq];omega))) (by rw[List.size_toArray,sizeLine_eq];omega))))
 have hoL:(h'.push (seqObj "list" vs.toArray 0)).get? h'.objs.size=some (seqObj "list" vs.toArray 0):=Heap.get?_push_size _ rfl
 show wpAny _ _ _ _ _ { s with heap:=h'.push (seqObj "list" vs.toArray 0) }
 refine wpAny_bind (wpAny_holding (wpAny_call_entry slot_list_sort ⟨_,hoL,rfl⟩ entry_list_sort (list_sort_tree hoL hi h64 fun out ns h1 h2 h3=>⟨_,rfl,?_⟩) (args_list_sort _)))
 obtain⟨e,he⟩:=sortedHeap_at (vs:=vs) (out:=out) hoL
 exact wpAny_pure ⟨_,rfl,h h' _ _ out.toList ns e keep (fun b u z1=>by
  have z2:=Heap.get?_push_of_some (seqObj "list" vs.toArray 0) z1
  rw[sortedHeap_old (Nat.ne_of_lt (Heap.lt_size z1)) (Heap.lt_size z2)];exact z2) (Nat.le_refl _) (by rw[he]) h1 h2 h3⟩
theorem sd {X:Cx}:d7 X (.builtin "sorted") (fun xs H Q=>∃p is,xs=[.ref p]/\(SqL X.K H p (is.map V.int)\/SqT X.K H p (is.map V.int))/\is.length<64/\∀l,H l=none->Q (.ref l) (upd H l (.lst ((uv is).map V.int)))):=by
 intro pins s σ H xs us Q I r h
 obtain⟨p,is,rfl,hq,h64,q⟩:=h
 obtain⟨u,rfl,rx⟩:=gX r
 cases rx
 have main:∀(its:List Value) (T:String) (o:Obj) (n:Nat),(T = "list"\/T = "tuple")->s.heap.get? p=some o->o.cls=.type T->o.data=.seq its.toArray n->Vals (is.map V.int) its →
   wpAny (model X.prog X.w) X.A (call (.builtin "sorted") [.ref p]) (EP X pins σ Q) X.xe s:=fun its T o n hT ho hc hd rv=>by
  have hl:=rv.length
  rw[List.length_map] at hl
  refine wU hT ho hc hd (mn rv) (by omega) fun h1 h' D out js e k1 k2 hD hh hi hp hu=>?_
  rw[E8 hp hu] at hi
  have r2:=tP hi
  have hz:((uv is).map V.int).length≤sizeLine:=by rw[List.length_map,(rj is).length_eq,sizeLine_eq];omega
  have I1:Inv X pins σ H { s with heap:=h1 }:=I.kept (t':=s.toks) k1
  exact⟨.ref D,_,I1.laid (t':=s.toks) k2 hD (show ObjOk X.prog X.w _ _ _ (.lst _) from⟨hz,out,e,r2,hh⟩),rfl,q _ (I1.hok.fresh hD)⟩
 rcases hq with hq|hq
 ·obtain⟨its,rv,⟨o,n,h1,h2,_,h3⟩,_⟩:=I.list hq
  exact main its "list" o n (.inl rfl) h1 h2 h3 rv
 ·obtain⟨its,rv,⟨o,h1,h2,n,h3⟩,_⟩:=I.tuple hq
  exact main its "tuple" o n (.inr rfl) h1 h2 h3 rv
end L2
end
section
namespace L2
open PySem PySem.Spec PyProof.Rows PySem.W
section
variable {prog:Program}{w:World}{A:Around}{E:Value->Shared->Prop}{s:Shared}
noncomputable abbrev Cd (a c:Int):Nat->Value->Prop:=fun i v=>∃t,v=.int (a+i * c) t
theorem uE {Q:List Value->Shared->Prop}{r:Addr}{a b c:Int}{t u v:Tok}{n:Nat}(hh:A.handled=none)(hr:IsRange s.heap r a b c t u v)(h1:Builtin.Range.small a b c=true)(h2:Builtin.Range.rangeSize a b c=n)(h3:n≤2 ^ 24)
  (hQ:∀h' tk acc,(∀x o,s.heap.get? x=some o->h'.get? x=some o)->ItemsOf (Cd a c) acc n->Q acc.toList { s with heap:=h',toks:=tk }):wpAny (model prog w) A (collect (.ref r)) Q E s:=by
 unfold collect;refine wpAny_bind (wpAny_runValue (codeAny_builtin F.entry_proto_collect ?_));rw[Around.under_plainId F.plain_proto_collect _]
 show wpAny _ A.in1 (newList [] >>= fun z=>again (.builtin "list.__iadd__" ⟨[z,.ref r],[]⟩)) _ _ s
 refine wpAny_bind (wpAny_newObj_type (wpAny_pure ⟨plainId_quiet F.plain_list_iadd _,codeAny_builtin F.entry_list_iadd ?_⟩))
 rw[Around.under_plainId F.plain_list_iadd _];show wpAny _ A.in1 (Builtin.List.listExtendWith (.ref s.heap.objs.size) (.ref r) (.ref s.heap.objs.size)) _ _ _
 have hS0:(s.heap.push { cls:=.type "list",data:=.seq ([]:List Value).toArray }).get? s.heap.objs.size=some { cls:=.type "list",data:=.seq #[] }:=Heap.get?_push_size _ rfl
 have hr0:=Heap.get?_push_of_some { cls:=.type "list",data:=.seq ([]:List Value).toArray } hr
 refine wpAny_extend_range (R:=fun z s'=>match z with
  |.ok (.ret v)=>wpAny (model prog w) A (match v with
   |.ref a=>do
    let o ←load a
    match o.data with
     |.seq xs _=>pure xs.toList
     |_=>unsupported "internal:collect"
   |_=>unsupported "internal:collect") Q E s'
  |.ok _=>False
  |.error e=>E e s') (s:={ s with heap:=s.heap.push { cls:=.type "list",data:=.seq ([]:List Value).toArray } }) hh hr0 h1 h2 h3 s.heap.objs.size _ 0 hS0 fun h' tk acc c' hk hS hacc=>?_
 show wpAny _ A (load s.heap.objs.size >>= fun _=>_) _ _ _
 refine wpAny_bind (wpAny_load hS (wpAny_pure (hQ h' tk acc (fun x o e=>?_) hacc)))
 exact hk x o (Nat.ne_of_lt (Heap.lt_size e)) (Heap.get?_push_of_some _ e)
end
theorem qt (r:Addr){a b c:Int}{t u v:Tok}{n:Nat}(h1:Builtin.Range.small a b c=true)(h2:Builtin.Range.rangeSize a b c=n)(h3:n≤2 ^ 24) :
  Meets (Builtin.«tuple.__new__» ⟨[.type "tuple",.ref r],[]⟩) (fun A R s=>(A.handled=none/\IsRange s.heap r a b c t u v)/\∀(h':Heap) (tk:Nat) (acc:Array Value),(∀x o,s.heap.get? x=some o->h'.get? x=some o)->ItemsOf (Cd a c) acc n →
   R (.ok (.ret (.ref h'.objs.size))) { s with heap:=h'.push { cls:=.type "tuple",data:=.seq acc },toks:=tk }):=
 .of_wp fun prog w A R s h=>by
  obtain⟨⟨hh,hr⟩,h⟩:=h
  have hsub:=sub_tuple_self
  have hinit:=init_tuple_lookup
  have hmh:=madeHere_tuple
  have hT:s.TypeIs (.ref r) "range":=⟨_,hr,rfl⟩
  have hh1:A.in1.handled=none:=hh
  wp_walk using wpAny_typeOf hT,uE hh1 hr h1 h2 h3
  intro h' tk acc hk hacc
  show wpAny _ _ (Builtin.Tuple.tupleExact acc.toList.toArray >>= fun z=>ret z) _ _ _
  unfold Builtin.Tuple.tupleExact
  have e:acc.toList.toArray=acc:=by simp
  have hz:acc.toList.toArray.size≤sizeLine:=by rw[e,hacc.1,sizeLine_eq];omega
  refine wpAny_bind (wpAny_newObj_type (wpAny_pure ⟨_,rfl,?_⟩) hz)
  rw[e]
  exact h h' tk acc hk hacc
theorem pX {X:Cx}(hc:X.calm=true):d7 X (.type "tuple") (fun xs H Q=>∃p j,xs=[.ref p]/\H p=some (.rng 0 j)/\0≤j/\j≤1000000/\∀l,H l=none->Q (.ref l) (upd H l (.tup (p8 j.toNat)))):=by
 intro pins s σ H xs us Q I r h
 obtain⟨p,j,rfl,hp,h1,h2,q⟩:=h
 obtain⟨u,rfl,rx⟩:=gX r
 cases rx
 obtain⟨t,u,v,e⟩:=(show ObjOk X.prog X.w H s.heap p (.rng 0 j) from I.hok p _ hp)
 have z:sizeLine ≥ 1000000:=by decide
 refine callType_new F.called_tuple (by decide) (F.typeCall_tuple_1 _) (F.newCall_tuple_1 _) (fun obj=>F.args_object_init_2 obj _) F.entry_tuple_new
  (qt p (a:=0) (b:=j) (c:=1) (n:=j.toNat) (small_one (by omega) (by omega) (by omega) (by omega)) (by rw[rangeSize_one];split<;>omega) (by omega)) ⟨⟨I.ok.hd hc,e⟩,fun h' tk acc hk hacc=>⟨⟨_,Heap.get?_push_size _ rfl,rfl⟩,?_⟩⟩
 have I1:Inv X pins σ H { s with heap:=h',toks:=tk }:=I.kept (t':=tk) hk
 exact⟨.ref h'.objs.size,_,I1.laid (t':=tk) (fun b o e=>Heap.get?_push_of_some _ e) (Nat.le_refl _) (show ObjOk X.prog X.w _ _ _ (.tup (p8 j.toNat)) from⟨by rw[mX];omega,acc.toList,oJ hacc,by simpa using IsTup.new h' acc⟩),rfl,q _ (I1.hok.fresh (Nat.le_refl _))⟩
end L2
end
section
namespace L2
open PySem PySem.Spec PyProof.Rows _root_.HT
theorem qD {prog:Program}{w:World}{A:Around}{E:Value->Shared->Prop}{s:Shared}{t z:Addr}{items:Array Value}{vl vu:Value}{lo hi:Option Int}{Q:Value->Shared->Prop}(ht:IsTup s.heap t items)(hs:s.heap.IsSliceOf z vl vu .none)(pl:IsPart vl lo)(pu:IsPart vu hi)
  (hw:_root_.HT.sIx items.size 0 lo=0/\_root_.HT.sIx items.size items.size hi=items.size) (h:Q (.ref t) s):wpAny (model prog w) A (getItem (.ref t) (.ref z)) Q E s:=by
 obtain⟨os,hos,hcs,Mu⟩:=id hs
 have hTs:s.TypeIs (.ref z) "slice":=⟨os,hos,hcs⟩
 unfold getItem;try with_reducible refine wpAny_holding ?_
 first|(refine wpAny_bind (wpAny_pure ?_);skip)|skip
 refine wpAny_bind (wpAny_sequenceKey ht.typeIs (by decide) (wpAny_bind (wpAny_callSpecial?_slot (name:=Str.ofString "__getitem__") ht.typeIs PyProof.Rows.slot_tuple_getitem (wpAny_call_entry PyProof.Rows.slot_tuple_getitem ht.typeIs entry_tuple_getitem ?_ (args_tuple_getitem _ _)))))
 show wpAny _ _ (Builtin.Tuple.tupleItemsOf (.ref t) >>= fun _=>_) _ _ s
 refine wpAny_bind (tupleItemsOf_ ht (wpAny_bind (wpAny_typeOf hTs ?_)))
 rw[if_pos (by decide)];refine wpAny_bind (jj hs pl pu ?_)
 rw[hw.1,hw.2]
 have yes:(((0:Nat):Int)==0&&(1:Int)==1&&(items.size - 0)==items.size)=true:=by simp
 show wpAny _ _ (if (((0:Nat):Int)==0&&(1:Int)==1&&(items.size - 0)==items.size)=true then _ else _) _ _ s
 rw[if_pos yes]
 refine wpAny_bind ?_
 unfold Builtin.Tuple.tupleIsExact
 refine wpAny_bind (wpAny_typeOf ht.typeIs (wpAny_pure ?_))
 rw[if_pos (by decide)]
 exact wpAny_bind (wpAny_rule (wpAny_pure ⟨_,rfl,wpAny_pure h⟩))
noncomputable def Qx (K:PySem.W.Frag):V->Option Int->Option Int->Hp->VK->Prop:=fun x lo hi H Q=>∃a xs,x=.ref a/\SqT K H a xs/\(_root_.HT.sIx xs.length 0 lo=0/\_root_.HT.sIx xs.length xs.length hi=xs.length)/\Q (.ref a) H
theorem ET {X:Cx}:SlR X (Qx X.K):=by
 intro pins s σ H x v vl vu lo hi sl Q I rx hs pl pu h
 obtain⟨a,xs,rfl,hx,hw,q⟩:=h
 cases rx
 obtain⟨its,r,ht,hz⟩:=I.tuple hx
 have hn:its.toArray.size=xs.length:=by rw[List.size_toArray];exact r.length.symm
 refine⟨"tuple",_,PyProof.Rows.slot_tuple_getitem.lookup,ht.typeIs,qD ht hs pl pu (by rw[hn];exact hw) ⟨.ref a,H,I,rfl,q⟩⟩
end L2
end
section
namespace Dp
open PySem L2 Fo Pu
section
variable {X:Cx}{tg iter:Expr}{t:jn}{fs:FA}
noncomputable def uq:PV->Option (List PV)
 |.tup ps=>some ps
 |.ktu ps=>some ps
 |_=>none
theorem Eo {K:PySem.W.Frag}{F:Hp}{p:PV}{ps:List PV}{v:V}(h:uq p=some ps)(r:Rep K F p v):∃a vs,v=.ref a/\SqT K F a vs/\Reps K F ps vs:=by
 cases p with
 |tup qs=>cases h;obtain⟨a,vs,e1,e2,rs⟩:=r;exact⟨a,vs,e1,SqT.of e2,rs⟩
 |ktu qs=>cases h;exact r
 |_=>cases h
noncomputable def Kj (t:jn):oS:=fun ρ Q=>t ρ fun ps=>∃p qs,ps=[p]/\uq p=some qs/\Q (fu 0 qs)
theorem zn (h:PI X tg iter (wL X.K (lA X.K t))):zB X tg iter (Kj t):=PI.weak h fun σ H R hh=>by
 obtain⟨F,ρ,Qp,er,q,k⟩:=hh
 refine⟨F,ρ,_,er,q,fun ps vs F1 H1 h1 g1 r1=>?_⟩
 obtain⟨p,qs,rfl,hp,h⟩:=h1
 obtain⟨v,r,rfl,r1,er'⟩:=r1
 cases (show r=[] from er')
 obtain⟨a,vs,rfl,hs,rs⟩:=Eo hp r1
 refine⟨a,rfl,⟨vs,zM g1.fh hs⟩,k _ _ F1 H1 h g1 fun F2 H2 i s1 s2=>?_⟩
 have h2:=zM (s1.trans s2) hs
 refine⟨fun p e=>?_,fun hl=>⟨vs,h2,by rw[rs.length];rw[mD] at hl;exact hl⟩⟩
 rw[mv] at e
 obtain⟨p',e1,rfl⟩:=Option.map_eq_some_iff.mp e
 obtain⟨v,ev,rv⟩:=rs.get e1
 refine⟨⟨vs,v,h2,ev⟩,fun x H3 hy=>?_⟩
 obtain⟨q,y,ex,hq,e2,hy⟩:=hy
 subst ex e2
 have:=hy vs h2
 rw[ev] at this
 cases this
 refine⟨L2.upd F2 q (.tup [.int i,v]),.new s2 hq _,q,[.int i,v],rfl,af,?_⟩
 refine⟨_,_,rfl,?_,_,_,rfl,(rv.mono s1).mono (bj (s2.free hq) _),rfl⟩
 show V.int i=V.int ((0+i:Nat):Int)
 rw[Nat.zero_add]
noncomputable def oi (fs:FA):FI:=fun ρ=>(fs ρ).bind fun rs=>(rs.mapM RV.fr).bind fun ps=>match ps with
 |[p]=>(uq p).map (fu 0)
 |_=>none
theorem Hn (h:PI X tg iter (wL X.K (lA X.K (LF fs)))):DI X tg iter (oi fs):=ji (zn h) fun ρ Q hh=>by
 obtain⟨its,e,q⟩:=hh
 obtain⟨rs,e1,e⟩:=Option.bind_eq_some_iff.mp e
 obtain⟨ps,e2,e⟩:=Option.bind_eq_some_iff.mp e
 split at e
 ·next p=>
  obtain⟨qs,e3,rfl⟩:=Option.map_eq_some_iff.mp e
  exact⟨rs,_,e1,e2,_,_,rfl,e3,q⟩
 ·cases e
structure KTup (K:PySem.W.Frag)(a:Addr)(ps:List PV):Prop where
 it:∃vs,∀F,SqT K F a vs/\Reps K F ps vs
theorem Qd {x:Str}{a:Addr}{ps:List PV}{pos:Pos}(hg:Gl X x)(hm:X.mg x=some (.ref a))(h:KTup X.K a ps)(hd:(x==("__debug__" : Str))=false:=by decide):fN X (.Name x pos) (pC (.ktu ps)):=
 PE.weak (ku (v:=.ref a) hg hm rfl hd) fun σ H Q hh=>by
  obtain⟨F,ρ,Qp,er,q,k⟩:=hh
  obtain⟨vs,hv⟩:=h.it
  exact k (.ktu ps) _ F H q (.refl er.fz) ⟨a,vs,rfl,(hv F).1,(hv F).2⟩
inductive TupEs:List Value->List PV->List V->Prop where
 |nil:TupEs [] [] []
 |str {x:Str} {t:Tok} {us:List Value} {ps:List PV} {vs:List V}:TupEs us ps vs->TupEs (.str x t::us) (.str x::ps) (.str x::vs)
 |int {x:Int} {t:Tok} {us:List Value} {ps:List PV} {vs:List V}:TupEs us ps vs->TupEs (.int x t::us) (.int x::ps) (.int x::vs)
theorem TupEs.ok {K:PySem.W.Frag}{F:Hp}:∀{us:List Value} {ps:List PV} {vs:List V},TupEs us ps vs->Vals vs us/\Reps K F ps vs
 |_,_,_,.nil=>⟨.nil,rfl⟩
 |_,_,_,.str h=>⟨.cons ⟨_,rfl⟩ (h.ok (K:=K) (F:=F)).1,_,_,rfl,rfl,(h.ok (K:=K) (F:=F)).2⟩
 |_,_,_,.int h=>⟨.cons ⟨_,rfl⟩ (h.ok (K:=K) (F:=F)).1,_,_,rfl,rfl,(h.ok (K:=K) (F:=F)).2⟩
theorem Fa {K:PySem.W.Frag}{a:Addr}{ps:List PV}{vs:List V}{us:Array Value}{n:Nat}{d:Option Addr}{sl:Array (Option Value)}(l:K.lookup a=some ⟨.type "tuple",d,.seq us n,sl⟩)(h:TupEs us.toList ps vs)(hz:us.size≤sizeLine):KTup K a ps:=
 ⟨vs,fun F=>⟨.inr ⟨_,us,n,l,rfl,rfl,hz,(h.ok (K:=K) (F:=F)).1⟩,h.ok.2⟩⟩
end
end Dp
end
section
namespace Dp
open PySem PySem.Spec L2 Pu
section
variable {X:Cx}{e:Expr}{p apos cpos:Pos}{f:FE}{x:Str}{a:Addr}{kvs:List (Str×Int)}
noncomputable def oa (kvs:List (Str×Int))(o:Option PV):Option RV:=match o with
 |some (.str n)=>some (.fz ((iT kvs n).elim .non .int))
 |_=>none
noncomputable def iH (kvs:List (Str×Int))(f:FE):FE:=fun ρ=>oa kvs ((f ρ).bind RV.fr)
theorem Dl (T:NumTab X.w X.K a kvs)(hg:Gl X x)(hm:X.mg x=some (.ref a))(he:DE X e f)(m:M1 X (.Name x p) "get" apos e cpos)(hd:(x==("__debug__" : Str))=false:=by decide):DE X (.Call (.Attribute (.Name x p) "get" apos) [e] [] cpos) (iH kvs f):=
 .ofE (te:=fun ρ Q=>tF f ρ fun p=>∃n,p=.str n/\Q ((iT kvs n).elim .non .int)) (PE.weak (Ap T (ku (v:=.ref a) hg hm rfl hd) he.ee m) fun σ H Q hh=>by
  obtain⟨F,ρ,Qp,er,q,k⟩:=hh
  refine⟨rfl,F,ρ,_,er,q,fun p v F1 H1 q1 g1 r1=>?_⟩
  obtain⟨n,rfl,q1⟩:=q1
  cases (show v=.str n from r1)
  refine⟨n,rfl,k _ _ F1 H1 q1 g1 ?_⟩
  cases iT kvs n<;>rfl) fun ρ r h=>by
  unfold iH oa at h
  split at h
  ·next n e1=>
   obtain⟨r1,e2,e3⟩:=Option.bind_eq_some_iff.mp e1
   cases h
   exact⟨_,rfl,r1,_,e2,e3,n,rfl,rfl⟩
  ·cases h
end
end Dp
end
section
namespace Dp
open PySem PySem.Spec L2 Pu
section
variable {X:Cx}{st:Stmt}{i:Nat}
noncomputable def xy:List PV->Option RV
 |[p]=>(items p).bind fun ps=>(eY ps).bind fun is=>if is.length<64 then some (.nw ((uv is).map PV.int)) else none
 |_=>none
noncomputable def vk:Im:=fun ps Q=>One ps fun p=>OkS p fun ps=>∃is,eY ps=some is/\is.length<64/\Q ((uv is).map PV.int)
theorem ja {K:PySem.W.Frag}{F:Hp}:∀is:List Int,Reps K F (is.map PV.int) (is.map V.int)
 |[]=>rfl
 |i::is=>⟨.int i,_,rfl,rfl,ja is⟩
theorem wz:zj X.K (fun xs H Q=>∃p is,xs=[.ref p]/\(SqL X.K H p (is.map V.int)\/SqT X.K H p (is.map V.int))/\is.length<64/\∀l,H l=none->Q (.ref l) (upd H l (.lst ((uv is).map V.int)))) vk:=fun F H xs ps Qp Q s r h k=>by
 obtain⟨p,v,rfl,rfl,r,h⟩:=h.rd r
 obtain⟨a,vs,ps,rfl,hs,ei,rs,is,e,h64,h⟩:=h.rd s r
 rw[kr e] at rs
 rw[kc rs] at hs
 exact⟨a,is,rfl,hs,h64,fun l hl=>k _ l _ F _ h (.newO s hl _) hl (s.free hl) af (ja _)⟩
theorem AH:∀ps r,xy ps=some r->∃p,r=.nw p/\vk ps (fun z=>z=p):=fun ps r h=>by
 unfold xy at h
 split at h
 ·obtain⟨qs,e1,h⟩:=Option.bind_eq_some_iff.mp h
  obtain⟨is,e2,h⟩:=Option.bind_eq_some_iff.mp h
  split at h
  ·next z=>
   cases h
   refine⟨_,rfl,?_⟩
   show OkS _ _
   unfold OkS
   rw[e1]
   exact⟨is,e2,z,rfl⟩
  ·cases h
 ·cases h
theorem vh {K:PySem.W.Frag}{F:Hp}:∀{ps:List PV} {vs:List V},Reps K F ps vs->Reps K F ps.reverse vs.reverse
 |[],_,h=>by rw[show _=[] from h];rfl
 |p::ps,_,⟨v,r,e,h,t⟩=>by
  rw[e,List.reverse_cons,List.reverse_cons]
  exact (vh t).app (.one h)
noncomputable def GR (i:Nat):FS:=fun ρ=>match sl ρ i with
 |some (.own ps)=>.nx (ρ.set i (some (.own ps.reverse)))
 |_=>.bad
noncomputable def NN (i:Nat):i4:=fun D ρ=>go ρ i fun ps=>D.nx (ρ.set i (some (.own ps.reverse)))
theorem EW (h:PS X st (bA (JQ X.K "list" o7 (cR i)))):kx X st (NN i):=PS.weak h fun D σ H hh_=>hh_.elim fun F0 H0 F ρ Dp br h ft=>by
 obtain⟨ps,e,h⟩:=h.ex
 obtain⟨a,vs,ev,o,h1,h2,h3⟩:=br.ownAt e
 exact⟨_,ev,.inl ⟨rfl,vs,SqL.of h1⟩,a,vs,rfl,rfl,h1,ft.nx F _ σ _ h (br.mut (s:=.own _) o rfl ⟨a,_,rfl,af,h2,vh h3⟩)⟩
theorem Ot (h:PS X st (bA (JQ X.K "list" o7 (cR i)))):DS X st (GR i):=aY (EW h) fun D ρ q=>by
 unfold m6 GR at q
 split at q
 ·next ps e1=>
  unfold NN go
  rw[hR e1]
  exact q
 ·exact q.elim
end
end Dp
end
section
namespace Dp
open PySem PySem.Spec L2 Pu
noncomputable def Iv (K:PySem.W.Frag)(F H:Hp)(J:It)(its:List PV):Prop:=∀F1 H1 (i:Nat),Same F F1->Same F1 H1->Same H H1 →
 (∀p,its[i]?=some p->J.go i H1/\∀x H2,J.yld i H1 x H2->∃F2,Grow F1 H1 F2 H2/\Rep K F2 p x)/\(its.length≤i->J.stop i H1)
noncomputable def lIc (K:PySem.W.Frag)(ti:oS):TI:=fun σ H R=>∃F ρ,∃Qp:List PV->Prop,ER K F H σ ρ/\ti ρ Qp/\∀its J F' H',Qp its->Grow F H F' H'->Iv K F' H' J its->R J H'
theorem lIc.elim {K:PySem.W.Frag}{ti:oS}{σ:St}{H:Hp}{R}{C:Prop}(h:lIc K ti σ H R)(k:∀F ρ (Qp:List PV->Prop),ER K F H σ ρ->ti ρ Qp->(∀its J F' H',Qp its->Grow F H F' H'->Iv K F' H' J its->R J H')->C):C:=by obtain⟨F,ρ,Qp,a,b,c⟩:=h;exact k F ρ Qp a b c
section
variable {X:Cx}{e l tg iter:Expr}{te tl:eJ}{f:FE}
theorem zF (hl:hX X l tl):PI X tg l (lIc X.K (OW tl)):=PI.weak (yd hl) fun σ H R hh_=>hh_.elim fun F ρ Qp er q k=>⟨F,ρ,_,er,q,fun p v F1 H1 h1 g1 r1=>by
 obtain⟨a,vs,ps,rfl,hs,rs,h⟩:=OkL.rd h1 g1.fh r1
 refine⟨a,rfl,⟨vs,hs⟩,k ps _ F1 H1 h g1 fun F2 H2 i s1 s2 s3=>?_⟩
 have h2:=s3.seq hs
 refine⟨fun p e=>?_,fun hl=>⟨vs,h2,by rw[rs.length];exact hl⟩⟩
 obtain⟨v,ev,rv⟩:=rs.get e
 refine⟨⟨vs,v,h2,ev⟩,fun x H3 y=>?_⟩
 obtain⟨e2,y⟩:=y
 subst e2
 have:=y vs h2
 rw[ev] at this
 cases this
 exact⟨F2,.refl s2,rv.mono s1⟩⟩
theorem wE {K:PySem.W.Frag}{fm:List (Option Nat)}{ti:oS}{g0:TG}{g:t4}{tc:lc}(hg:gQ K g0 g):∀σ H Q,lN K (qQ fm ti g tc te) σ H Q->i5 fm (lIc K ti) g0 (lB K tc) (lE K te) σ H Q:=fun σ H Q hh_=>hh_.elim fun F ρ Qp er q k=>
 ⟨F,ρ,_,er,q,fun its J F1 H1 hq g1 it=>by
  obtain⟨hlen,h1⟩:=hq
  refine⟨fun i ys H'=>∃F' acc,Grow F1 H1 F' H'/\Reps K F' acc ys/\i≤its.length/\acc.length≤i/\Mq g tc te (jH fm ρ) (its.drop i) acc Qp,its.length,⟨F1,[],.refl g1.fh,rfl,Nat.zero_le _,Nat.le_refl _,h1⟩,?_,?_⟩
  ·rintro i ys H' ⟨F',acc,g2,rs,hi,ha,_⟩
   refine⟨hi,qK ?_⟩
   rw[rs.length];omega
  ·rintro i ys H' ⟨F',acc,g2,rs,hi,ha,h2⟩
   obtain⟨it1,it2⟩:=it F' H' i g2.ff g2.fh g2.hh
   by_cases hl:i<its.length
   ·obtain⟨go,yl⟩:=it1 _ (List.getElem?_eq_getElem hl)
    refine .inr ⟨go,fun x H2 hy=>?_⟩
    obtain⟨F2,g3,rx⟩:=yl x H2 hy
    rw[List.drop_eq_getElem_cons hl] at h2
    have er2:ER K F2 H2 (cc fm σ) (jH fm ρ):=(er.grow ((g1.trans g2).trans g3)).sub fm
    refine hg F2 H2 (cc fm σ) (jH fm ρ) _ x _ _ g3.fh rx h2 fun σ2 ρ2 h3 u=>?_
    refine⟨F2,ρ2,_,er2.upd u,h3,fun b F3 H3 h4 g4=>?_⟩
    cases b with
    |true=>
     rw[if_pos rfl] at h4 ⊢
     refine⟨F3,ρ2,_,(er2.upd u).grow g4,h4,fun y v F4 H4 h5 g5 ry=>?_⟩
     have gg:=((g2.trans g3).trans g4).trans g5
     exact⟨F4,acc++[y],gg,(rs.mono ((g3.ff.trans g4.ff).trans g5.ff)).app (.one ry),hl,by rw[List.length_append];simp;omega,h5⟩
    |false=>
     rw[if_neg Bool.false_ne_true] at h4 ⊢
     exact⟨F3,acc,(g2.trans g3).trans g4,rs.mono (g3.ff.trans g4.ff),hl,by omega,h4⟩
   ·have e:its.drop i=[]:=List.drop_eq_nil_of_le (by omega)
    rw[e] at h2
    exact .inl ⟨it2 (by omega),fun l hl=>k acc l ys F' _ h2 ((g1.trans g2).trans (.newO g2.fh hl _)) ((g1.trans g2).hh.free hl) (g2.fh.free hl) af rs⟩⟩
noncomputable def R1 (X:Cx)(tg iter:Expr)(f:FI):Prop:=PI X tg iter (lIc X.K (Iy f))
noncomputable def OH (f:FE):FI:=fun ρ=>(f ρ).bind fun r=>jU r.pv
theorem J4 (h:DE X iter f):R1 X tg iter (OH f):=PI.weak (zF h.tt) fun σ H R hh_=>hh_.elim fun F ρ Qp er q k=>by
 obtain⟨its,e,q⟩:=q
 obtain⟨r,e1,e⟩:=Option.bind_eq_some_iff.mp e
 exact⟨F,ρ,Qp,er,⟨r,e1,gD e q⟩,k⟩
theorem Gs {fm:List (Option Nat)}{it:FI}{h0:TG}{t:FT}{c:FB}(hg:gQ X.K h0 (qT t))(h:PE X e (i5 fm (lIc X.K (Iy it)) h0 (lB X.K (AJ c)) (lE X.K (tF f)))):DE X e (gH fm it t c f):=.ofN (PE.weak h (wE hg)) fun ρ r e=>tw e
end
end Dp
end
section
namespace Dp
open PySem PySem.Spec L2 Pu
section
variable {X:Cx}{e:Expr}{es:List Expr}{p pos apos cpos:Pos}{f:FE}{fs:FA}{x:Str}{ps:List PV}{kvs:List (Str×Int)}
noncomputable def pq:List PV->Option RV
 |[.rng lo j]=>if lo=0/\0≤j/\j≤1000000 then some (.fz (.tup (qJ 0 j.toNat))) else none
 |_=>none
noncomputable def IL:vo:=fun ps Q=>One ps fun p=>R0 p fun j=>0≤j/\j≤1000000/\Q (.tup (qJ 0 j.toNat))
theorem Ft:kP X.K (fun xs H Q=>∃p j,xs=[.ref p]/\H p=some (.rng 0 j)/\0≤j/\j≤1000000/\∀l,H l=none->Q (.ref l) (upd H l (.tup (p8 j.toNat)))) IL:=fun F H xs ps Qp Q s r h k=>by
 obtain⟨p,v,rfl,rfl,r,h⟩:=h.rd r
 cases p<;>first|exact h.elim|skip
 obtain⟨rfl,h1,h2,h⟩:=h
 cases r with
 |frz r=>
  obtain⟨a,rfl,e⟩:=r
  exact⟨a,_,rfl,s _ _ e,h1,h2,fun l hl=>k _ _ _ _ h (.new s hl _) ⟨l,_,rfl,af,mN _⟩⟩
theorem AN:∀ps r,pq ps=some r->∃p,r=.fz p/\IL ps (fun z=>z=p):=fun ps r h=>by
 unfold pq at h
 split at h
 ·split at h
  ·next z=>cases h;exact⟨_,rfl,z.1,z.2.1,z.2.2,rfl⟩
  ·cases h
 ·cases h
theorem Jb (hm:X.mg "tuple" = none)(ha:DA X (e::es) fs)(hc:X.calm=true:=by rfl)(hg:Gl X "tuple":=by rfl)(he:starEach (e::es) X.env=(false,eval e X.env)::starEach es X.env:=by rfl)(hpl:(backTo pos (starEach es X.env)).any (·.1)=false:=by rfl) :
  DE X (.Call (.Name "tuple" p) (e::es) [] pos) (fB pq fs):=mm Ft AN (fq (pX hc) hg hm lD ha.t (by decide) (by decide) he hpl)
theorem O6 (h:∃a,X.mg x=some (.ref a)/\KTup X.K a ps)(hg:Gl X x:=by rfl)(hd:(x==("__debug__" : Str))=false:=by decide):DE X (.Name x pos) (fC (.ktu ps)):=by
 obtain⟨a,h1,h2⟩:=h
 exact Hw (Qd hg h1 h2 hd)
theorem BC (h:∃a,X.mg x=some (.ref a)/\NumTab X.w X.K a kvs)(he:DE X e f)(m:M1 X (.Name x p) "get" apos e cpos)(hg:Gl X x:=by rfl)(hd:(x==("__debug__" : Str))=false:=by decide):DE X (.Call (.Attribute (.Name x p) "get" apos) [e] [] cpos) (iH kvs f):=by
 obtain⟨a,h1,h2⟩:=h
 exact Dl h2 hg h1 he m hd
end
end Dp
namespace Dp
open PySem PySem.Spec L2 Pu
section
variable {X:Cx}{st:Stmt}{i j:Nat}{f1 f2:FE}
noncomputable def Od (i j:Nat)(n1 n2:tK):i4:=fun D ρ=>n1 ρ fun ps=>n2 ρ fun qs=>D.nx ((ρ.set i (some (.own ps))).set j (some (.own qs)))
theorem CA {n1 n2:tK}(h:PS X st (eW i j (bE (lN X.K n1) (bE (lN X.K n2) fg)))):kx X st (Od i j n1 n2):=PS.weak h fun D σ H hh_=>hh_.elim fun F0 H0 F ρ Dp br h ft=>
 ⟨F,ρ,_,br.er,h,fun ps a vs F1 H1 h1 g1 h0 hF hH r1=>⟨F1,ρ,_,(br.grow g1).er,h1,fun qs b ws F2 H2 h2 g2 k0 kF kH r2=>⟨_,_,rfl,ft.nx F2 H2 _ _ h2 ((br.setN g1 h0 hF hH r1).setN g2 k0 kF kH r2)⟩⟩⟩
noncomputable def uP (i j:Nat)(f1 f2:FE):FS:=fun ρ=>match f1 ρ,f2 ρ with
 |some (.nw ps),some (.nw qs)=>.nx ((ρ.set i (some (.own ps))).set j (some (.own qs)))
 |_,_=>.bad
theorem LZ (h:PS X st (eW i j (bE (lN X.K (tN f1)) (bE (lN X.K (tN f2)) fg)))):DS X st (uP i j f1 f2):=aY (CA h) fun D ρ q=>by
 unfold m6 uP at q
 split at q
 ·next ps qs e1 e2=>exact⟨_,e1,_,e2,q⟩
 ·exact q.elim
end
end Dp
end
section
namespace Dp
open PySem PySem.Spec L2 Pu
noncomputable abbrev Dx:=List (Addr×(List PV->Option PR))
noncomputable def look:Dx->Addr->Option (List PV->Option PR)
 |[],_=>none
 |(b,F)::t,a=>if a=b then some F else look t a
section
variable {X:Cx}{e:Expr}{es:List Expr}{p pos:Pos}{fs:FA}{x:Str}{i j k:Nat}{qs:List Str}{t:Dx}{a:Addr}
theorem Qr (hm:X.mg x=some (.ref a))(hg:Gl X x:=by rfl)(hd:(x==("__debug__" : Str))=false:=by decide):DE X (.Name x pos) (fC (.fn a)):=Hw (xo (p:=.fn a) (ku (v:=.ref a) hg hm rfl hd))
noncomputable def tZ (t:Dx)(o:Option Sl)(as:Option (List PV)):Option RV:=match o,as with
 |some (.val (.fn a)),some ps=>(look t a).bind fun F=>(F ps).map qB
 |_,_=>none
noncomputable def wS (t:Dx)(i:Nat)(fs:FA):FE:=fun ρ=>tZ t (sl ρ i) ((fs ρ).bind fun rs=>rs.mapM RV.fr)
theorem Gi (hd:∀a F,look t a=some F->DefA X.prog X.w X.K X.mg X.base j a qs (aP X.K (be F)))(hr:Room k X.A)(hN:X.N[i]?=some x)(ha:DA X (e::es) fs)(hv:Ij X.env.scope x:=by first|exact Or.inl rfl|exact Or.inr rfl)(hj:j≤k:=by decide)(hdb:(x==("__debug__" : Str))=false:=by decide)(hcd:(x==("__classdict__" : Str))=false:=by decide)
  (he:starEach (e::es) X.env=(false,eval e X.env)::starEach es X.env:=by rfl) (hpl:(backTo pos (starEach es X.env)).any (·.1)=false:=by rfl):DE X (.Call (.Name x p) (e::es) [] pos) (wS t i fs):=
 PE.weak (ub (D:=fun f sp=>∃F,look t f=some F/\sp=aP X.K (be F)) (fun f sp h=>by obtain⟨F,h1,rfl⟩:=h;exact hd f F h1) hr hN hv ha.f hj hdb hcd he hpl) fun σ H Q hh_=>hh_.elim fun F0 ρ r er e k=>by
  unfold wS tZ at e
  split at e
  ·next a ps es ep=>
   obtain⟨rs,e2,e3⟩:=Option.bind_eq_some_iff.mp ep
   obtain⟨F,e1,e⟩:=Option.bind_eq_some_iff.mp e
   obtain⟨q,e4,rfl⟩:=Option.map_eq_some_iff.mp e
   obtain⟨v,ev,rd⟩:=er.rd (hR es)
   have hs:=er.sl i _ (hR es)
   rw[ev] at hs
   obtain rfl:v=.ref a:=hs
   refine⟨a,_,ev,⟨F,e1,rfl⟩,F0,ρ,(fun z=>z=ps),er,⟨rs,ps,e2,e3,rfl⟩,fun ps' vs F1 H1 h1 g1 r1=>?_⟩
   subst h1
   refine⟨F1,ps',(fun z=>z=q),g1.fh,r1,⟨q,e4,rfl⟩,fun r v F2 H2 h2 g2 rr=>?_⟩
   subst h2
   refine k v F2 H2 (g1.trans g2) ?_
   cases r with
   |v p=>exact rr
   |n ps=>
    obtain⟨a,vs,rfl,h0,hF,hH,rs⟩:=rr
    exact⟨a,vs,rfl,g1.hh.free h0,hF,hH,rs⟩
  ·cases e
end
end Dp
end
section
namespace Dp
open PySem PySem.Spec L2 Pu
section
variable {X:Cx}{e a:Expr}{pos:Pos}{te:eJ}{fa:FE}
noncomputable def QG (te:eJ)(tl th:zD):eJ:=fun ρ Q=>te ρ fun p=>tl ρ fun l=>th ρ fun h=>OkT p fun ps=>(_root_.HT.sIx ps.length 0 l=0/\_root_.HT.sIx ps.length ps.length h=ps.length)/\Q (.tup ps)
theorem L6 {lo hi:Option Expr}{tl th:zD}{p2:Pos}(he:hX X e te)(hl:Ea X lo tl)(hh:Ea X hi th):fN X (.Subscript e (.Slice lo hi none p2) pos) (QG te tl th):=PE.weak (oC ET he hl hh) fun σ H Q hh_=>hh_.elim fun F ρ Qp er q k=>⟨F,ρ,_,er,q,fun p v F1 H1 h1 g1 r1=>
 ⟨F1,ρ,_,er.grow g1,h1,fun l F2 H2 h2 g2=>⟨F2,ρ,_,(er.grow g1).grow g2,h2,fun h F3 H3 h3 g3=>by
  have gg:=(g1.trans g2).trans g3
  obtain⟨a,vs,ps,rfl,rfl,hF,rs,hn,q⟩:=h3.rd (r1.grow (g2.trans g3))
  exact⟨a,vs,rfl,SqT.of (gg.fh _ _ hF),by rw[rs.length];exact hn,k _ _ F3 H3 q gg ⟨a,vs,rfl,hF,rs⟩⟩⟩⟩⟩
noncomputable def MK:PV->Option Int->Option Int->Option RV
 |.tup ps,l,h=>some (.fz (.tup (cut ps l h)))
 |_,_,_=>none
noncomputable def JT (fa:FE)(fl fh:FO):FE:=fun ρ=>(fa ρ).bind fun x=>(fl ρ).bind fun l=>(fh ρ).bind fun h=>MK x.pv l h
theorem zp {α:Type}{ps:List α}{l h:Option Int}(hw:_root_.HT.sIx ps.length 0 l=0/\_root_.HT.sIx ps.length ps.length h=ps.length):cut ps l h=ps:=by
 unfold cut
 rw[hw.1,hw.2,List.drop_zero,Nat.sub_zero,List.take_length]
theorem Oq {lo hi:Option Expr}{fl fh:FO}{p2:Pos}(ha:DE X a fa)(hl:DO X lo fl)(hh:DO X hi fh):DE X (.Subscript a (.Slice lo hi none p2) pos) (JT fa fl fh):=.ofE (kQ (Cl ha.tt hl hh) (L6 ha.tt hl hh)) fun ρ r e=>by
 obtain⟨x,e1,e⟩:=Option.bind_eq_some_iff.mp e
 obtain⟨l,e2,e⟩:=Option.bind_eq_some_iff.mp e
 obtain⟨h,e3,e⟩:=Option.bind_eq_some_iff.mp e
 cases q:x.pv with
 |tup ps=>
  rw[q] at e
  cases e
  by_cases z:_root_.HT.sIx ps.length 0 l=0/\_root_.HT.sIx ps.length ps.length h=ps.length
  ·refine⟨_,rfl,.inr ⟨x,e1,l,e2,h,e3,?_⟩⟩
   rw[q,zp z];exact⟨z,rfl⟩
  ·refine⟨_,rfl,.inl ⟨x,e1,l,e2,h,e3,?_⟩⟩
   rw[q];exact⟨z,rfl⟩
 |_=>rw[q] at e;cases e
end
end Dp
end
section
namespace L2
open PySem PySem.Spec PyProof.Rows
noncomputable def Hf (b:Bool):Nat:=if b then 1 else 0
theorem wH:typeLookup (.type "bool") "__index__" = pure (some (.builtin "int.__index__")):=by
 rw[typeLookup_type,builtinLookup_eq_fast]
 kernel_rfl
section
variable {P:Program}{w:World}{A:Around}{E:Value->Shared->Prop}{s:Shared}{b:Bool}
theorem Ec {Q:Option Int->Shared->Prop}(h:Q (some (Hf b:Int)) s):wpAny (model P w) A (Builtin.List.listSubscript? (.bool b)) Q E s:=by
 have e:=PySem.typeIs_bool s b
 unfold Builtin.List.listSubscript?
 refine wpAny_bind (wpAny_specialOf (T:="bool") e wH ?_)
 refine (?_:wpAny _ _ (asIndex (.bool b) >>= _) _ _ _)
 refine wpAny_bind (wpAny_of_eq (a:=(Hf b:Int)) (by cases b<;>rfl) ?_)
 cases b<;>exact wpAny_pure h
theorem AE {l:Addr}{xs:Array Value}{x:Value}{Q:Value->Shared->Prop}(hl:s.heap.IsList l xs)(hx:xs[Hf b]?=some x)(h:Q x s):wpAny (model P w) A (getItem (.ref l) (.bool b)) Q E s:=by
 have ty:=hl.typeIs
 obtain⟨o,ho,hc,ne,hd⟩:=hl
 unfold getItem
 try with_reducible refine wpAny_holding ?_
 first|refine wpAny_bind (wpAny_pure ?_)|skip
 refine wpAny_bind (wpAny_sequenceKey ty (by decide) ?_)
 have ar:=args_list_getitem (.ref l) (.bool b)
 refine wpAny_bind (wpAny_callSpecial?_slot (name:=Str.ofString "__getitem__") ty slot_list_getitem (wpAny_call_entry slot_list_getitem ty entry_list_getitem ?_ ar))
 refine (?_:wpAny _ _ (Builtin.List.listSubscript? (.bool b) >>= _) _ _ s)
 refine wpAny_bind (Ec ?_)
 refine (?_:wpAny _ _ ((seqItemAt l (Hf b) >>= fun r=>pure (r.map (Hf b,·))) >>= _) _ _ s)
 refine wpAny_bind (wpAny_bind (wpAny_seqItemAt ho hd (wpAny_pure ?_)))
 rw[hx]
 first
  |exact wpAny_pure ⟨x,rfl,wpAny_pure h⟩
  |exact wpAny_bind (wpAny_pure (wpAny_pure ⟨x,rfl,wpAny_pure h⟩))
end
noncomputable def wk (K:PySem.W.Frag):R2:=fun x y H Q=>∃p xs b v,x=.ref p/\y=.bl b/\SqL K H p xs/\xs[Hf b]?=some v/\Q v H
theorem GK {X:Cx}:IxR X (wk X.K):=by
 intro value slice pins s σ H x y v u Q I rx ry h hs
 obtain⟨p,xs,b,z,rfl,rfl,hq,he,q⟩:=h
 cases rx
 cases ry
 obtain⟨its,r,pl,hz⟩:=I.list hq
 obtain⟨w,ew,rw'⟩:=r.get he
 exact subscriptTail_builtinR (x:=w) pl.isList.typeIs slot_list_getitem.lookup (AE (Q:=fun r s'=>r=w/\EP X pins σ Q r s') pl.isList (by simpa using ew) ⟨rfl,z,H,I,rw',q⟩) hs
end L2
namespace Dp
open PySem PySem.Spec L2 Pu
section
variable {X:Cx}{a b:Expr}{pos:Pos}{fa fb:FE}
noncomputable def wk:PV->PV->Option RV
 |.lst ps,.int i=>(L2.atI ps i).map .fz
 |.lst ps,.bl b=>(ps[Hf b]?).map .fz
 |_,_=>none
noncomputable def L3:jm:=fun x y Q=>match x,y with
 |.lst ps,.bl b=>OkO (ps[Hf b]?) Q
 |_,_=>False
theorem K0:fH X.K (L2.wk X.K) L3:=fun F H x y p q Qp Q s rx ry h k=>by
 unfold L3 at h
 split at h
 ·next ps b=>
  obtain⟨z,e,h⟩:=h.ex
  cases rx with
  |frz rx=>
   obtain⟨a,vs,rfl,e1,r⟩:=rx
   cases ry with
   |frz ry=>
    obtain⟨v,e',r'⟩:=r.get e
    exact⟨a,vs,b,v,rfl,ry,SqL.of (s _ _ e1),e',k z v F H h (.refl s) r'⟩
  |own h1 h2 h3=>
   cases ry with
   |frz ry=>
    obtain⟨v,e',r'⟩:=h3.get e
    exact⟨_,_,b,v,rfl,ry,SqL.of h1,e',k z v F H h (.refl s) r'⟩
 ·exact h.elim
theorem Kr {ta tb:eJ}(ha:hX X a ta)(hb:hX X b tb)(hs:kj b):fN X (.Subscript a b pos) (t9 L3 ta tb):=PE.weak (iC GK ha hb hs) (lQ K0)
theorem NE (ha:DE X a fa)(hb:DE X b fb)(hs:kj b):DE X (.Subscript a b pos) (ah wk fa fb):=.ofE (kQ (IT ha.tt hb.tt hs) (Kr ha.tt hb.tt hs)) fun ρ r e=>by
 obtain⟨x,e1,e⟩:=Option.bind_eq_some_iff.mp e
 obtain⟨y,e2,e⟩:=Option.bind_eq_some_iff.mp e
 unfold wk at e
 split at e
 ·next ps i ex ey=>
  obtain⟨p,e3,rfl⟩:=Option.map_eq_some_iff.mp e
  refine⟨p,rfl,.inl ⟨x,e1,y,e2,?_⟩⟩
  rw[ex,ey]
  show OkO (L2.atI ps i) _
  rw[e3];exact rfl
 ·next ps b ex ey=>
  obtain⟨p,e3,rfl⟩:=Option.map_eq_some_iff.mp e
  refine⟨p,rfl,.inr ⟨x,e1,y,e2,?_⟩⟩
  rw[ex,ey]
  show OkO (ps[Hf b]?) _
  rw[e3];exact rfl
 ·cases e
end
end Dp
end
section
namespace L2
open PySem PySem.Spec PyProof.Rows
noncomputable def FZ (lo:Int)(n:Nat)(c:Int):It:={ go:=fun i _=>i<n,yld:=fun i H x H'=>H'=H/\x=.int (lo+i * c),stop:=fun i _=>n≤i }
theorem vH {P:Program}{w:World}{K:PySem.W.Frag}{tg:Expr}(it:Addr)(lo:Int)(n:Nat)(c:Int):Turn P w K tg (FZ lo n c) [it] it (fun i h=>IsRangeIter h it (lo+(i:Nat) * c) ((n:Int) - (i:Nat)) c) where
 mem:=by simp
 obj:=fun i h st b hb=>by
  have e:b=it:=by simpa using hb
  subst e
  exact⟨_,st,fun v z=>by
   have z':Data.fields _=Data.cell v:=z
   cases z'⟩
 keep:=fun i h h' st k=>k it (by simp) _ st
 item:=by
  intro X hP hw hK hc i pins s σ H E I hf st hg
  subst hP hw hK
  obtain⟨f0,f1,f2,f3,f4,f5⟩:=hf it (by simp)
  have W:=Walks.range (prog:=X.prog) (w:=X.w) (I.ok.hd hc) it lo c n
  refine W.item i s _ _ hg st fun v h' tk hv st' kk=>?_
  obtain⟨t,rfl⟩:=hv
  have I1:Inv X pins σ H { s with heap:=h',toks:=tk }:=I.turned (fun b o hb e=>kk b o (by simpa using hb) e) f0 f1 f3 f4 f5
  exact⟨_,rfl,yI (s:={ s with heap:=h',toks:=tk }) (n:="range_iterator") st' rfl rfl (by decide) ⟨.int (lo+i * c),H,I1,⟨t,rfl⟩,⟨rfl,rfl⟩,st',fun b hb=>(hf b hb).1⟩⟩
 done:=by
  intro X hP hw hK hc i pins s σ H E I hf st hg
  subst hP hw hK
  obtain⟨f0,f1,f2,f3,f4,f5⟩:=hf it (by simp)
  exact wpAny_pyNext_range_end (I.ok.hd hc) st (by have:n≤i:=hg;omega) fun h' eb=>⟨rfl,I.turned (t':=s.toks) (fun b o hb e=>eb b o hb e) f0 f1 f3 f4 f5⟩
 self:=fun _ _ _ _ _ st h=>wpAny_pyIter_rangeiter st h
section
variable {X:Cx}{tg:Expr}
theorem zS {pins:List (Addr×Obj)}{σ:St}{H:Hp}{s:Shared}{R:It->Hp->Prop}{E:Value->Shared->Prop}{lo hi c:Int}{t u v:Tok}{tk:Nat}(I:Inv X pins σ H s)(h1:Builtin.Range.small lo hi c=true)(h2:0≤Builtin.Range.rangeSize lo hi c)
  (q:R (FZ lo (Builtin.Range.rangeSize lo hi c).toNat c) H):wpAny (model X.prog X.w) X.A (pyIter (.ref s.heap.objs.size)) (Rn X pins σ tg R) E { s with heap:=s.heap.push { cls:=.type "range",data:=.fields #[.int lo t,.int hi u,.int c v] },toks:=tk }:=by
 refine wpAny_pyIter_range (IsRange.new ..) h1 ?_
 have I1:Inv X pins σ H { s with heap:=s.heap.push { cls:=.type "range",data:=.fields #[.int lo t,.int hi u,.int c v] },toks:=tk }:=I.kept fun b o e=>Heap.get?_push_of_some _ e
 refine⟨(s.heap.push { cls:=.type "range",data:=.fields #[.int lo t,.int hi u,.int c v] }).objs.size,[(s.heap.push { cls:=.type "range",data:=.fields #[.int lo t,.int hi u,.int c v] }).objs.size],_,_,H,rfl,
  I1.kept (t':=tk) fun b o e=>Heap.get?_push_of_some _ e,vH _ lo (Builtin.Range.rangeSize lo hi c).toNat c,?_,fun b hb=>?_,q⟩
 ·have e1:lo+((0:Nat):Int) * c=lo:=by simp
  have e2:(((Builtin.Range.rangeSize lo hi c).toNat:Nat):Int) - ((0:Nat):Int)=Builtin.Range.rangeSize lo hi c:=by omega
  show IsRangeIter _ _ (lo+((0:Nat):Int) * c) ((((Builtin.Range.rangeSize lo hi c).toNat:Nat):Int) - ((0:Nat):Int)) c
  rw[e1,e2]
  exact Heap.get?_push_size _ rfl
 ·have e:b=(s.heap.push { cls:=.type "range",data:=.fields #[.int lo t,.int hi u,.int c v] }).objs.size:=by simpa using hb
  subst e
  exact I1.fpOk (Nat.le_refl _) (I1.hok.fresh (Nat.le_refl _))
noncomputable def D7 (ta:TA):TI:=fun σ H R=>ta σ H fun vs H1=>∃i j c:Int,vs=[.int i,.int j,.int c]/\(c≠0/\Builtin.Range.small i j c=true/\0≤Builtin.Range.rangeSize i j c/\Builtin.divisionGoesByPylong (j - i) c=false)/\R (FZ i (Builtin.Range.rangeSize i j c).toNat c) H1
theorem AA {a b d:Expr}{ta:TA}{p pos:Pos}(hg:Gl X "range")(hm:X.mg "range" = none)(ha:PA X [a,b,d] ta)(hs:starEach [a,b,d] X.env=[(false,eval a X.env),(false,eval b X.env),(false,eval d X.env)]:=by rfl)(hs2:starEach [b,d] X.env=[(false,eval b X.env),(false,eval d X.env)]:=by rfl) :
  PI X tg (.Call (.Name "range" p) [a,b,d] [] pos) (D7 ta):=by
 intro pins s σ H R I h
 refine Call_ (j5 I hg hm boot_range (PyProof.Rows.callWith_type1 (bL (ha pos pins s σ H _ I h) fun us s1 ⟨vs,H1,I1,r1,q1⟩=>?_) (by rw[hs,hs2]) (by rw[hs2];rfl)))
 obtain⟨i,j,c,e,⟨q1,q2,q3,q4⟩,q⟩:=q1
 subst e
 cases r1 with
 |cons r rr=>
  cases rr with
  |cons r' rr=>
   cases rr with
   |cons r'' rr=>
    cases rr
    obtain⟨t,rfl⟩:=r
    obtain⟨t',rfl⟩:=r'
    obtain⟨t'',rfl⟩:=r''
    exact call_range_3 q1 (zS I1 q2 q3 q) (.inl q4)
end
end L2
end
section
namespace Dp
open PySem L2 Fo Pu
section
variable {X:Cx}{tg iter:Expr}{t:jn}{fs:FA}
noncomputable def Bm (lo:Int)(n:Nat)(c:Int):List PV:=(List.range n).map fun k:Nat=>.int (lo+k * c)
noncomputable def Re (i j c:Int):Bool:=decide (c≠0)&&Builtin.Range.small i j c&&decide (0≤Builtin.Range.rangeSize i j c)&&!Builtin.divisionGoesByPylong (j - i) c
theorem zo {K:PySem.W.Frag}{F:Hp}{lo c:Int}{n:Nat}:Ha K F (FZ lo n c) (Bm lo n c):=fun F1 H1 i s1 s2=>by
 refine⟨fun p e=>?_,fun hl=>by show n≤i;simpa [Bm] using hl⟩
 unfold Bm at e
 rw[List.getElem?_map] at e
 obtain⟨k,ek,rfl⟩:=Option.map_eq_some_iff.mp e
 obtain⟨hk,rfl⟩:=List.getElem?_eq_some_iff.mp ek
 refine⟨by show i<n;simpa using hk,fun x H2 ⟨e2,y⟩=>?_⟩
 subst e2 y
 exact⟨F1,.refl s2,by rw[List.getElem_range];rfl⟩
noncomputable def Oz (t:jn):oS:=fun ρ Q=>t ρ fun ps=>∃i j c:Int,ps=[.int i,.int j,.int c]/\Re i j c=true/\Q (Bm i (Builtin.Range.rangeSize i j c).toNat c)
theorem DP (h:PI X tg iter (D7 (lAT X.K t))):zB X tg iter (Oz t):=PI.weak h fun σ H R hh_=>hh_.elim fun F ρ Qp er q k=>⟨F,ρ,_,er,q,fun ps vs F1 H1 h1 g1 r1=>by
 obtain⟨i,j,c,rfl,o,h⟩:=h1
 cases r1 with
 |cons r1 rr=>
  cases rr with
  |cons r2 rr=>
   cases rr with
   |cons r3 rr=>
    cases rr
    cases r1 with
    |frz r1=>cases r2 with
     |frz r2=>cases r3 with
      |frz r3=>
       unfold Re at o
       rw[Bool.and_eq_true,Bool.and_eq_true,Bool.and_eq_true,decide_eq_true_eq,decide_eq_true_eq,Bool.not_eq_true'] at o
       cases (show _=V.int i from r1)
       cases (show _=V.int j from r2)
       cases (show _=V.int c from r3)
       exact⟨i,j,c,rfl,⟨o.1.1.1,o.1.1.2,o.1.2,o.2⟩,k _ _ F1 H1 h g1 zo⟩⟩
noncomputable def Mj:List PV->Option (List PV)
 |[.int i,.int j,.int c]=>if Re i j c then some (Bm i (Builtin.Range.rangeSize i j c).toNat c) else none
 |_=>none
theorem Kt (h:PI X tg iter (D7 (lAT X.K (Ev fs)))):DI X tg iter (lX Mj fs):=ji (DP h) fun ρ Q ⟨its,e,q⟩=>by
 obtain⟨rs,e1,e⟩:=Option.bind_eq_some_iff.mp e
 refine⟨rs,e1,?_⟩
 unfold Mj at e
 split at e
 ·next i j c ej=>
  split at e
  ·next z=>cases e;exact⟨i,j,c,ej,z,q⟩
  ·cases e
 ·cases e
end
end Dp
end
section
namespace L2
open PySem PySem.Spec PyProof.Rows
noncomputable def MV:V->List V->Hp->VK->Prop:=fun x vs H Q=>∃i,x=.int i/\vs=[]/\Q (.int (Builtin.Int.intBits i:Nat)) H
theorem FR {X:Cx}:Rj X "int.bit_length" MV:=by
 intro pins s σ H x vs v us Q I rx rv h
 obtain⟨i,rfl,rfl,q⟩:=h
 obtain⟨t,rfl⟩:=rx
 have hus:=rv.zero
 subst hus
 refine call_gives F.slot_int_bit_length (typeIs_int s i t) F.entry_int_bit_length (F.args_int_bit_length_1 _) (AutoIntG2.int_bit_length_int_0 i t) ?_
 show EP X pins σ Q _ _
 exact⟨.int _,H,I.kept (t':=_) fun _ _ e=>e,⟨_,rfl⟩,q⟩
end L2
end
section
namespace Dp
open PySem PySem.Spec L2 Fo Pu
section
variable {X:Cx}{x:Str}{p apos cpos:Pos}{ta:eJ}{f:FE}
noncomputable def NB (ta:eJ):eJ:=fun ρ Q=>ta ρ fun y=>OkI y fun i=>Q (.int (Builtin.Int.intBits i:Nat))
theorem Ez (ha:fN X (.Name x p) ta)(hline:(apos.endLine==cpos.line)=true):fN X (.Call (.Attribute (.Name x p) "bit_length" apos) [] [] cpos) (NB ta):=
 PE.weak (A0 F.plainAttrs_int F.slot_int_bit_length F.type_int_bit_length FR ha rfl hline) fun σ H Q hh_=>hh_.elim fun F ρ Qp er q k=>⟨F,ρ,_,er,q,fun p v F1 H1 h1 g1 r1=>by
  obtain⟨i,rfl,rfl,h⟩:=h1.rd (H:=H1) (.frz r1)
  exact⟨rfl,i,rfl,rfl,k _ _ F1 H1 h g1 rfl⟩⟩
noncomputable def vG (f:FE):FE:=fun ρ=>(f ρ).bind fun r=>match r.fr with
 |some (.int i)=>some (.fz (.int (Builtin.Int.intBits i:Nat)))
 |_=>none
theorem Kg (ha:DE X (.Name x p) f)(hline:(apos.endLine==cpos.line)=true):DE X (.Call (.Attribute (.Name x p) "bit_length" apos) [] [] cpos) (vG f):=.ofE (Ez ha.ee hline) fun ρ r e=>by
 obtain⟨z,e1,e2⟩:=Option.bind_eq_some_iff.mp e
 split at e2
 ·next i e3=>cases e2;exact⟨_,rfl,z,_,e1,e3,rfl⟩
 ·cases e2
end
end Dp
end
section
namespace Dp
open PySem PySem.Spec L2 Pu
noncomputable abbrev Fn:=List PV->Option PR
structure Gc where
 bi:List Str:=[]
 nis:List (Str×Int):=[]
 tups:List (Str×List PV):=[]
 nums:List (Str×List (Str×Int)):=[]
 vals:List (Str×Addr):=[]
 fns:List (Str×Fn):=[]
 tab:Dx:=[]
structure Lc where
 sc:Scope
 N:List Str
 top:Bool:=true
 own:List Str:=[]
 frz:List (Nat×List Nat):=[]
 alt:List (Nat×Nat):=[]
 cmp:List ((Nat×Nat)×List Str):=[]
noncomputable def Iu (x:Str):List Str->Option Nat
 |[]=>none
 |y::r=>if x=y then some 0 else (Iu x r).map (·+1)
theorem p5 {x:Str}:∀{l:List Str} {i:Nat},Iu x l=some i->l[i]?=some x
 |[],_,h=>by cases h
 |y::r,i,h=>by
  unfold Iu at h
  split at h
  ·next e=>cases h;rw[e];rfl
  ·obtain⟨j,e,rfl⟩:=Option.map_eq_some_iff.mp h
   rw[List.getElem?_cons_succ];exact p5 e
noncomputable def Lr (x:Str):Bool:=x == "__debug__" || x == "__classdict__" || x == "__name__"
noncomputable def aV:FE:=fun _=>none
noncomputable def pN:Expr->Bool
 |.Starred _ _=>false
 |_=>true
theorem gY {e:Expr}(h:pN e=true):NS e:=by
 cases e<;>first|(exact fun _ _=>rfl)|(cases h)
theorem oe {pos:Pos}{env:Env}:∀{es:List Expr},es.all pN=true->(backTo pos (starEach es env)).any (·.1)=false
 |[],_=>rfl
 |e::es,h=>by
  rw[List.all_cons,Bool.and_eq_true] at h
  rw[gY h.1]
  exact oe (es:=es) h.2
noncomputable def RO (L:Lc)(x:Str):Bool:=match L.sc.names.lookup x with
 |some .local=>true
 |some .cell=>true
 |some .free=>true
 |_=>false
noncomputable def glob (L:Lc)(x:Str):Bool:=L.sc.names.lookup x==some .globalImplicit&&!Lr x
noncomputable def slot (L:Lc)(x:Str):Option Nat:=if RO L x&&!Lr x then Iu x L.N else none
noncomputable def gZ (L:Lc)(x:Str):Option Nat:=if L.sc.names.lookup x==some .local || L.top&&L.sc.names.lookup x==some .cell then Iu x L.N else none
noncomputable def RK (x:Str):FE:=if x = "int" then fC (.ty "int") else if x = "bool" then fC (.ty "bool") else if x = "str" then fC (.ty "str") else if x = "list" then fC (.ty "list") else if x = "tuple" then fC (.ty "tuple") else if x = "dict" then fC (.ty "dict") else aV
noncomputable def Cq (G:Gc)(L:Lc)(x:Str):FE:=
 match slot L x with
 |some i=>fV i
 |none=>if glob L x then (match G.nis.lookup x with
  |some i=>fC (.int i)
  |none=>match G.tups.lookup x with
   |some ps=>fC (.ktu ps)
   |none=>match G.vals.lookup x with
    |some a=>fC (.fn a)
    |none=>if G.bi.contains x then RK x else aV) else aV
noncomputable def QV (f:Expr->FE):List Expr->FA
 |[]=>ae
 |e::es=>aa (f e) (QV f es)
noncomputable def vA (f:Expr->FE)(es:List Expr):FA:=if es.all pN then QV f es else fun _=>none
noncomputable def Sa:Operator->PV->PV->Option RV
 |.Add=>bO
 |.Sub=>sr
 |.Mult=>gB
 |.FloorDiv=>jS
 |.Mod=>bn
 |.Pow=>FH
 |.RShift=>ON
 |.LShift=>Ow
 |.BitAnd=>HA
 |_=>fun _ _=>none
noncomputable def qb:CmpOp->PV->PV->Option RV
 |.Lt=>HU
 |.LtE=>Lv
 |.Gt=>A9
 |.GtE=>Nh
 |.Eq=>eD
 |.NotEq=>iW
 |.In=>E4
 |.NotIn=>oq
 |.Is=>QK
 |.IsNot=>we
noncomputable def zH (L:Lc)(p:Pos):Bool:=L.alt.contains (p.line,p.col)
noncomputable def PZ (x:Str)(alt:Bool)(n:Nat)(fs:FA):FE:=
 if x = "len" then fB gJ fs else if x = "abs" then fB Bf fs else if x = "all" then fB DG fs else if x = "any" then fB BJ fs
 else if x = "isinstance" then fB t8 fs else if x = "sorted" then (if alt then fB xy fs else fB sU fs)
 else if x = "max" then (if n=2 then fB AW fs else fB Ib fs) else if x = "min" then (if n=2 then fB om fs else fB Hy fs)
 else if x = "sum" then fB r6 fs else if x = "int" then fB uD fs else if x = "tuple" then (if alt then fB pq fs else fB lj fs)
 else if x = "list" then fB iA fs else if x = "range" then fB xu fs else aV
noncomputable def Ef (G:Gc)(L:Lc)(f:Expr->FE)(x:Str)(args:List Expr)(pos:Pos):FE:=
 match slot L x with
 |some i=>if args.isEmpty then aV else wS G.tab i (vA f args)
 |none=>if glob L x then (match G.fns.lookup x with
  |some F=>if args.isEmpty then Ch F else ao F (vA f args)
  |none=>if G.bi.contains x&&!args.isEmpty then PZ x (zH L pos) args.length (vA f args) else aV) else aV
noncomputable def QY:Nat->Expr->List Str
 |_+1,.Name x _=>[x]
 |n+1,.Tuple es _ _=>es.flatMap (QY n)
 |_,_=>[]
noncomputable def Rt (f:Expr->FT):List Expr->Eu
 |[]=>g0
 |e::es=>gC (f e) (Rt f es)
noncomputable def vT:Nat->Lc->Expr->FT
 |_+1,L,.Name x _=>match gZ L x with
  |some i=>gN i
  |none=>fun _ _=>none
 |n+1,L,.Tuple es _ _=>if es.all pN then mZ es.length (Rt (vT n L) es) else fun _ _=>none
 |_,_,_=>fun _ _=>none
noncomputable def KU:TG:=fun _ _ _ _=>False
noncomputable def Mv (f:Expr->TG):List Expr->ve
 |[]=>fD
 |e::es=>bX (f e) (Mv f es)
noncomputable def tG (K:PySem.W.Frag):Nat->Lc->Expr->TG
 |_+1,L,.Name x _=>match gZ L x with
  |some i=>aO i
  |none=>KU
 |n+1,L,.Tuple es _ _=>if es.all pN then eL K es.length (Mv (tG K n L) es) else KU
 |_,_,_=>KU
noncomputable def Pq:Nat->Lc->Expr->List Nat
 |_+1,L,.Name x _=>(gZ L x).toList
 |n+1,L,.Tuple es _ _=>es.flatMap (Pq n L)
 |_,_,_=>[]
noncomputable def LY:Expr->Bool
 |.Set _ _ _=>false
 |_=>true
noncomputable def B9:Expr->Bool
 |.Tuple _ _ _=>true
 |_=>false
noncomputable def vg (L:Lc):Expr->Bool
 |.Name x _=>L.own.contains x
 |_=>false
noncomputable def vI (G:Gc)(L:Lc)(f:Expr->FE)(own:Bool)(tg it:Expr):FI:=
 if own then OH (f it) else match it with
 |.Call (.Name x _) [a] [] p=>
  if x = "range"&&glob L "range"&&G.bi.contains "range" then lX lF (vA f [a])
  else if x = "enumerate"&&glob L "enumerate"&&G.bi.contains "enumerate"&&B9 tg then (if zH L p then oi (vA f [a]) else IH (vA f [a])) else tz (f it)
 |.Call (.Name x _) [a,b] [] _=>if x = "range"&&glob L "range"&&G.bi.contains "range" then lX Ka (vA f [a,b]) else tz (f it)
 |.Call (.Name x _) [a,b,d] [] _=>if x = "range"&&glob L "range"&&G.bi.contains "range" then lX Mj (vA f [a,b,d]) else tz (f it)
 |_=>tz (f it)
noncomputable def Ee (sc o:Scope):Scope:={ sc with names:=sc.names.map fun (n,k)=>if k==.free&&o.kind==.function&&o.names.lookup n==some .cell then (n,.cell) else (n,k) }
noncomputable def vO (f:Expr->FE):Option Expr->FO
 |none=>GF
 |some e=>Gn (f e)
noncomputable abbrev RE:=Lc->Expr->FE
noncomputable abbrev RB:=Lc->Expr->FB
noncomputable def PU (L:Lc)(tg:Expr)(N2:List Str):List (Option Nat):=N2.map fun x=>if (QY 5 tg).contains x then none else Iu x L.N
noncomputable def JM (L:Lc)(sc:Scope)(tg:Expr)(N2:List Str):Lc:={ L with sc:=Ee sc L.sc,N:=N2,top:=false,own:=L.own.filter fun x=>!(QY 5 tg).contains x }
noncomputable def So (L:Lc)(sc:Scope)(tg it:Expr)(N2:List Str):Bool:=
 lf sc.kind sc.names (fun x=>L.sc.names.lookup x) L.N N2 (PU L tg N2)&&decide N2.Nodup&&(Pq 5 (JM L sc tg N2) tg).all (fun i=>(PU L tg N2)[i]?==some none)&&LY it
noncomputable def SE (rB:RB)(L:Lc):List Expr->FB
 |[]=>jA
 |[c]=>rB L c
 |_=>fun _=>none
noncomputable def PX (G:Gc)(rE:RE)(rB:RB)(L:Lc)(elt tg it:Expr)(ifs:List Expr)(sc:Scope)(p:Pos):FE:=
 match L.cmp.lookup (p.line,p.col) with
 |none=>aV
 |some N2=>if So L sc tg it N2 then gH (PU L tg N2) (vI G L (rE L) (vg L it) tg it) (vT 5 (JM L sc tg N2) tg) (SE rB (JM L sc tg N2) ifs) (rE (JM L sc tg N2) elt) else aV
noncomputable def hU:Expr->Bool
 |.Slice _ _ none _=>false
 |_=>true
noncomputable def Sf:Const->FE
 |.int i=>fC (.int i)
 |.bool b=>fC (.bl b)
 |.none=>fC .non
 |.str x=>fC (.str x)
 |_=>aV
noncomputable def Se (op:UnaryOp)(f:FE):FE:=match op with
 |.USub=>mT f
 |.Not=>xP f
 |_=>aV
noncomputable def RS (f:Expr->FE)(a:Expr)(ops:List CmpOp)(bs:List Expr):FE:=match ops with
 |[]=>aV
 |o1::ops=>match bs with
  |[]=>aV
  |b::bs=>match ops with
   |[]=>match bs with
    |[]=>if behindInMarks o1 b then aV else ah (qb o1) (f a) (f b)
    |_::_=>aV
   |o2::ops=>match ops with
    |_::_=>aV
    |[]=>match bs with
     |[]=>aV
     |c::bs=>match bs with
      |_::_=>aV
      |[]=>if lastMarks [o1,o2] [b,c] then aV else Gy (qb o1) (qb o2) (f a) (f b) (f c)
noncomputable def R9 (f:Expr->FE)(op:BoolOp)(vs:List Expr)(p:Pos):FE:=match vs with
 |[]=>aV
 |a::r=>match r with
  |[]=>wq (f a)
  |b::r=>match op with
   |.And=>oZ (f a) (f (.BoolOp .And (b::r) p))
   |.Or=>MP (f a) (f (.BoolOp .Or (b::r) p))
noncomputable def SK (G:Gc)(rE:RE)(rB:RB)(L:Lc)(elt:Expr)(gs:List Comprehension)(sc:Scope)(p:Pos):FE:=match gs with
 |[]=>aV
 |g::gs=>match gs with
  |_::_=>aV
  |[]=>match g with
   |⟨tg,it,ifs,n⟩=>if n=0 then PX G rE rB L elt tg it ifs sc p else aV
noncomputable def IX:Expr->Bool
 |.UnaryOp op a _=>match op with
  |.USub=>match a with
   |.Constant c _ _=>match c with
    |.int i=>decide (i=1)
    |_=>false
   |_=>false
  |_=>false
 |_=>false
noncomputable def Si (L:Lc)(f:Expr->FE)(a ix:Expr)(p:Pos):FE:=match ix with
 |.Slice lo hi st _=>match st with
  |none=>if zH L p then JT (f a) (vO f lo) (vO f hi) else Es (f a) (vO f lo) (vO f hi)
  |some s=>if IX s&&lo.isNone&&hi.isNone then L8 (f a) else aV
 |b=>if zH L p then ah wk (f a) (f b) else ah aN (f a) (f b)
noncomputable def Sn (G:Gc)(L:Lc)(f:Expr->FE)(d:Str)(q:Pos)(m:Str)(ap:Pos)(args:List Expr)(p:Pos):FE:=match args with
 |[]=>if m = "bit_length"&&ap.endLine==p.line then vG (f (.Name d q)) else aV
 |a::r=>match r with
  |_::_=>aV
  |[]=>match G.nums.lookup d with
   |some kvs=>if m = "get"&&glob L d&&ap.endLine==p.line&&pN a then iH kvs (f a) else aV
   |none=>aV
noncomputable def NJ (G:Gc)(L:Lc)(f:Expr->FE)(fn:Expr)(args:List Expr)(kws:List Keyword)(p:Pos):FE:=match kws with
 |_::_=>aV
 |[]=>match fn with
  |.Name x _=>Ef G L f x args p
  |.Attribute o m ap=>match o with
   |.Name d q=>Sn G L f d q m ap args p
   |_=>aV
  |_=>aV
noncomputable def RQ (G:Gc)(rE:RE)(rB:RB)(L:Lc):Expr->FE
 |.Constant c _ _=>Sf c
 |.Name x _=>Cq G L x
 |.BinOp a op b _=>ah (Sa op) (rE L a) (rE L b)
 |.UnaryOp op a _=>Se op (rE L a)
 |.Compare a ops bs _=>RS (rE L) a ops bs
 |.BoolOp op vs p=>R9 (rE L) op vs p
 |.IfExp c a b _=>MX (rB L c) (rE L a) (rE L b)
 |.Tuple es _ _=>eA (vA (rE L) es)
 |.List es _=>gP (vA (rE L) es)
 |.ListComp elt gs sc p=>SK G rE rB L elt gs sc p
 |.Subscript a ix p=>Si L (rE L) a ix p
 |.Call fn args kws p=>NJ G L (rE L) fn args kws p
 |_=>aV
noncomputable def Ci:Expr->Bool
 |.UnaryOp .Not _ _=>false
 |.BoolOp _ _ _=>false
 |.IfExp _ _ _ _=>false
 |.Compare _ _ _ _=>false
 |_=>true
noncomputable def vW (f:Expr->FB)(op:BoolOp):List Expr->FB
 |[]=>fun _=>none
 |[a]=>f a
 |a::r=>match op with
  |.And=>ip (f a) (vW f op r)
  |.Or=>o4 (f a) (vW f op r)
noncomputable def Qu (rE:RE)(rB:RB)(L:Lc):Expr->FB
 |.Compare a [op] [b] _=>if behindInMarks op b then fun _=>none else fT (ah (qb op) (rE L a) (rE L b))
 |.Compare a [o1,o2] [b,c] _=>if lastMarks [o1,o2] [b,c] then fun _=>none else fT (Gy (qb o1) (qb o2) (rE L a) (rE L b) (rE L c))
 |.BoolOp op vs _=>vW (rB L) op vs
 |.UnaryOp .Not a _=>kM (rB L a)
 |e=>if Ci e then fT (rE L e) else fun _=>none
noncomputable def EK (G:Gc):Nat->RE×RB
 |0=>(fun _ _=>aV,fun _ _ _=>none)
 |n+1=>(RQ G (EK G n).1 (EK G n).2,Qu (EK G n).1 (EK G n).2)
noncomputable def Ic (L:Lc)(v:Expr)(t:Str)(tp:Pos):Bool:=match v with
 |.ListComp _ _ s p|.SetComp _ _ s p|.DictComp _ _ _ s p=>L.sc.kind==.function&&L.sc.names.lookup t==some .local&&tp.line==p.line&&!(s.names.any fun (n,k)=>n==t&&(k==.local || k==.cell))
 |_=>false
noncomputable def L4:Expr->Bool
 |.ListComp _ _ _ _|.SetComp _ _ _ _|.DictComp _ _ _ _ _=>true
 |_=>false
noncomputable def Nu:Expr->Bool
 |.List _ _=>true
 |.Call (.Name x _) _ _ _=>x == "list"
 |_=>false
noncomputable def PM (L:Lc)(ts vs:List Expr):Option (Option (List Str)):=
 if (!(ts.length==2 || ts.length==3) || vs.length != ts.length || L.sc.kind != .function)=true then some none
 else if (vs.any fun|.Starred ..=>true|_=>false)=true then some none
 else
  let line:=(ts.head?.map (·.pos.line)).getD 0
  let names:=ts.filterMap fun
   |.Name id pos=>if L.sc.names.lookup id==some .local&&pos.line==line then some id else none
   |_=>none
  if (names.length != ts.length || names.eraseDups.length != names.length)=true then some none
  else if vs.all (foldedForSure 8)=true then some none
  else if vs.all (constantsAlone 8)=true then none
  else some (some names)
noncomputable def OI (L:Lc)(tg v:Expr):Bool:=match tg,v with
 |.Tuple ts _ _,.Tuple vs _ _=>match PM L ts vs with
  |some none=>true
  |_=>false
 |.Tuple _ _ _,_=>true
 |_,_=>false
noncomputable def frzs:List Nat->FS->FS
 |[],s=>s
 |i::r,s=>frzs r (NI i s)
noncomputable def vL (f:Stmt->FS):List Stmt->FS
 |[]=>aK
 |[s]=>f s
 |s::r=>aq (f s) (vL f r)
noncomputable def t0:Operator->Option (Int->Int->Int)
 |.Add=>some fun a b=>a+b
 |.Sub=>some fun a b=>a - b
 |_=>none
noncomputable def P6 (G:Gc)(rE:RE)(L:Lc)(tg v:Expr):FS:=
 match tg with
 |.Name x p=>match gZ L x with
  |some i=>if Ic L v x p&&(match v with
   |.ListComp _ [⟨_,it,_,0⟩] _ _=>vg L it
   |_=>true) then bZ else if L.own.contains x then je i (rE L v) else bh i (rE L v)
  |none=>bZ
 |.Subscript (.Name j _) ix _=>match slot L j with
  |some i=>if hU ix&&!L4 v then mJ i (rE L ix) (rE L v) else bZ
  |none=>bZ
 |.Tuple [.Name x px,.Name y py] k pt=>match v with
  |.Tuple [a,b] _ _=>match PM L [.Name x px,.Name y py] [a,b],Iu x L.N,Iu y L.N with
   |some (some l),some i,some j=>if l==[x,y]&&pN a&&pN b&&i != j&&L.sc.names.lookup x==some .local&&L.sc.names.lookup y==some .local then
     (if L.own.contains x&&L.own.contains y&&Nu a&&Nu b then uP i j (rE L a) (rE L b) else nN i j (vA (rE L) [a,b])) else bZ
   |some none,_,_=>iw (rE L v) (vT 5 L tg)
   |_,_,_=>bZ
  |_=>if B9 v then bZ else iw (rE L v) (vT 5 L tg)
 |_=>if OI L tg v then iw (rE L v) (vT 5 L tg) else bZ
noncomputable def R5 (L:Lc)(f:Expr->FE)(v:Option Expr):FS:=match v with
 |none=>bZ
 |some e=>match e with
  |.Name x p=>match slot L x with
   |some i=>il i
   |none=>bC (f (.Name x p))
  |e=>bC (f e)
noncomputable def OK (L:Lc)(f:Expr->FE)(tg:Expr)(op:Operator)(v:Expr):FS:=match tg with
 |.Name x _=>match gZ L x with
  |none=>bZ
  |some i=>match t0 op with
   |some g=>wA g i (f v)
   |none=>bZ
 |.Subscript b ix _=>match b with
  |.Name j _=>match slot L j with
   |none=>bZ
   |some i=>match t0 op with
    |some g=>if hU ix then j2 g i (f ix) (f v) else bZ
    |none=>bZ
  |_=>bZ
 |_=>bZ
noncomputable def LQ (L:Lc)(f:Expr->FE)(o:Str)(q:Pos)(m:Str)(ap:Pos)(args:List Expr)(cp:Pos):FS:=match slot L o with
 |some i=>match args with
  |[]=>if m = "reverse"&&ap.endLine==cp.line then GR i else bZ
  |a::as=>if m = "append"&&ap.endLine==cp.line&&(a::as).all pN&&decide (as.length<20) then nB i (vA f (a::as)) else bZ
 |none=>match args with
  |[]=>bZ
  |a::as=>j0 (f (.Call (.Attribute (.Name o q) m ap) (a::as) [] cp))
noncomputable def RH (L:Lc)(f:Expr->FE)(fn:Expr)(args:List Expr)(kws:List Keyword)(cp:Pos):FS:=match kws with
 |_::_=>j0 (f (.Call fn args kws cp))
 |[]=>match fn with
  |.Attribute b m ap=>match b with
   |.Name o q=>LQ L f o q m ap args cp
   |b=>j0 (f (.Call (.Attribute b m ap) args [] cp))
  |fn=>j0 (f (.Call fn args [] cp))
noncomputable def Rv:Expr->Bool
 |.Constant c _ _=>match c with
  |.str _=>true
  |_=>false
 |_=>false
noncomputable def J5 (L:Lc)(f:Expr->FE)(e:Expr):FS:=if Rv e then aK else match e with
 |.Call fn args kws cp=>RH L f fn args kws cp
 |e=>if L4 e then bZ else j0 (f e)
noncomputable def Sk (G:Gc)(rE:RE)(rB:RB)(rS:Lc->Stmt->FS)(L:Lc):Stmt->FS
 |.Return v _=>R5 L (rE L) v
 |.If c a b _=>i9 (rB L c) (vL (rS L) a) (vL (rS L) b)
 |.For tg it body els _=>match els with
  |[]=>if LY it then jV (vI G L (rE L) false tg it) (vT 5 L tg) (vL (rS L) body) else bZ
  |_::_=>bZ
 |.While c body els _=>match els with
  |[]=>kZ (rB L c) (vL (rS L) body)
  |_::_=>bZ
 |.Assign tgs v _=>match tgs with
  |[]=>bZ
  |tg::r=>match r with
   |[]=>P6 G rE L tg v
   |_::_=>bZ
 |.AugAssign tg op v _=>OK L (rE L) tg op v
 |.Expr e _=>J5 L (rE L) e
 |.Pass _=>aK
 |.Break _=>RZ
 |.Continue _=>Sc
 |_=>bZ
noncomputable def vS (G:Gc):Nat->Lc->Stmt->FS
 |0=>fun _ _=>bZ
 |n+1=>fun L s=>frzs ((L.frz.lookup s.pos.line).getD []) (Sk G (EK G n).1 (EK G n).2 (vS G n) L s)
end Dp
end
section
namespace Dp
open PySem PySem.Spec L2 Pu
structure GOk (P:Program)(w:World)(K:PySem.W.Frag)(mg:Str->Option Value)(base:Heap)(k:Nat)(G:Gc):Prop where
 bi:∀x,G.bi.contains x=true->mg x=none
 nis:∀x i,G.nis.lookup x=some i->∃t,mg x=some (.int i t)
 tups:∀x ps,G.tups.lookup x=some ps->∃a,mg x=some (.ref a)/\KTup K a ps
 nums:∀x kvs,G.nums.lookup x=some kvs->∃a,mg x=some (.ref a)/\NumTab w K a kvs
 vals:∀x a,G.vals.lookup x=some a->mg x=some (.ref a)
 fns:∀x F,G.fns.lookup x=some F->∃j ps,j≤k/\Def P w K mg base j x ps (aP K (be F))
 tab:∃j qs,j≤k/\∀a F,look G.tab a=some F->DefA P w K mg base j a qs (aP K (be F))
structure Ok (X:Cx)(k:Nat)(G:Gc)(L:Lc):Prop where
 g:GOk X.prog X.w X.K X.mg X.base k G
 r:Room k X.A
 sc:X.env.scope=L.sc
 N:X.N=L.N
 nd:L.N.Nodup
 fk:L.sc.kind=.function
 calm:X.calm=true
 top:L.top=true->∀x,X.fn x=true
 xe:X.xe=fun _ _=>False
theorem dy {X:Cx}{e:Expr}{f:FE}(h:∀ρ,f ρ=none):DE X e f:=fun _ _ _ _ _ _ hh=>by
 obtain⟨F,ρ,r,_,e,_⟩:=hh
 rw[h] at e;cases e
theorem Dc {X:Cx}{e:Expr}{f:FB}(h:∀ρ,f ρ=none):DB X e f:=fun _ _ _ _ _ _ hh=>by
 obtain⟨F,ρ,r,_,⟨b,e,_⟩,_⟩:=hh
 rw[h] at e;cases e
theorem Gb {X:Cx}{e tg:Expr}{f:FI}(h:∀ρ,f ρ=none):DI X tg e f:=fun _ _ _ _ _ _ hh=>by
 obtain⟨F,ρ,r,_,⟨b,e,_⟩,_⟩:=hh
 rw[h] at e;cases e
theorem RC {X:Cx}{es:List Expr}:DA X es (fun _=>none):=by
 constructor
 ·intro _ _ _ _ _ _ _ hh
  obtain⟨F,ρ,r,_,⟨b,_,e,_⟩,_⟩:=hh
  cases e
 ·intro _ _ _ _ _ _ _ hh
  obtain⟨F,ρ,r,_,⟨b,e,_⟩,_⟩:=hh
  cases e
section
variable {X:Cx}{k:Nat}{G:Gc}{L:Lc}{x:Str}{i:Nat}{pos:Pos}{e:Expr}
theorem gf (h:Lr x=false):(x==("__debug__" : Str))=false/\(x==("__classdict__" : Str))=false/\x≠("__name__" : Str):=by
 unfold Lr at h
 simp only[Bool.or_eq_false_iff] at h
 exact⟨h.1.1,h.1.2,fun z=>by have:=h.2;rw[z] at this;simp at this⟩
theorem x6 (o:Ok X k G L)(h:slot L x=some i):X.N[i]?=some x/\Ij X.env.scope x/\Lr x=false:=by
 unfold slot at h
 split at h
 ·next z=>
  rw[Bool.and_eq_true,Bool.not_eq_true'] at z
  refine⟨by rw[o.N];exact p5 h,?_,z.2⟩
  have z1:=z.1
  unfold RO at z1
  unfold Ij
  rw[o.sc]
  split at z1<;>first|(next q=>simp[q])|cases z1
 ·cases h
theorem Ok.pv (o:Ok X k G L)(h:slot L x=some i):PE X (.Name x pos) (cR i):=by
 obtain⟨h1,h2,h3⟩:=x6 o h
 exact wN h1 h2 (gf h3).1 (gf h3).2.1
theorem hG (o:Ok X k G L)(h:glob L x=true):Gl X x/\Lr x=false:=by
 unfold glob at h
 rw[Bool.and_eq_true,Bool.not_eq_true',beq_iff_eq] at h
 exact⟨by show X.env.scope.names.lookup x=_;rw[o.sc];exact h.1,h.2⟩
theorem mq (o:Ok X k G L)(h:gZ L x=some i):X.N[i]?=some x/\L2.Kp X.env.scope x/\(X.fn x=true\/X.env.scope.names.lookup x=some .local):=by
 unfold gZ at h
 split at h
 ·next z=>
  rw[Bool.or_eq_true,Bool.and_eq_true,beq_iff_eq,beq_iff_eq] at z
  refine⟨by rw[o.N];exact p5 h,?_,?_⟩
  ·show X.env.scope.names.lookup x=_\/X.env.scope.names.lookup x=_
   rw[o.sc];exact z.elim .inl fun z=>.inr z.2
  ·rw[o.sc];exact z.elim .inr fun z=>.inl (o.top z.1 x)
 ·cases h
theorem Ok.nd' (o:Ok X k G L):X.N.Nodup:=by rw[o.N];exact o.nd
theorem MM (hm:X.mg x=none)(hg:Gl X x)(hd:Lr x=false):DE X (.Name x pos) (RK x):=by
 unfold RK
 have key:∀n,bootBuiltins x=some (.type n)->DE X (.Name x pos) (fC (.ty n)):=fun n h=>Hw (xo (p:=.ty n) (IE hm h hg (gf hd).2.2 (gf hd).1))
 repeat' split
 ·next z=>exact key _ (by rw[z];exact Bj)
 ·next z=>exact key _ (by rw[z];exact Fg)
 ·next z=>exact key _ (by rw[z];exact CP)
 ·next z=>exact key _ (by rw[z];exact nS)
 ·next z=>exact key _ (by rw[z];exact lD)
 ·next z=>exact key _ (by rw[z];exact Fe)
 ·exact dy fun _=>rfl
theorem Fx (o:Ok X k G L):DE X (.Name x pos) (Cq G L x):=by
 unfold Cq
 split
 ·next i h=>exact Sb (o.pv h)
 ·split
  ·next hg=>
   obtain⟨hg,hd⟩:=hG o hg
   split
   ·next i h=>exact Hw (xo (p:=.int i) (Me (o.g.nis x i h) hg (gf hd).1))
   ·split
    ·next ps h=>exact O6 (o.g.tups x ps h) hg (gf hd).1
    ·split
     ·next a h=>exact Qr (o.g.vals x a h) hg (gf hd).1
     ·split
      ·next h=>exact MM (o.g.bi x h) hg hd
      ·exact dy fun _=>rfl
  ·exact dy fun _=>rfl
theorem Il {f:Expr->FE}(h:∀e,DE X e (f e)):∀{es:List Expr},es.all pN=true->DA X es (QV f es)
 |[],_=>OO
 |e::es,z=>by
  rw[List.all_cons,Bool.and_eq_true] at z
  exact Jj (gY z.1) (h e) (Il h z.2)
theorem qA {f:Expr->FE}(h:∀e,DE X e (f e))(es:List Expr):DA X es (vA f es):=by
 unfold vA
 split
 ·next z=>exact Il h z
 ·exact RC
theorem M9 {a b:Expr}{fa fb:FE}{op:Operator}(ha:DE X a fa)(hb:DE X b fb):DE X (.BinOp a op b pos) (ah (Sa op) fa fb):=by
 cases op<;>first
  |exact Po ha hb
  |exact Pp ha hb
  |exact Np ha hb
  |exact NX ha hb
  |exact Oe ha hb
  |exact MF ha hb
  |exact Ng ha hb
  |exact OE ha hb
  |exact LL ha hb
  |(refine dy fun ρ=>?_
    show (fa ρ).bind (fun x=>(fb ρ).bind fun y=>none)=none
    cases fa ρ<;>simp)
theorem mO (hu:X.A.units+64<cLine)(op:CmpOp):CmpR X op (qb op):=by
 cases op<;>first
  |exact Rf
  |exact Q2
  |exact Q1
  |exact Q7
  |exact Q9 hu
  |exact Rb hu
  |exact QC hu
  |exact GY hu
  |exact Ro
  |exact ED
theorem Oy (o:Ok X k G L)(hx:G.bi.contains x=true)(hgl:glob L x=true){es:List Expr}{fs:FA}{p:Pos}{alt:Bool}{n:Nat}(ha:DA X (e::es) fs)(hs:(e::es).all pN=true):DE X (.Call (.Name x p) (e::es) [] pos) (PZ x alt n fs):=by
 obtain⟨hg,hd⟩:=hG o hgl
 have hm:=o.g.bi x hx
 rw[List.all_cons,Bool.and_eq_true] at hs
 have he:=gY hs.1 es X.env
 have hp:(backTo pos (starEach es X.env)).any (·.1)=false:=oe hs.2
 obtain⟨d1,d2,d3⟩:=gf hd
 have hc:=o.calm
 unfold PZ
 by_cases z:x = "len"
 ·rw[if_pos z]
  exact mm LO Fb (cG Ds hg hm (by rw[z];exact JK) ha.t d3 d1 he hp)
 rw[if_neg z];clear z
 by_cases z:x = "abs"
 ·rw[if_pos z]
  exact mm KR GM (cG BB hg hm (by rw[z];exact JN) ha.t d3 d1 he hp)
 rw[if_neg z];clear z
 by_cases z:x = "all"
 ·rw[if_pos z]
  exact mm I0 EZ (cG (AY hc) hg hm (by rw[z];exact KH) ha.t d3 d1 he hp)
 rw[if_neg z];clear z
 by_cases z:x = "any"
 ·rw[if_pos z]
  exact mm Jh EX (cG (Dh hc) hg hm (by rw[z];exact JU) ha.t d3 d1 he hp)
 rw[if_neg z];clear z
 by_cases z:x = "isinstance"
 ·rw[if_pos z]
  exact mm Km LV (cG mW hg hm (by rw[z];exact kI) ha.t d3 d1 he hp)
 rw[if_neg z];clear z
 by_cases z:x = "sorted"
 ·rw[if_pos z]
  cases alt with
  |true=>exact N8 wz AH (cG sd hg hm (by rw[z];exact rN) ha.t d3 d1 he hp)
  |false=>exact N8 xh xc (cG sJ hg hm (by rw[z];exact rN) ha.t d3 d1 he hp)
 rw[if_neg z];clear z
 by_cases z:x = "max"
 ·rw[if_pos z]
  by_cases hn:n=2
  ·rw[if_pos hn];exact mm G2 DY (cG (Aj hc) hg hm (by rw[z];exact Cb) ha.t d3 d1 he hp)
  ·rw[if_neg hn];subst z;exact Lx hm ha hc hg he hp
 rw[if_neg z];clear z
 by_cases z:x = "min"
 ·rw[if_pos z]
  by_cases hn:n=2
  ·rw[if_pos hn];exact mm FQ BP (cG (zx hc) hg hm (by rw[z];exact Br) ha.t d3 d1 he hp)
  ·rw[if_neg hn];subst z;exact IZ hm ha hc hg he hp
 rw[if_neg z];clear z
 by_cases z:x = "sum"
 ·rw[if_pos z]
  subst z;exact NO hm ha hc hg he hp
 rw[if_neg z];clear z
 by_cases z:x = "int"
 ·rw[if_pos z]
  exact mm Ks Gv (fq zJ hg hm (by rw[z];exact Bj) ha.t d3 d1 he hp)
 rw[if_neg z];clear z
 by_cases z:x = "tuple"
 ·rw[if_pos z]
  cases alt with
  |true=>subst z;exact Jb hm ha hc hg he hp
  |false=>exact mm LI EB (fq kK hg hm (by rw[z];exact lD) ha.t d3 d1 he hp)
 rw[if_neg z];clear z
 by_cases z:x = "list"
 ·rw[if_pos z]
  subst z;exact EH hm ha hc hg he hp
 rw[if_neg z];clear z
 by_cases z:x = "range"
 ·rw[if_pos z]
  exact mm Lf GJ (fq vE hg hm (by rw[z];exact AU) ha.t d3 d1 he hp)
 rw[if_neg z];clear z
 exact dy fun _=>rfl
theorem KC {c:Prop}[Decidable c]{a b:FE}{ρ:ak}(ha:a ρ=none)(hb:b ρ=none):(if c then a else b) ρ=none:=by
 by_cases h:c
 ·rw[if_pos h];exact ha
 ·rw[if_neg h];exact hb
theorem GO (o:Ok X k G L){f:Expr->FE}(h:∀e,DE X e (f e))(args:List Expr){p:Pos}:DE X (.Call (.Name x p) args [] pos) (Ef G L f x args pos):=by
 unfold Ef
 cases args with
 |nil=>
  split
  ·exact dy fun _=>rfl
  ·split
   ·next hg=>
    obtain⟨hg,hd⟩:=hG o hg
    split
    ·next F hF=>
     obtain⟨j,ps,hj,d⟩:=o.g.fns x F hF
     exact BY d o.r hj hg (gf hd).1
    ·rw[show ([]:List Expr).isEmpty=true from rfl,Bool.not_true,Bool.and_false]
     exact dy fun _=>rfl
   ·exact dy fun _=>rfl
 |cons e es=>
  by_cases hs:(e::es).all pN=true
  ·have ha:=qA (X:=X) h (e::es)
   have hs':=hs
   rw[List.all_cons,Bool.and_eq_true] at hs'
   have he:=gY hs'.1 es X.env
   have hp:(backTo pos (starEach es X.env)).any (·.1)=false:=oe hs'.2
   split
   ·next i hi=>
    obtain⟨h1,h2,h3⟩:=x6 o hi
    obtain⟨j,qs,hj,ht⟩:=o.g.tab
    exact Gi ht o.r h1 ha h2 hj (gf h3).1 (gf h3).2.1 he hp
   ·split
    ·next hgl=>
     obtain⟨hg,hd⟩:=hG o hgl
     split
     ·next F hF=>
      obtain⟨j,ps,hj,d⟩:=o.g.fns x F hF
      exact FC d o.r ha hj hg (gf hd).1 he hp
     ·split
      ·next hb=>
       rw[Bool.and_eq_true] at hb
       exact Oy o hb.1 hgl ha hs
      ·exact dy fun _=>rfl
    ·exact dy fun _=>rfl
  ·have hn:vA f (e::es)=fun _=>none:=by unfold vA;rw[if_neg hs]
   rw[hn]
   refine dy fun ρ=>?_
   cases slot L x with
   |some i=>
    show tZ _ (sl ρ i) none=none
    unfold tZ
    split
    ·next h1 h2=>cases h2
    ·rfl
   |none=>
    by_cases hg:glob L x=true
    ·dsimp only
     rw[if_pos hg]
     cases G.fns.lookup x with
     |some F=>rfl
     |none=>
      dsimp only
      by_cases hb:(G.bi.contains x&&!(e::es).isEmpty)=true
      ·rw[if_pos hb]
       unfold PZ
       repeat' (first|rfl|refine KC ?_ ?_)
      ·rw[if_neg hb];rfl
    ·dsimp only
     rw[if_neg hg];rfl
end
end Dp
end
section
namespace Dp
open PySem PySem.Spec L2 Pu
section
variable {X:Cx}{k:Nat}{G:Gc}{L:Lc}{x:Str}{i:Nat}{pos:Pos}{e:Expr}
theorem xK {tg:Expr}:PG X tg KU:=fun _ _ _ _ _ _ _ _ _ h=>h.elim
theorem yB {K:PySem.W.Frag}:gQ K KU (qT fun _ _=>none):=fun _ _ _ _ _ _ _ _ _ _ ⟨_,e,_⟩=>by cases e
theorem EV (o:Ok X k G L):PG X (.Name x pos) (match gZ L x with|some i=>aO i|none=>KU):=by
 cases h:gZ L x with
 |some i=>
  obtain⟨h1,h2,h3⟩:=mq o h
  exact jx o.nd' h1 h2 h3
 |none=>exact xK
theorem sR {env:Env}:∀{es:List Expr},es.all pN=true->(assignEach es env).length=es.length/\(assignEach es env).findIdx? (·.1)=none/\∀e r,es=e::r->(assignEach es env).map (·.2)=assign e env::(assignEach r env).map (·.2)
 |[],_=>⟨rfl,rfl,fun _ _ h=>by cases h⟩
 |e::r,h=>by
  rw[List.all_cons,Bool.and_eq_true] at h
  have he:assignEach (e::r) env=(false,assign e env)::assignEach r env:=by
   have:=h.1
   cases e<;>first|rfl|(cases this)
  obtain⟨h1,h2,_⟩:=sR (env:=env) h.2
  rw[he]
  refine⟨by rw[List.length_cons,List.length_cons,h1],?_,fun _ _ q=>by cases q;rfl⟩
  rw[List.findIdx?_cons,h2];rfl
theorem D0 {f:Expr->TG}(h:∀e,PG X e (f e)):∀{es:List Expr},es.all pN=true->MC X es (Mv f es)
 |[],_=>nR
 |e::r,z=>by
  have:=(sR (env:=X.env) z).2.2 e r rfl
  rw[List.all_cons,Bool.and_eq_true] at z
  exact ig (h e) (D0 h z.2) this
theorem xY:∀(n:Nat) {L:Lc} {X:Cx},Ok X k G L->∀e,PG X e (tG X.K n L e)
 |0,_,_,_,e=>by cases e<;>exact xK
 |n+1,L,X,o,e=>by
  cases e<;>first|exact xK|exact EV o|skip
  rename_i es kk p
  unfold tG
  split
  ·next z=>
   obtain⟨h1,h2,_⟩:=sR (env:=X.env) z
   exact C2 o.calm (D0 (xY n o) z) h1 h2
  ·exact xK
theorem C5 {K:PySem.W.Frag}{f:Expr->TG}{g:Expr->FT}(h:∀e,gQ K (f e) (qT (g e))):∀es:List Expr,ke K (Mv f es) (N4 (Rt g es))
 |[]=>Pj
 |e::r=>Mb (h e) (C5 h r)
theorem xJ {K:PySem.W.Frag}:∀(n:Nat) (L:Lc) (e:Expr),gQ K (tG K n L e) (qT (vT n L e))
 |0,L,e=>by cases e<;>exact yB
 |n+1,L,e=>by
  cases e<;>first|exact yB|skip
  ·unfold tG vT
   cases gZ L _ with
   |some i=>exact Ku
   |none=>exact yB
  ·rename_i es kk p
   unfold tG vT
   split
   ·exact Ob (C5 (xJ n L) es)
   ·exact yB
noncomputable def uT (l:List Nat)(g:TG):Prop:=∀x σ H N,g x σ H N->g x σ H fun σ' H'=>N σ' H'/\σ'.length=σ.length/\∀i,i∉l->σ'[i]?=σ[i]?
noncomputable def Jt (l:List Nat)(g:ve):Prop:=∀x σ H N,g x σ H N->g x σ H fun σ' H'=>N σ' H'/\σ'.length=σ.length/\∀i,i∉l->σ'[i]?=σ[i]?
theorem jz {l:List Nat}:uT l KU:=fun _ _ _ _ h=>h.elim
noncomputable def Gh (g:TG):Prop:=∀x σ H N N',(∀σ' H',N σ' H'->N' σ' H')->g x σ H N->g x σ H N'
noncomputable def MH (g:ve):Prop:=∀x σ H N N',(∀σ' H',N σ' H'->N' σ' H')->g x σ H N->g x σ H N'
theorem oP {f:Expr->TG}(h:∀e,Gh (f e)):∀es:List Expr,MH (Mv f es)
 |[],_,_,_,_,_,w,⟨e,q⟩=>⟨e,w _ _ q⟩
 |e::r,_,_,_,_,_,w,⟨v,vs,e1,q⟩=>⟨v,vs,e1,h e _ _ _ _ _ (fun _ _ q=>oP h r _ _ _ _ _ w q) q⟩
theorem nU {K:PySem.W.Frag}:∀(n:Nat) (L:Lc) (e:Expr),Gh (tG K n L e)
 |0,L,e=>by cases e<;>exact fun _ _ _ _ _ _ h=>h.elim
 |n+1,L,e=>by
  cases e<;>first|exact (fun _ _ _ _ _ _ h=>h.elim)|skip
  ·unfold tG
   cases gZ L _ with
   |some i=>exact fun _ _ _ _ _ w q=>w _ _ q
   |none=>exact fun _ _ _ _ _ _ h=>h.elim
  ·rename_i es kk p
   unfold tG
   split
   ·exact fun _ _ _ _ _ w ⟨a,xs,h1,h2,h3,q⟩=>⟨a,xs,h1,h2,h3,oP (nU n L) es _ _ _ _ _ w q⟩
   ·exact fun _ _ _ _ _ _ h=>h.elim
theorem zG {l m:List Nat}{g:TG}(hm:Gh g)(h:uT l g)(s:∀i,i∈l->i∈m):uT m g:=fun x σ H N q=>
 hm _ _ _ _ _ (fun _ _ ⟨a,b,c⟩=>⟨a,b,fun i hi=>c i fun z=>hi (s i z)⟩) (h x σ H N q)
theorem qM {f:Expr->TG}{l:List Nat}(hm:∀e,Gh (f e)):∀es:List Expr,(∀e∈es,uT l (f e))->Jt l (Mv f es)
 |[],_,_,_,_,_,⟨e,q⟩=>⟨e,q,rfl,fun _ _=>rfl⟩
 |e::r,h,_,σ,_,_,⟨v,vs,e1,q⟩=>⟨v,vs,e1,hm e _ _ _ _ _ (fun σ1 H1 ⟨q,l1,k1⟩=>oP hm r _ _ _ _ _ (fun σ2 H2 ⟨q,l2,k2⟩=>⟨q,l2.trans l1,fun i hi=>(k2 i hi).trans (k1 i hi)⟩)
   (qM hm r (fun z hz=>h z (List.mem_cons_of_mem _ hz)) _ _ _ _ q)) (h e List.mem_cons_self _ _ _ _ q)⟩
theorem u7 {K:PySem.W.Frag}:∀(n:Nat) (L:Lc) (e:Expr),uT (Pq n L e) (tG K n L e)
 |0,L,e=>by cases e<;>exact jz
 |n+1,L,e=>by
  cases e<;>first|exact jz|skip
  ·unfold tG Pq
   cases gZ L _ with
   |some i=>exact fun _ σ _ _ q=>⟨q,List.length_set,fun j hj=>List.getElem?_set_ne fun z=>hj (by rw[z];simp)⟩
   |none=>exact jz
  ·rename_i es kk p
   unfold tG
   split
   ·refine fun _ _ _ _ ⟨a,xs,h1,h2,h3,q⟩=>⟨a,xs,h1,h2,h3,qM (nU n L) es (fun e he=>zG (nU n L e) (u7 n L e) fun i hi=>?_) _ _ _ _ q⟩
    unfold Pq
    exact List.mem_flatMap.mpr ⟨e,he,hi⟩
   ·exact jz
theorem IG (o:Ok X k G L){f:Expr->FE}(h:∀e,DE X e (f e))(tg it:Expr):DI X tg it (vI G L f false tg it):=by
 unfold vI
 rw[if_neg Bool.false_ne_true]
 split
 ·next y p a p'=>
  split
  ·next z=>
   rw[Bool.and_eq_true,Bool.and_eq_true,decide_eq_true_eq] at z
   obtain⟨⟨rfl,z2⟩,z3⟩:=z
   obtain⟨hg,hd⟩:=hG o z2
   by_cases hs:[a].all pN=true
   ·exact La (zV hg (o.g.bi _ z3) (qA h [a]).t (by
     rw[List.all_cons,Bool.and_eq_true] at hs
     exact gY hs.1 [] X.env))
   ·have:vA f [a]=fun _=>none:=by unfold vA;rw[if_neg hs]
    rw[this];exact Gb fun _=>rfl
  ·split
   ·next z=>
    rw[Bool.and_eq_true,Bool.and_eq_true,Bool.and_eq_true,decide_eq_true_eq] at z
    obtain⟨⟨⟨rfl,z2⟩,z3⟩,z4⟩:=z
    obtain⟨hg,hd⟩:=hG o z2
    obtain⟨elts,kk,tp,rfl⟩:∃elts kk tp,tg=.Tuple elts kk tp:=by
     cases tg<;>first|exact⟨_,_,_,rfl⟩|(cases z4)
    by_cases hs:[a].all pN=true
    ·have he:starEach [a] X.env=[(false,eval a X.env)]:=by
      rw[List.all_cons,Bool.and_eq_true] at hs
      exact gY hs.1 [] X.env
     split
     ·exact Hn (CH hg (o.g.bi _ z3) (qA h [a]).f he)
     ·exact K7 (GW hg (o.g.bi _ z3) (qA h [a]).f he)
    ·have:vA f [a]=fun _=>none:=by unfold vA;rw[if_neg hs]
     rw[this]
     split<;>exact Gb fun _=>rfl
   ·exact zd (h _)
 ·next y p a b p'=>
  split
  ·next z=>
   rw[Bool.and_eq_true,Bool.and_eq_true,decide_eq_true_eq] at z
   obtain⟨⟨rfl,z2⟩,z3⟩:=z
   obtain⟨hg,hd⟩:=hG o z2
   by_cases hs:[a,b].all pN=true
   ·have hs':=hs
    rw[List.all_cons,List.all_cons,Bool.and_eq_true,Bool.and_eq_true] at hs'
    have e1:starEach [b] X.env=[(false,eval b X.env)]:=gY hs'.2.1 [] X.env
    exact Ko (As hg (o.g.bi _ z3) (qA h [a,b]).t (by rw[gY hs'.1 [b] X.env,e1]) e1)
   ·have:vA f [a,b]=fun _=>none:=by unfold vA;rw[if_neg hs]
    rw[this];exact Gb fun _=>rfl
  ·exact zd (h _)
 ·next y p a b d p'=>
  split
  ·next z=>
   rw[Bool.and_eq_true,Bool.and_eq_true,decide_eq_true_eq] at z
   obtain⟨⟨rfl,z2⟩,z3⟩:=z
   obtain⟨hg,hd⟩:=hG o z2
   by_cases hs:[a,b,d].all pN=true
   ·have hs':=hs
    rw[List.all_cons,List.all_cons,List.all_cons,Bool.and_eq_true,Bool.and_eq_true,Bool.and_eq_true] at hs'
    have e2:starEach [d] X.env=[(false,eval d X.env)]:=gY hs'.2.2.1 [] X.env
    have e1:starEach [b,d] X.env=[(false,eval b X.env),(false,eval d X.env)]:=by rw[gY hs'.2.1 [d] X.env,e2]
    exact Kt (AA hg (o.g.bi _ z3) (qA h [a,b,d]).t (by rw[gY hs'.1 [b,d] X.env,e1]) e1)
   ·have:vA f [a,b,d]=fun _=>none:=by unfold vA;rw[if_neg hs]
    rw[this];exact Gb fun _=>rfl
  ·exact zd (h _)
 ·exact zd (h _)
structure CpOk (X:Cx)(L:Lc)(elt tg it:Expr)(ifs:List Expr)(sc:Scope)(own:Bool)(f:FE):Prop where
 ex:(∀ρ,f ρ=none)\/∃(N2:List Str) (fm:List (Option Nat)) (h0:TG) (fi:FI) (t:FT) (c:FB) (fe:FE),f=gH fm fi t c fe/\gQ X.K h0 (qT t) ∧
  (∀C s H ex,PG (X.blk sc N2 C s H ex) tg h0)/\(∀C s H ex,PIf (X.blk sc N2 C s H ex) ifs (lB X.K (AJ c)))/\(∀C s H ex,PE (X.blk sc N2 C s H ex) elt (lE X.K (tF fe)))/\rA fm h0 ∧
  lf sc.kind sc.names X.env.kindOf X.N N2 fm=true/\(∀x,foldedSetIterable it X.env x=pure x)/\(own=true->R1 X tg it fi)/\(own=false->DI X tg it fi)
theorem xv (o:Ok X k G L){sc:Scope}{tg:Expr}{N2:List Str}(hk:sc.kind=.function)(hn:N2.Nodup){C:Addr}{s:Shared}{H:Hp}{ex:List Addr}:Ok (X.blk sc N2 C s H ex) k G (JM L sc tg N2) where
 g:=o.g
 r:=o.r
 sc:=by
  show relabel sc X.env=Ee sc L.sc
  unfold relabel Ee
  rw[show X.env.kindOf=fun x=>L.sc.names.lookup x by funext x;show X.env.scope.names.lookup x=_;rw[o.sc],o.sc]
 N:=rfl
 nd:=hn
 fk:=hk
 calm:=o.calm
 top:=fun h=>by cases h
 xe:=rfl
theorem Ik (o:Ok X k G L){rE:RE}{rB:RB}(hE:∀{X:Cx} {L:Lc},Ok X k G L->∀e,DE X e (rE L e))(hB:∀{X:Cx} {L:Lc},Ok X k G L->∀e,DB X e (rB L e))(elt tg it:Expr)(ifs:List Expr)(sc:Scope)(p:Pos) :
  CpOk X L elt tg it ifs sc (vg L it) (PX G rE rB L elt tg it ifs sc p):=by
 unfold PX
 split
 ·exact⟨.inl fun _=>rfl⟩
 ·next N2 _=>
  split
  ·next z=>
   unfold So at z
   rw[Bool.and_eq_true,Bool.and_eq_true,Bool.and_eq_true,decide_eq_true_eq] at z
   obtain⟨⟨⟨z1,z2⟩,z3⟩,z4⟩:=z
   have hk:sc.kind=.function:=by
    unfold lf at z1
    simp only[Bool.and_eq_true,beq_iff_eq] at z1
    exact z1.1.1.1.1.1
   refine⟨.inr ⟨N2,PU L tg N2,tG X.K 5 (JM L sc tg N2) tg,_,_,_,_,rfl,xJ 5 _ tg,fun C s H ex=>xY 5 (xv o hk z2) tg,fun C s H ex=>?_,fun C s H ex=>(hE (xv o hk z2) elt).ee,?_,?_,?_,fun ho=>?_,fun ho=>?_⟩⟩
   ·have ob:=xv o (tg:=tg) hk z2 (C:=C) (s:=s) (H:=H) (ex:=ex)
    cases ifs with
    |nil=>exact Mf
    |cons c r=>
     cases r with
     |nil=>exact JO (hB ob c)
     |cons _ _=>
      intro _ _ _ _ _ _ hh
      obtain⟨F,ρ,r,_,⟨b,e,_⟩,_⟩:=hh
      cases e
   ·intro x σ H N q
    refine nU 5 _ tg _ _ _ _ _ (fun σ' H' ⟨a,b,c⟩=>⟨a,b,fun i j hj=>c i fun hi=>?_⟩) (u7 5 (JM L sc tg N2) tg x σ H N q)
    have:=List.all_eq_true.mp z3 i hi
    rw[beq_iff_eq,hj] at this
    cases this
   ·rw[show X.env.kindOf=fun x=>L.sc.names.lookup x by funext x;show X.env.scope.names.lookup x=_;rw[o.sc],o.N]
    exact z1
   ·intro x
    cases it<;>first|rfl|(cases z4)
   ·unfold vI
    rw[if_pos ho]
    exact J4 (hE o it)
   ·rw[ho]
    exact IG o (hE o) tg it
  ·exact⟨.inl fun _=>rfl⟩
theorem CpOk.de {elt tg it:Expr}{ifs:List Expr}{sc:Scope}{p:Pos}{own:Bool}{f:FE}(o:Ok X k G L)(h:CpOk X L elt tg it ifs sc own f):DE X (.ListComp elt [⟨tg,it,ifs,0⟩] sc p) f:=by
 rcases h.ex with h|⟨N2,fm,h0,fi,t,c,fe,rfl,hg,h1,h2,h3,h4,h5,h6,h7,h8⟩
 ·exact dy h
 ·cases own with
  |true=>exact Gs hg (yq N2 fm (h7 rfl) h1 h2 h3 h4 h5 o.calm h6)
  |false=>exact LG hg (yq N2 fm (h8 rfl) h1 h2 h3 h4 h5 o.calm h6)
end
end Dp
end
section
namespace Dp
open PySem PySem.Spec L2 Pu
section
variable {X:Cx}{k:Nat}{G:Gc}{L:Lc}{x:Str}{i:Nat}{pos:Pos}{e:Expr}
theorem pP {b:Expr}(h:hU b=true):kj b:=by
 cases b<;>first|(exact fun _ _=>rfl)|skip
 rename_i lo hi st p
 cases st with
 |none=>cases h
 |some s=>exact fun _ _=>rfl
theorem Ai {env:Env}(h:Ci e=true):∀whole,PySem.isTrue e env whole=(do let v ←whole;standAt e.pos;holding [v] (truthy v)):=by
 cases e<;>first|(exact fun _=>rfl)|(cases h;done)|skip
 rename_i op a p
 cases op<;>first|(exact fun _=>rfl)|(cases h;done)
theorem yr {f:Expr->FE}(h:∀e,DE X e (f e)):∀o,DO X o (vO f o)
 |none=>P8
 |some e=>Rh (h e)
theorem N3 {f:Expr->FB}(h:∀e,DB X e (f e))(op:BoolOp):∀(vs:List Expr),vs≠[]->DW X (.BoolOp op vs pos) (vW f op vs)
 |[],z=>(z rfl).elim
 |[a],_=>by cases op;exact JF (h a);exact NQ (h a)
 |a::b::r,_=>by
  have ih:=N3 h op (b::r) (by simp)
  cases op
  ·exact Pv (h a) ih
  ·exact QP (h a) ih
theorem PD {d:Str}{dp ap cp:Pos}{a:Expr}{m:Str}(hl:(ap.endLine==cp.line)=true)(hs:pN a=true):M1 X (.Name d dp) m ap a cp:=by
 have he:starEach [a] X.env=[(false,eval a X.env)]:=gY hs [] X.env
 exact⟨rfl,by rw[he];rfl,hl,by rw[he];rfl⟩
theorem Ll {c:Const}{kd:Nat}:DE X (.Constant c kd pos) (Sf c):=by
 cases c<;>first|exact Nk|exact QR|exact Pr|exact M8|exact dy fun _=>rfl
theorem GD {s:Expr}(h:IX s=true):∃p1 k p2,s=.UnaryOp .USub (.Constant (.int 1) k p1) p2:=by
 cases s<;>first|(cases h;done)|skip
 rename_i op a p
 cases op<;>first|(cases h;done)|skip
 cases a<;>first|(cases h;done)|skip
 rename_i c k p1
 cases c<;>first|(cases h;done)|skip
 rename_i i
 have:i=1:=of_decide_eq_true h
 subst this
 exact⟨_,_,_,rfl⟩
section
variable {f:Expr->FE}(hf:∀e,DE X e (f e))
include hf
theorem K6 {op:UnaryOp}{a:Expr}:DE X (.UnaryOp op a pos) (Se op (f a)):=by
 cases op<;>first|exact Ov (hf _)|exact Ol (hf _)|exact dy fun _=>rfl
theorem JY (o:Ok X k G L){a:Expr}{ops:List CmpOp}{bs:List Expr}:DE X (.Compare a ops bs pos) (RS f a ops bs):=by
 have hu:=o.r.units
 cases ops with
 |nil=>exact dy fun _=>rfl
 |cons o1 ops=>cases bs with
  |nil=>exact dy fun _=>rfl
  |cons b bs=>cases ops with
   |nil=>cases bs with
    |nil=>
     show DE X _ (if behindInMarks o1 b then aV else ah (qb o1) (f a) (f b))
     split
     ·exact dy fun _=>rfl
     ·next z=>exact Om (mO hu _) (hf _) (hf _) (by simpa using z)
    |cons=>exact dy fun _=>rfl
   |cons o2 ops=>cases ops with
    |cons=>exact dy fun _=>rfl
    |nil=>cases bs with
     |nil=>exact dy fun _=>rfl
     |cons c bs=>cases bs with
      |cons=>exact dy fun _=>rfl
      |nil=>
       show DE X _ (if lastMarks [o1,o2] [b,c] then aV else Gy (qb o1) (qb o2) (f a) (f b) (f c))
       split
       ·exact dy fun _=>rfl
       ·next z=>exact Rx (mO hu _) (mO hu _) (hf _) (hf _) (hf _) (by simpa using z)
theorem JX {op:BoolOp}{vs:List Expr}:DE X (.BoolOp op vs pos) (R9 f op vs pos):=by
 cases vs with
 |nil=>exact dy fun _=>rfl
 |cons a r=>cases r with
  |nil=>exact M2 (hf _)
  |cons b r=>cases op with
   |And=>exact M6 (hf _) (hf _)
   |Or=>exact P5 (hf _) (hf _)
theorem LD {a ix:Expr}:DE X (.Subscript a ix pos) (Si L f a ix pos):=by
 have other:∀b:Expr,hU b=true->DE X (.Subscript a b pos) (if zH L pos then ah wk (f a) (f b) else ah aN (f a) (f b)):=fun b z=>by
  split
  ·exact NE (hf _) (hf _) (pP z)
  ·exact Qq (hf _) (hf _) (pP z)
 cases ix<;>first|exact other _ rfl|skip
 rename_i lo hi st p
 cases st with
 |none=>
  show DE X _ (if zH L pos then JT (f a) (vO f lo) (vO f hi) else Es (f a) (vO f lo) (vO f hi))
  split
  ·exact Oq (hf _) (yr hf _) (yr hf _)
  ·exact P9 (hf _) (yr hf _) (yr hf _)
 |some s=>
  show DE X _ (if IX s&&lo.isNone&&hi.isNone then L8 (f a) else aV)
  split
  ·next z=>
   rw[Bool.and_eq_true,Bool.and_eq_true] at z
   obtain⟨⟨z1,z2⟩,z3⟩:=z
   obtain⟨p1,kk,p2,rfl⟩:=GD z1
   cases lo with
   |some=>cases z2
   |none=>cases hi with
    |some=>cases z3
    |none=>exact M5 (hf _)
  ·exact dy fun _=>rfl
theorem Kl (o:Ok X k G L){d m:Str}{q ap:Pos}{args:List Expr}:DE X (.Call (.Attribute (.Name d q) m ap) args [] pos) (Sn G L f d q m ap args pos):=by
 cases args with
 |nil=>
  show DE X _ (if m = "bit_length"&&ap.endLine==pos.line then vG (f (.Name d q)) else aV)
  split
  ·next z=>
   rw[Bool.and_eq_true,decide_eq_true_eq] at z
   obtain⟨rfl,z2⟩:=z
   exact Kg (hf _) z2
  ·exact dy fun _=>rfl
 |cons a r=>cases r with
  |cons=>exact dy fun _=>rfl
  |nil=>
   show DE X _ (match G.nums.lookup d with
    |some kvs=>if m = "get"&&glob L d&&ap.endLine==pos.line&&pN a then iH kvs (f a) else aV
    |none=>aV)
   cases hk:G.nums.lookup d with
   |none=>exact dy fun _=>rfl
   |some kvs=>
    show DE X _ (if m = "get"&&glob L d&&ap.endLine==pos.line&&pN a then iH kvs (f a) else aV)
    split
    ·next z=>
     rw[Bool.and_eq_true,Bool.and_eq_true,Bool.and_eq_true,decide_eq_true_eq] at z
     obtain⟨⟨⟨rfl,z2⟩,z3⟩,z4⟩:=z
     obtain⟨hg,hd⟩:=hG o z2
     exact BC (o.g.nums _ _ hk) (hf _) (PD z3 z4) hg (gf hd).1
    ·exact dy fun _=>rfl
theorem Fl (o:Ok X k G L){fn:Expr}{args:List Expr}{kws:List Keyword}:DE X (.Call fn args kws pos) (NJ G L f fn args kws pos):=by
 cases kws with
 |cons=>exact dy fun _=>rfl
 |nil=>
  cases fn<;>first|exact dy fun _=>rfl|exact GO o hf _|skip
  rename_i ob m ap
  cases ob<;>first|exact dy fun _=>rfl|exact Kl hf o
end
theorem Mn (o:Ok X k G L){rE:RE}{rB:RB}(hE:∀{X:Cx} {L:Lc},Ok X k G L->∀e,DE X e (rE L e))(hB:∀{X:Cx} {L:Lc},Ok X k G L->∀e,DB X e (rB L e))(e:Expr):DE X e (RQ G rE rB L e):=by
 cases e with
 |Constant c kd p=>exact Ll
 |Name x p=>exact Fx o
 |BinOp a op b p=>exact M9 (hE o _) (hE o _)
 |UnaryOp op a p=>exact K6 (hE o)
 |Compare a ops bs p=>exact JY (hE o) o
 |BoolOp op vs p=>exact JX (hE o)
 |IfExp c a b p=>exact Q6 (hB o _) (hE o _) (hE o _)
 |Tuple es kk p=>exact Pf (qA (hE o) _)
 |List es p=>exact MS (qA (hE o) _)
 |ListComp elt gs sc p=>
  cases gs with
  |nil=>exact dy fun _=>rfl
  |cons g gs=>cases gs with
   |cons=>exact dy fun _=>rfl
   |nil=>
    obtain⟨tg,it,ifs,n⟩:=g
    show DE X _ (if n=0 then PX G rE rB L elt tg it ifs sc p else aV)
    split
    ·next z=>subst z;exact (Ik o hE hB _ _ _ _ _ _).de o
    ·exact dy fun _=>rfl
 |Subscript a ix p=>exact LD (hE o)
 |Call fn args kws p=>exact Fl (hE o) o
 |_=>exact dy fun _=>rfl
theorem KP (o:Ok X k G L){rE:RE}{rB:RB}(hE:∀{X:Cx} {L:Lc},Ok X k G L->∀e,DE X e (rE L e))(hB:∀{X:Cx} {L:Lc},Ok X k G L->∀e,DB X e (rB L e))(e:Expr):DB X e (Qu rE rB L e):=by
 have hu:=o.r.units
 unfold Qu
 split
 ·split
  ·exact Dc fun _=>rfl
  ·next z=>exact NW (mO hu _) (hE o _) (hE o _) (by simpa using z)
 ·split
  ·exact Dc fun _=>rfl
  ·next z=>exact Rp (mO hu _) (mO hu _) (hE o _) (hE o _) (hE o _) (by simpa using z)
 ·next op vs p=>
  cases vs with
  |nil=>exact Dc fun _=>rfl
  |cons a r=>exact SA (N3 (hB o) op (a::r) (by simp))
 ·exact Oj (hB o _)
 ·split
  ·next z=>exact OD (hE o _) (Ai z)
  ·exact Dc fun _=>rfl
end
theorem m5 {k:Nat}{G:Gc}:∀n:Nat,(∀{X:Cx} {L:Lc},Ok X k G L->∀e,DE X e ((EK G n).1 L e))/\∀{X:Cx} {L:Lc},Ok X k G L->∀e,DB X e ((EK G n).2 L e)
 |0=>⟨fun _ _=>dy fun _=>rfl,fun _ _=>Dc fun _=>rfl⟩
 |n+1=>⟨fun o e=>Mn o (m5 n).1 (m5 n).2 e,fun o e=>KP o (m5 n).1 (m5 n).2 e⟩
end Dp
end
section
namespace Dp
open PySem PySem.Spec L2 Pu
section
variable {X:Cx}{k:Nat}{G:Gc}{L:Lc}{x:Str}{i:Nat}{pos:Pos}{e v tg:Expr}
theorem Eg {st:Stmt}{s:FS}(h:∀ρ,s ρ=.bad):DS X st s:=aY rO fun D ρ q=>by
 unfold m6 at q
 rw[h] at q;exact q
theorem Ok.bk (o:Ok X k G L):X.env.blockKind=.function:=by
 unfold Env.blockKind
 rw[o.sc,o.fk];rfl
theorem IC (o:Ok X k G L){t:Str}{p:Pos}{ln:Nat}:swapsWith v (some (.Name t p)) ln X.env=pure (Ic L v t p):=by
 have hk:X.env.kindOf t=L.sc.names.lookup t:=by show X.env.scope.names.lookup t=_;rw[o.sc]
 cases v<;>first|rfl|skip
 all_goals
  simp only[swapsWith,Ic,o.bk,hk,o.fk]
  rfl
theorem L1 {ts:List Expr}{kk:Nat}{p:Pos}{ln:Nat}:swapsWithSole [.Tuple ts kk p] v ln X.env=pure false:=by cases v<;>rfl
theorem Jr {a b:Expr}{p:Pos}{ln:Nat}:swapsWithSole [.Subscript a b p] v ln X.env=pure false:=by cases v<;>rfl
theorem FV {ln:Nat}(h:L4 v=false):swapsWith v none ln X.env=pure false:=by
 cases v<;>first|rfl|(cases h)
theorem tH (o:Ok X k G L){ts vs:List Expr}{k1 k2:Nat}{p1 p2:Pos}{r:Option (List Str)}(h:PM L ts vs=some r):swappedStores [.Tuple ts k1 p1] (.Tuple vs k2 p2) X.env=pure r:=by
 have hk:X.env.kindOf=fun x=>L.sc.names.lookup x:=by funext t;show X.env.scope.names.lookup t=_;rw[o.sc]
 unfold PM at h
 unfold swappedStores
 dsimp only
 rw[o.bk,hk]
 rw[o.fk] at h
 split at h
 ·next z=>cases h;exact if_pos z
 ·next z=>
  refine (if_neg z).trans ?_
  split at h
  ·next z=>cases h;exact if_pos z
  ·next z=>
   refine (if_neg z).trans ?_
   dsimp only at h
   split at h
   ·next z=>cases h;exact if_pos z
   ·next z=>
    refine (if_neg z).trans ?_
    split at h
    ·next z=>cases h;exact if_pos z
    ·next z=>
     refine (if_neg z).trans ?_
     split at h
     ·cases h
     ·next z=>cases h;exact (if_neg z).trans rfl
theorem yR {ts:List Expr}{k1:Nat}{p1:Pos}(h:B9 v=false):swappedStores [.Tuple ts k1 p1] v X.env=pure none:=by
 cases v<;>first|rfl|(cases h)
theorem GC {a ix:Expr}{p:Pos}(h:hU ix=true):∀v,assign (.Subscript a ix p) X.env v=(do
  let ov ←holding [v] (eval a X.env)
  let iv ←holding [v,ov] (eval ix X.env)
  standAt p
  holding [v,ov,iv] (setItem ov iv v)
  release [v,ov,iv] []):=by
 cases ix<;>first|(exact fun _=>rfl)|skip
 rename_i lo hi st p
 cases st with
 |none=>cases h
 |some s=>exact fun _=>rfl
theorem Gg {ix:Expr}(h:hU ix=true):∀ov iv new,augStore ix ov iv new=(do holding [new,ov,iv] (setItem ov iv new);release [new,ov,iv] [];pure .next):=by
 cases ix<;>first|(exact fun _ _ _=>rfl)|skip
 rename_i lo hi st p
 cases st with
 |none=>cases h
 |some s=>exact fun _ _ _=>rfl
noncomputable abbrev HE (k:Nat)(G:Gc)(rE:RE):Prop:=∀{X:Cx} {L:Lc},Ok X k G L->∀e,DE X e (rE L e)
noncomputable abbrev HB (k:Nat)(G:Gc)(rB:RB):Prop:=∀{X:Cx} {L:Lc},Ok X k G L->∀e,DB X e (rB L e)
noncomputable abbrev HC (k:Nat)(G:Gc)(rE:RE):Prop:=∀{X:Cx} {L:Lc},Ok X k G L->∀elt tg it ifs sc p,CpOk X L elt tg it ifs sc (vg L it) (rE L (.ListComp elt [⟨tg,it,ifs,0⟩] sc p))
theorem Rr (o:Ok X k G L){f:FE}{p:Pos}{own:Bool}(hi:gZ L x=some i)(h:DE X v f)(hs:Ic L v x p=false):DS X (.Assign [.Name x p] v pos) (if own=true then je i f else bh i f):=by
 obtain⟨h1,h2,h3⟩:=mq o hi
 have hs:=(IC (v:=v) o (t:=x) (p:=p) (ln:=pos.line)).trans (by rw[hs])
 split
 ·exact Kc h o.nd' h1 h2 hs h3
 ·exact O9 (dm o.nd' h1 h2 h.ee hs h3)
theorem Qw (o:Ok X k G L){f:FE}{p:Pos}{own:Bool}{elt t it:Expr}{ifs:List Expr}{sc:Scope}{vp:Pos}(hi:gZ L x=some i)(hc:CpOk X L elt t it ifs sc false f)(hs:Ic L (.ListComp elt [⟨t,it,ifs,0⟩] sc vp) x p=true) :
  DS X (.Assign [.Name x p] (.ListComp elt [⟨t,it,ifs,0⟩] sc vp) pos) (if own=true then je i f else bh i f):=by
 obtain⟨h1,h2,h3⟩:=mq o hi
 have hsw:=(IC (v:=.ListComp elt [⟨t,it,ifs,0⟩] sc vp) o (t:=x) (p:=p) (ln:=pos.line)).trans (by rw[hs])
 have hx:X.env.kindOf x=some .local:=by
  unfold Ic at hs
  simp only[Bool.and_eq_true,beq_iff_eq] at hs
  show X.env.scope.names.lookup x=_
  rw[o.sc];exact hs.1.1.2
 rcases hc.ex with h|⟨N2,fm,h0,fi,t',c,fe,rfl,hg,g1,g2,g3,g4,g5,g6,_,g8⟩
 ·split
  ·exact Eg fun ρ=>by unfold je;rw[h]
  ·exact Eg fun ρ=>by unfold bh;rw[h];rfl
 ·have:=ud (spos:=pos) N2 fm o.nd' (g8 rfl) g1 g2 g3 g4 h1 hx g5 o.calm hsw g6
  split
  ·exact J0 hg this
  ·exact J3 hg this
theorem EY (o:Ok X k G L){f:FE}{ts:List Expr}{kk:Nat}{p:Pos}(h:DE X v f)(hw:swappedStores [.Tuple ts kk p] v X.env=pure none):DS X (.Assign [.Tuple ts kk p] v pos) (iw f (vT 5 L (.Tuple ts kk p))):=
 Pk (xJ 5 L (.Tuple ts kk p)) (ju h.ee (xY 5 o (.Tuple ts kk p)) L1 hw)
theorem Lp (o:Ok X k G L){rE:RE}(hE:HE k G rE)(hC:HC k G rE)(tg v:Expr):DS X (.Assign [tg] v pos) (P6 G rE L tg v):=by
 unfold P6
 split
 ·next y p=>
  split
  ·next i hi=>
   by_cases hs:Ic L v y p=true
   ·rw[hs,Bool.true_and]
    split
    ·next elt t it ifs sc vp=>
     split
     ·exact bY
     ·next z=>
      refine Qw o hi ?_ hs
      have:=hC o elt t it ifs sc vp
      rw[show vg L it=false by simpa using z] at this
      exact this
    ·exact bY
   ·have hs:Ic L v y p=false:=by simpa using hs
    rw[hs,Bool.false_and,if_neg Bool.false_ne_true]
    exact Rr o hi (hE o v) hs
  ·exact bY
 ·next j jp ix p=>
  split
  ·next i hi=>
   split
   ·next z=>
    rw[Bool.and_eq_true] at z
    exact MW (ju (hE o v).ee (pc (o.pv hi) (hE o ix).ee jf (GC z.1)) Jr rfl)
   ·exact bY
  ·exact bY
 ·next x px y py kk pt=>
  split
  ·next a b k2 p2=>
   split
   ·next l i j hw hi hj=>
    split
    ·next z=>
     simp only[Bool.and_eq_true,beq_iff_eq,bne_iff_ne,ne_eq] at z
     obtain⟨⟨⟨⟨⟨z0,z1⟩,z2⟩,z3⟩,z4⟩,z5⟩:=z
     have e1:X.N[i]?=some x:=by rw[o.N];exact p5 hi
     have e2:X.N[j]?=some y:=by rw[o.N];exact p5 hj
     have hx:X.env.scope.names.lookup x=some .local:=by rw[o.sc];exact z4
     have hy:X.env.scope.names.lookup y=some .local:=by rw[o.sc];exact z5
     rw[z0] at hw
     split
     ·exact LZ (BQ o.calm o.nd' e1 e2 z3 hx hy (az (gY z1) (hE o a).nn (az (gY z2) (hE o b).nn eP)) (tH o hw))
     ·exact OP (BQ o.calm o.nd' e1 e2 z3 hx hy (qA (hE o) [a,b]).f (tH o hw))
    ·exact bY
   ·next hw=>exact EY o (hE o _) (tH o hw)
   ·exact bY
  ·split
   ·exact bY
   ·next z=>exact EY o (hE o v) (yR (by simpa using z))
 ·split
  ·next z=>
   unfold OI at z
   split at z
   ·next ts _ _ vs _ _=>
    split at z
    ·next hw=>exact EY o (hE o _) (tH o hw)
    ·cases z
   ·next ts _ _ hv=>exact EY o (hE o v) (yR (by cases v<;>first|rfl|exact (hv _ _ _ rfl).elim))
   ·cases z
  ·exact bY
theorem oM {f:Stmt->FS}(h:∀s,DS X s (f s)):∀ss:List Stmt,Er X ss (vL f ss)
 |[]=>O0
 |[s]=>Op (h s)
 |s::t::r=>L5 (h s) (oM h (t::r))
theorem DJ {op:Operator}{g:Int->Int->Int}(h:t0 op=some g):Mx X op (kJ g):=by
 cases op<;>first|(cases h;done)|skip
 ·cases h;exact tX
 ·cases h;exact Mh
theorem Dg {cp:Pos}{env:Env}:∀{es:List Expr},es.all pN=true->((backTo cp (starEach es env)).all fun x=>!x.fst)=true
 |[],_=>rfl
 |e::es,h=>by
  rw[List.all_cons,Bool.and_eq_true] at h
  rw[gY h.1]
  exact Dg (es:=es) h.2
section
variable {f:Expr->FE}(hf:∀e,DE X e (f e))
include hf
theorem KO (o:Ok X k G L){v:Option Expr}:DS X (.Return v pos) (R5 L f v):=by
 cases v with
 |none=>exact bY
 |some e=>
  cases e<;>first|exact HW (hf _)|skip
  rename_i x p
  show DS X _ (match slot L x with
   |some i=>il i
   |none=>bC (f (.Name x p)))
  cases hi:slot L x with
  |none=>exact HW (hf _)
  |some i=>exact Ly (o.pv hi)
theorem Gu (o:Ok X k G L){op:Operator}:DS X (.AugAssign tg op v pos) (OK L f tg op v):=by
 cases tg<;>first|exact bY|skip
 ·rename_i b ix p
  cases b<;>first|exact bY|skip
  rename_i j q
  show DS X _ (match slot L j with
   |none=>bZ
   |some i=>match t0 op with
    |some g=>if hU ix then j2 g i (f ix) (f v) else bZ
    |none=>bZ)
  cases hi:slot L j with
  |none=>exact bY
  |some i=>
   show DS X _ (match t0 op with
    |some g=>if hU ix then j2 g i (f ix) (f v) else bZ
    |none=>bZ)
   cases hg:t0 op with
   |none=>exact bY
   |some g=>
    show DS X _ (if hU ix then j2 g i (f ix) (f v) else bZ)
    split
    ·next z=>exact Gw (o.pv hi) (hf _) (hf _) (DJ hg) (Gg z)
    ·exact bY
 ·rename_i x p
  show DS X _ (match gZ L x with
   |none=>bZ
   |some i=>match t0 op with
    |some g=>wA g i (f v)
    |none=>bZ)
  cases hi:gZ L x with
  |none=>exact bY
  |some i=>
   show DS X _ (match t0 op with
    |some g=>wA g i (f v)
    |none=>bZ)
   cases hg:t0 op with
   |none=>exact bY
   |some g=>
    obtain⟨h1,h2,h3⟩:=mq o hi
    exact M4 (sv o.nd' h1 h2 (hf _).ee (DJ hg) h3)
theorem Gf (o:Ok X k G L){d m:Str}{q ap cp:Pos}{args:List Expr}:DS X (.Expr (.Call (.Attribute (.Name d q) m ap) args [] cp) pos) (LQ L f d q m ap args cp):=by
 unfold LQ
 cases hi:slot L d with
 |none=>cases args with
  |nil=>exact bY
  |cons=>exact pA (jo (hf _).ee)
 |some i=>cases args with
  |nil=>
   show DS X _ (if m = "reverse"&&ap.endLine==cp.line then GR i else bZ)
   split
   ·next z=>
    rw[Bool.and_eq_true,decide_eq_true_eq] at z
    obtain⟨rfl,z⟩:=z
    exact Ot (jo (A0 PySem.F.plainAttrs_list PySem.F.slot_list_reverse PySem.F.type_list_reverse xm (o.pv hi) rfl z))
   ·exact bY
  |cons a as=>
   show DS X _ (if m = "append"&&ap.endLine==cp.line&&(a::as).all pN&&decide (as.length<20) then nB i (vA f (a::as)) else bZ)
   split
   ·next z=>
    rw[Bool.and_eq_true,Bool.and_eq_true,Bool.and_eq_true,decide_eq_true_eq,decide_eq_true_eq] at z
    obtain⟨⟨⟨rfl,z1⟩,z2⟩,z3⟩:=z
    have z2':=z2
    rw[List.all_cons,Bool.and_eq_true] at z2'
    refine OV (jo (NA PySem.F.plainAttrs_list PySem.F.slot_list_append PySem.F.type_list_append AF (o.pv hi) (qA hf _).f rfl ?_ z1 (gY z2'.1 _ _) (oe z2'.2)))
    rw[Dg z2]
    show (true&&true&&decide _)=true
    rw[Bool.and_self,Bool.true_and,decide_eq_true_eq]
    simp only[List.length_cons,List.length_nil,List.isEmpty_nil,if_true]
    omega
   ·exact bY
theorem Go (o:Ok X k G L):DS X (.Expr e pos) (J5 L f e):=by
 unfold J5
 split
 ·next z=>
  cases e<;>first|(cases z;done)|skip
  rename_i c _ _
  cases c<;>first|(cases z;done)|skip
  exact Nf
 ·cases e with
  |Call fn args kws cp=>
   cases kws with
   |cons=>exact pA (jo (hf _).ee)
   |nil=>
    cases fn with
    |Attribute b m ap=>
     cases b with
     |Name d q=>exact Gf hf o
     |_=>exact pA (jo (hf _).ee)
    |_=>exact pA (jo (hf _).ee)
  |ListComp a b c d=>exact bY
  |SetComp a b c d=>exact bY
  |DictComp a b c d e=>exact bY
  |_=>exact pA (jo (hf _).ee (FV rfl))
end
theorem LW (o:Ok X k G L){rE:RE}{rB:RB}{rS:Lc->Stmt->FS}(hE:HE k G rE)(hB:HB k G rB)(hC:HC k G rE)(hS:∀s,DS X s (rS L s))(st:Stmt):DS X st (Sk G rE rB rS L st):=by
 have hp:PassesOwn (model X.prog X.w) X.A X.env X.xe:=by rw[o.xe];exact PassesOwn.never
 cases st with
 |Return v p=>exact KO (hE o) o
 |If c a b p=>exact Qs (hB o _) (oM hS _) (oM hS _)
 |For tg it body els p=>
  cases els with
  |cons=>exact bY
  |nil=>
   show DS X _ (if LY it then jV (vI G L (rE L) false tg it) (vT 5 L tg) (vL (rS L) body) else bZ)
   split
   ·next z=>exact Nm (xJ 5 L tg) (K5 hp o.calm (IG o (hE o) tg it) (xY 5 o tg) (oM hS body) (by
     intro y
     cases it<;>first|rfl|(cases z)))
   ·exact bY
 |While c body els p=>
  cases els with
  |cons=>exact bY
  |nil=>exact F7 (ki hp (hB o _) (oM hS _))
 |Assign tgs v p=>
  cases tgs with
  |nil=>exact bY
  |cons tg r=>cases r with
   |cons=>exact bY
   |nil=>exact Lp o hE hC _ _
 |AugAssign tg op v p=>exact Gu (hE o) o
 |Expr e p=>exact Go (hE o) o
 |Pass p=>exact Kz
 |Break p=>exact QB
 |Continue p=>exact RG
 |_=>exact bY
theorem yc {st:Stmt}:∀{l:List Nat} {s:FS},DS X st s->DS X st (frzs l s)
 |[],_,h=>h
 |i::r,_,h=>yc (l:=r) (Nq i h)
end
theorem Nr {k:Nat}{G:Gc}:∀n,HC k G (EK G n).1
 |0=>fun _ _ _ _ _ _ _=>⟨.inl fun _=>rfl⟩
 |n+1=>fun o _ _ _ _ _ _=>Ik o (m5 n).1 (m5 n).2 _ _ _ _ _ _
theorem Ca {k:Nat}{G:Gc}:∀(n:Nat) {X:Cx} {L:Lc},Ok X k G L->∀s,DS X s (vS G n L s)
 |0,_,_,_,_=>bY
 |n+1,_,_,o,s=>yc (LW o (m5 n).1 (m5 n).2 (Nr n) (Ca n o) s)
theorem aU {P:Program}{w:World}{K:PySem.W.Frag}{mg:Str->Option Value}{base:Heap}{x:Str}{st:Stmt}{N ps:List Str}{k a n:Nat}{s:FS}{G:Gc}(L:Lc)(F:FunD K mg x st ps)(S:FnScope N ps (ad st))(g:GOk P w K mg base k G)
  (hs:vL (vS G 60 L) (ag st)=s) (h1:L.sc=ad st:=by rfl) (h2:L.N=N:=by rfl) (h3:L.top=true:=by rfl) (ha:ps.length=a:=by rfl) (hn:N.length=n:=by rfl):Def P w K mg base (k+1) x ps (aP K (be (run a n s))):=
 Of F S (fun f cdv A outer s' H E hr=>hs▸oM (Ca 60 ⟨g,hr,h1.symm,h2.symm,by rw[h2];exact S.nd,by rw[h1];exact S.kind,rfl,fun _ _=>rfl,rfl⟩) (ag st)) ha hn
end Dp
end
section
namespace Dp
open PySem PySem.Spec L2 Pu
section
variable {P:Program}{w:World}{K:PySem.W.Frag}{mg:Str->Option Value}{base:Heap}{k:Nat}
noncomputable def sV {α:Type}(p:α->Prop):List α->Prop
 |[]=>True
 |a::r=>p a/\sV p r
theorem fv {β:Type}{p:Str×β->Prop}:∀{l:List (Str×β)},sV p l->∀x b,l.lookup x=some b->p (x,b)
 |[],_,_,_,h=>by cases h
 |(y,c)::r,⟨h1,h2⟩,x,b,h=>by
  rw[List.lookup_cons] at h
  cases hx:x==y with
  |true=>
   rw[hx] at h
   have:x=y:=by simpa using hx
   subst this
   cases h;exact h1
  |false=>rw[hx] at h;exact fv h2 x b h
theorem vj {p:Str->Prop}:∀{l:List Str},sV p l->∀x,l.contains x=true->p x
 |[],_,_,h=>by cases h
 |y::r,⟨h1,h2⟩,x,h=>by
  rw[List.contains_cons,Bool.or_eq_true] at h
  rcases h with h|h
  ·have:x=y:=by simpa using h
   subst this;exact h1
  ·exact vj h2 x h
structure GB (w:World)(K:PySem.W.Frag)(mg:Str->Option Value)(bi:List Str)(nis:List (Str×Int))(tups:List (Str×List PV))(nums:List (Str×List (Str×Int))):Prop where
 bi:sV (fun x=>mg x=none) bi
 nis:sV (fun p=>∃t,mg p.1=some (.int p.2 t)) nis
 tups:sV (fun p=>∃a,mg p.1=some (.ref a)/\KTup K a p.2) tups
 nums:sV (fun p=>∃a,mg p.1=some (.ref a)/\NumTab w K a p.2) nums
theorem iZ {G:Gc}(b:GB w K mg G.bi G.nis G.tups G.nums)(h:sV (fun p=>∃j ps,j≤k/\Def P w K mg base j p.1 ps (aP K (be p.2))) G.fns)(v:sV (fun p=>mg p.1=some (.ref p.2)) G.vals)
  (t:∃j qs,j≤k/\∀a F,look G.tab a=some F->DefA P w K mg base j a qs (aP K (be F))):GOk P w K mg base k G:=
 ⟨vj b.bi,fv b.nis,fv b.tups,fv b.nums,fv v,fv h,t⟩
theorem aR:∃j qs,j≤k/\∀a F,look [] a=some F->DefA P w K mg base j a qs (aP K (be F)):=⟨0,[],Nat.zero_le _,fun _ _ h=>by cases h⟩
theorem OJ {x:Str}{st:Stmt}{N ps:List Str}{s:FS}{G:Gc}(L:Lc)(S:FnScope N ps (ad st))(g:GOk P w K mg base k G)(hs:vL (vS G 60 L) (ag st)=s){f:Addr}{cdv:Value}{A:Around}{outer:List Env}{s':Shared}{H:Hp}{E:XK}
  (hr:Room k (A.deeper (PyProof.Rows.envOfC x (ad st) s'.heap.objs.size f cdv))) (h1:L.sc=ad st:=by rfl) (h2:L.N=N:=by rfl) (h3:L.top=true:=by rfl):Er (lJ vX P w K mg base N x (ad st) f cdv A outer s' H E).nox (ag st) s:=
 hs▸oM (Ca 60 ⟨g,hr,h1.symm,h2.symm,by rw[h2];exact S.nd,by rw[h1];exact S.kind,rfl,fun _ _=>rfl,rfl⟩) (ag st)
end
end Dp
end
section
namespace Dp
open PySem L2 Fo Pu
noncomputable def du (ρ:ak):Out:=(aq (bh 3 (ah bn (ah bO (ah bO (ah gB (fV 3) (ah bO (ah bn (fV 3) (fC (.int 65521))) (fC (.int 40487)))) (ah gB (fC (.int 7)) (fV 5))) (fC (.int 5))) (fC (.int 1999999973))))
  (aq (nB 2 (aa (ah aN (gP (aa (fV 3) (aa (ah bn (fV 4) (fC (.int 1000000))) ae))) (fB uD (aa (ah A9 (fV 4) (fC (.int 0))) ae))) ae))
  (bh 4 (ah jS (fV 4) (fC (.int 1000000)))))) ρ
noncomputable def cE (ρ:ak):Out:=(aq (je 2 (gP ae))
  (aq (bh 3 (ah bn (ah gB (ah bO (ah bn (fV 0) (fC (.int 1999999973))) (fC (.int 31))) (fC (.int 765432101))) (fC (.int 1999999973))))
  (aq (bh 4 (fC (.int 0)))
  (aq (i9 (o4 (fT (ah HU (fV 0) (fC (.int 0)))) (fT (ah Nh (fV 0) (ah FH (fC (.int 10)) (fC (.int 18)))))) (bh 4 (fB Bf (aa (fV 0) ae))) aK)
  (aq (jV (lX lF (aa (fV 1) ae)) (gN 5) du)
  (il 2)))))) ρ
noncomputable def al:List PV->Option PR:=run 2 6 cE
theorem gd {a0 a1:PV}:al [a0,a1]=(cE [some (.val a0),some (.val a1),none,none,none,none]).res:=Eq.trans rfl rfl
noncomputable def fE (ρ:ak):Out:=(bh 2 (ah bn (ah bO (ah gB (fV 2) (fC (.int 69621))) (fV 3)) (fC (.int 2147483647)))) ρ
noncomputable def gA (ρ:ak):Out:=(aq (i9 (fT (ah HU (fV 1) (fB gJ (aa (fV 0) ae)))) (bC (ah aN (fV 0) (fV 1))) aK)
  (aq (bh 2 (ah bn (ah gB (fC (.int 48271)) (ah bO (ah bO (ah gB (fV 1) (fV 1)) (ah gB (fC (.int 7)) (fV 1))) (fC (.int 11)))) (fC (.int 2147483647))))
  (aq (jV (tz (Es (fV 0) GF (Gn (fC (.int 3))))) (gN 3) fE)
  (il 2)))) ρ
noncomputable def av:List PV->Option PR:=run 2 4 gA
theorem kE {a0 a1:PV}:av [a0,a1]=(gA [some (.val a0),some (.val a1),none,none]).res:=Eq.trans rfl rfl
noncomputable def jB (ρ:ak):Out:=(bC (oZ (fB t8 (aa (fV 0) (aa (fC (.ty "int")) ae))) (wq (xP (fB t8 (aa (fV 0) (aa (fC (.ty "bool")) ae))))))) ρ
noncomputable def bN:List PV->Option PR:=run 1 1 jB
theorem sT {a0:PV}:bN [a0]=(jB [some (.val a0)]).res:=Eq.trans rfl rfl
noncomputable def j8 (ρ:ak):Out:=(bC (oZ (ao bN (aa (fV 0) ae)) (wq (Gy Lv Lv (fC (.int 1)) (fV 0) (fC (.int 40)))))) ρ
noncomputable def eg:List PV->Option PR:=run 1 1 j8
theorem ue {a0:PV}:eg [a0]=(j8 [some (.val a0)]).res:=Eq.trans rfl rfl
noncomputable def jy (ρ:ak):Out:=(bC (oZ (ao bN (aa (fV 1) ae)) (wq (Gy Lv HU (fC (.int 0)) (fV 1) (fV 0))))) ρ
noncomputable def dN:List PV->Option PR:=run 2 2 jy
theorem sX {a0 a1:PV}:dN [a0,a1]=(jy [some (.val a0),some (.val a1)]).res:=Eq.trans rfl rfl
noncomputable def gT (ρ:ak):Out:=(i9 (kM (fT (ao dI (aa (fV 0) ae)))) bZ aK) ρ
noncomputable def bI:List PV->Option PR:=run 1 1 gT
theorem nJ {a0:PV}:bI [a0]=(gT [some (.val a0)]).res:=Eq.trans rfl rfl
noncomputable def gF (ρ:ak):Option Bool:=(fT (ah iW (ah aN (fV 0) (ah aN (fV 2) (mT (fC (.int 1))))) (ah aN (fV 2) (mT (fC (.int 1)))))) ρ
noncomputable def iF (ρ:ak):Out:=(nB 2 (aa (ah aN (fV 0) (ah aN (fV 2) (mT (fC (.int 1))))) ae)) ρ
noncomputable def kS (ρ:ak):Out:=(aq (je 2 (gP (aa (fV 1) ae)))
  (aq (kZ gF iF)
  (il 2))) ρ
noncomputable def di:List PV->Option PR:=run 2 3 kS
theorem wg {a0 a1:PV}:di [a0,a1]=(kS [some (.val a0),some (.val a1),none]).res:=Eq.trans rfl rfl
noncomputable def gw (ρ:ak):Out:=(bC (ah aN (gP (aa (ah bO (fC (.int 1)) (ah bn (ah jS (fV 0) (fC (.int 8))) (fC (.int 12)))) (aa (ah bO (fC (.int 1)) (ah bn (ah jS (fV 0) (fC (.int 8))) (fC (.int 40)))) ae))) (fB uD (aa (ah eD (ah bn (fV 0) (fC (.int 8))) (fC (.int 3))) ae)))) ρ
noncomputable def cN:List PV->Option PR:=run 1 1 gw
theorem kB {a0:PV}:cN [a0]=(gw [some (.val a0)]).res:=Eq.trans rfl rfl
noncomputable def eB (ρ:ak):Option Bool:=(ip (fT (ah iW (ah aN (fV 0) (ah aN (fV 2) (mT (fC (.int 1))))) (ah aN (fV 2) (mT (fC (.int 1)))))) (fT (ah Lv (fB gJ (aa (fV 2) ae)) (fB gJ (aa (fV 0) ae))))) ρ
noncomputable def gz (ρ:ak):Out:=(nB 2 (aa (ah aN (fV 0) (ah aN (fV 2) (mT (fC (.int 1))))) ae)) ρ
noncomputable def jv (ρ:ak):Out:=(aq (je 2 (gP (aa (fV 1) ae)))
  (aq (kZ eB gz)
  (il 2))) ρ
noncomputable def aW:List PV->Option PR:=run 2 3 jv
theorem tY {a0 a1:PV}:aW [a0,a1]=(jv [some (.val a0),some (.val a1),none]).res:=Eq.trans rfl rfl
noncomputable def bB (ρ:ak):Option Bool:=(fT (ah A9 (fV 0) (fC (.int 1)))) ρ
noncomputable def cy (ρ:ak):Out:=(aq (bh 0 (ah jS (fV 0) (fC (.int 2))))
  (bh 1 (ah bO (fV 1) (fC (.int 1))))) ρ
noncomputable def eQ (ρ:ak):Out:=(aq (bh 1 (fC (.int 0)))
  (aq (kZ bB cy)
  (il 1))) ρ
noncomputable def ax:List PV->Option PR:=run 1 2 eQ
theorem la {a0:PV}:ax [a0]=(eQ [some (.val a0),none]).res:=Eq.trans rfl rfl
noncomputable def iO (ρ:ak):Out:=(j2 (fun a b=>a+b) 1 (fV 3) (fC (.int 1))) ρ
noncomputable def iP (ρ:ak):Out:=(jV (tz (ao di (aa (fV 0) (aa (fV 2) ae)))) (gN 3) iO) ρ
noncomputable def jE (ρ:ak):Out:=(aq (je 1 (ah gB (gP (aa (fC (.int 0)) ae)) (fB gJ (aa (fV 0) ae))))
  (aq (jV (lX lF (aa (fB gJ (aa (fV 0) ae)) ae)) (gN 2) iP)
  (il 1))) ρ
noncomputable def dJ:List PV->Option PR:=run 1 4 jE
theorem rV {a0:PV}:dJ [a0]=(jE [some (.val a0),none,none,none]).res:=Eq.trans rfl rfl
noncomputable def iR (ρ:ak):Option Bool:=(fT (ah eD (ah aN (ao di (aa (fV 1) (aa (fV 0) ae))) (mT (fC (.int 1)))) (fV 2))) ρ
noncomputable def iY (ρ:ak):Option RV:=(fV 0) ρ
noncomputable def jD (ρ:ak):Out:=(aq (bh 2 (ah aN (ao di (aa (fV 0) (aa (fV 1) ae))) (mT (fC (.int 1)))))
  (bC (fB lj (aa (gH [none,some 0,some 2] (lX lF (aa (fB gJ (aa (fV 0) ae)) ae)) (gN 0) iR iY) ae)))) ρ
noncomputable def bw:List PV->Option PR:=run 2 3 jD
theorem tq {a0 a1:PV}:bw [a0,a1]=(jD [some (.val a0),some (.val a1),none]).res:=Eq.trans rfl rfl
end Dp
end
section
namespace Dp
open PySem L2 Fo Pu
noncomputable def D2 (o:Out)(u:FS):Out:=match o with
 |.nx ρ'=>u ρ'
 |o=>o
noncomputable def HD (o:Option RV)(ρ:ak):Out:=match o with
 |some (.fz _)=>.nx ρ
 |_=>.bad
noncomputable def Nb (o:Option RV):Out:=match o with
 |some (.fz p)=>.rt p
 |some (.nw ps)=>.rn ps
 |_=>.bad
noncomputable def C6 (o:Option Sl):Out:=match o with
 |some (.val p)=>.rt p
 |some (.own ps)=>.rn ps
 |_=>.bad
noncomputable def QL (o:Option Bool)(s u:FS)(ρ:ak):Out:=match o with
 |some true=>s ρ
 |some false=>u ρ
 |none=>.bad
noncomputable def Ps (o:Option PV)(i:Nat)(ρ:ak):Out:=match o with
 |some p=>.nx (ρ.set i (some (.val p)))
 |none=>.bad
noncomputable def Pm (o:Option RV)(i:Nat)(ρ:ak):Out:=match o with
 |some (.fz p)=>.nx (ρ.set i (some (.val p)))
 |some (.nw ps)=>.nx (ρ.set i (some (.own ps)))
 |_=>.bad
noncomputable def QJ (o:Option ak):Out:=match o with
 |some ρ'=>.nx ρ'
 |none=>.bad
noncomputable def O7 (o:Option PV)(t:FT)(ρ:ak):Out:=match o with
 |some p=>QJ (t p ρ)
 |none=>.bad
noncomputable def MO (o:Option (List PV))(i j:Nat)(ρ:ak):Out:=match o with
 |some [p,q]=>.nx ((ρ.set i (some (.val p))).set j (some (.val q)))
 |_=>.bad
noncomputable def Oa (g:Int->Int->Int)(a:Option Sl)(b:Option PV)(i:Nat)(ρ:ak):Out:=match a,b with
 |some (.val (.int a)),some (.int b)=>.nx (ρ.set i (some (.val (.int (g a b)))))
 |_,_=>.bad
noncomputable def N1 (a:Option Sl)(b:Option (List PV))(i:Nat)(ρ:ak):Out:=match a,b with
 |some (.own ps),some [q]=>if ps.length≤100000 then .nx (ρ.set i (some (.own (ps++[q])))) else .bad
 |_,_=>.bad
noncomputable def A7 (o:Option Nat)(v:PV)(ps:List PV)(j:Nat)(ρ:ak):Out:=match o with
 |some n=>.nx (ρ.set j (some (.own (ps.set n v))))
 |none=>.bad
noncomputable def NG (v:Option PV)(a:Option Sl)(k:Option PV)(j:Nat)(ρ:ak):Out:=match v,a,k with
 |some v,some (.own ps),some (.int k)=>A7 (qh ps.length k) v ps j ρ
 |_,_,_=>.bad
noncomputable def Nj (o:Option (List PV))(t:FT)(s:FS)(ρ:ak):Out:=match o with
 |some its=>df t s its ρ
 |none=>.bad
noncomputable def Nt (o:Option PV):Option RV:=match o with
 |some (.int i)=>some (.fz (.int (-i)))
 |_=>none
noncomputable def Sq (o:Option PV):Option (Option Int):=match o with
 |some (.int i)=>some (some i)
 |_=>none
noncomputable def CU (F:List PV->Option PR)(o:Option (List PV))(rs:List RV):Option RV:=match o with
 |some ps=>(F ps).map qB
 |none=>(F (rs.map RV.pv)).bind fun r=>if My r=true then some (qB r) else none
noncomputable def RX (ps:List PV):Option (List PV):=match ps with
 |[p]=>(jU p).map (fu 0)
 |_=>none
noncomputable def D4 (o:Out)(t:FT)(s:FS)(ps:List PV):Out:=match o with
 |.nx ρ2=>df t s ps ρ2
 |.ct ρ2=>df t s ps ρ2
 |.bk ρ2=>.nx ρ2
 |o=>o
noncomputable def DV (o:Option ak)(t:FT)(s:FS)(ps:List PV):Out:=match o with
 |some ρ=>D4 (s ρ) t s ps
 |none=>.bad
theorem iz {t:FT}{s:FS}{p:PV}{ps:List PV}{ρ:ak}:df t s (p::ps) ρ=DV (t p ρ) t s ps:=Eq.trans rfl rfl
noncomputable def Rq (o:Out)(c:FB)(s:FS)(n:Nat):Out:=match o with
 |.nx ρ2=>cB c s n ρ2
 |.ct ρ2=>cB c s n ρ2
 |.bk ρ2=>.nx ρ2
 |o=>o
noncomputable def Qh (o:Option Bool)(c:FB)(s:FS)(n:Nat)(ρ:ak):Out:=match o with
 |some true=>Rq (s ρ) c s n
 |some false=>.nx ρ
 |none=>.bad
theorem g9 {c:FB}{s:FS}{n:Nat}{ρ:ak}:cB c s (n+1) ρ=Qh (c ρ) c s n ρ:=Eq.trans rfl rfl
noncomputable def sw (g:Int->Int->Int)(o:Option PV)(ps:List PV)(k b:Int)(j:Nat)(ρ:ak):Out:=match o with
 |some (.int a)=>.nx (ρ.set j (some (.own (ps.set k.toNat (.int (g a b))))))
 |_=>.bad
noncomputable def D1 (g:Int->Int->Int)(a:Option Sl)(k b:Option PV)(j:Nat)(ρ:ak):Out:=match a,k,b with
 |some (.own ps),some (.int k),some (.int b)=>if 0≤k then sw g ps[k.toNat]? ps k b j ρ else .bad
 |_,_,_=>.bad
theorem nr {r:RV}{rs:List RV}:(r::rs).mapM RV.fr=r.fr.bind fun p=>(rs.mapM RV.fr).bind fun ps=>some (p::ps):=by
 rw[List.mapM_cons];rfl
theorem Hu {s u:FS}{ρ:ak}:aq s u ρ=D2 (s ρ) u:=Eq.trans rfl rfl
theorem yn {t:FT}{s:FS}{ps:List PV}{ρ:ak}:D4 (.nx ρ) t s ps=df t s ps ρ:=Eq.trans rfl rfl
theorem yw {t:FT}{s:FS}{ps:List PV}{ρ:ak}:DV (some ρ) t s ps=D4 (s ρ) t s ps:=Eq.trans rfl rfl
theorem yH {t:FT}{s:FS}{ρ:ak}:df t s [] ρ=.nx ρ:=Eq.trans rfl rfl
theorem yh {c:FB}{s:FS}{n:Nat}{ρ:ak}:Rq (.nx ρ) c s n=cB c s n ρ:=Eq.trans rfl rfl
theorem BI {c:FB}{s:FS}{n:Nat}{ρ:ak}:Qh (some true) c s n ρ=Rq (s ρ) c s n:=Eq.trans rfl rfl
theorem Ek {c:FB}{s:FS}{n:Nat}{ρ:ak}:Qh (some false) c s n ρ=.nx ρ:=Eq.trans rfl rfl
theorem rz {u:FS}{ρ:ak}:D2 (.nx ρ) u=u ρ:=Eq.trans rfl rfl
theorem rJ {u:FS}{p:PV}:D2 (.rt p) u=.rt p:=Eq.trans rfl rfl
theorem AM {ρ:ak}:aK ρ=.nx ρ:=Eq.trans rfl rfl
theorem Cc {f:FE}{ρ:ak}:j0 f ρ=HD (f ρ) ρ:=Eq.trans rfl rfl
theorem rp {p:PV}{ρ:ak}:HD (some (.fz p)) ρ=.nx ρ:=Eq.trans rfl rfl
theorem IS {f:FE}{ρ:ak}:bC f ρ=Nb (f ρ):=Eq.trans rfl rfl
theorem vi {p:PV}:Nb (some (.fz p))=.rt p:=Eq.trans rfl rfl
theorem DC {i:Nat}{ρ:ak}:il i ρ=C6 (sl ρ i):=Eq.trans rfl rfl
theorem uO {p:PV}:C6 (some (.val p))=.rt p:=Eq.trans rfl rfl
theorem vf {p:List PV}:C6 (some (.own p))=.rn p:=Eq.trans rfl rfl
theorem NT {g:FB}{s u:FS}{ρ:ak}:i9 g s u ρ=QL (g ρ) s u ρ:=Eq.trans rfl rfl
theorem Dr {s u:FS}{ρ:ak}:QL (some true) s u ρ=s ρ:=Eq.trans rfl rfl
theorem CJ {s u:FS}{ρ:ak}:QL (some false) s u ρ=u ρ:=Eq.trans rfl rfl
theorem IU {i:Nat}{f:FE}{ρ:ak}:bh i f ρ=Ps ((f ρ).bind RV.fr) i ρ:=Eq.trans rfl rfl
theorem yx {i:Nat}{p:PV}{ρ:ak}:Ps (some p) i ρ=.nx (ρ.set i (some (.val p))):=Eq.trans rfl rfl
theorem IP {i:Nat}{f:FE}{ρ:ak}:je i f ρ=Pm (f ρ) i ρ:=Eq.trans rfl rfl
theorem uR {i:Nat}{p:List PV}{ρ:ak}:Pm (some (.nw p)) i ρ=.nx (ρ.set i (some (.own p))):=Eq.trans rfl rfl
theorem Hz {f:FE}{t:FT}{ρ:ak}:iw f t ρ=O7 ((f ρ).bind RV.fr) t ρ:=Eq.trans rfl rfl
theorem za {p:PV}{t:FT}{ρ:ak}:O7 (some p) t ρ=QJ (t p ρ):=Eq.trans rfl rfl
theorem DH {ρ:ak}:QJ (some ρ)=.nx ρ:=Eq.trans rfl rfl
theorem HR {i j:Nat}{fs:FA}{ρ:ak}:nN i j fs ρ=MO ((fs ρ).bind fun rs=>rs.mapM RV.fr) i j ρ:=Eq.trans rfl rfl
theorem yv {i j:Nat}{p q:PV}{ρ:ak}:MO (some [p,q]) i j ρ=.nx ((ρ.set i (some (.val p))).set j (some (.val q))):=Eq.trans rfl rfl
theorem Hs {g:Int->Int->Int}{i:Nat}{f:FE}{ρ:ak}:wA g i f ρ=Oa g (sl ρ i) ((f ρ).bind RV.fr) i ρ:=Eq.trans rfl rfl
theorem yA {g:Int->Int->Int}{i:Nat}{a b:Int}{ρ:ak}:Oa g (some (.val (.int a))) (some (.int b)) i ρ=.nx (ρ.set i (some (.val (.int (g a b))))):=Eq.trans rfl rfl
theorem Iq {i:Nat}{fs:FA}{ρ:ak}:nB i fs ρ=N1 (sl ρ i) ((fs ρ).bind fun rs=>rs.mapM RV.fr) i ρ:=Eq.trans rfl rfl
theorem yD {i:Nat}{ps:List PV}{q:PV}{ρ:ak}:N1 (some (.own ps)) (some [q]) i ρ=if ps.length≤100000 then .nx (ρ.set i (some (.own (ps++[q])))) else .bad:=Eq.trans rfl rfl
theorem HF {j:Nat}{fi f:FE}{ρ:ak}:mJ j fi f ρ=NG ((f ρ).bind RV.fr) (sl ρ j) ((fi ρ).bind RV.fr) j ρ:=Eq.trans rfl rfl
theorem xB {v:PV}{ps:List PV}{k:Int}{j:Nat}{ρ:ak}:NG (some v) (some (.own ps)) (some (.int k)) j ρ=A7 (qh ps.length k) v ps j ρ:=Eq.trans rfl rfl
theorem zf {v:PV}{ps:List PV}{n j:Nat}{ρ:ak}:A7 (some n) v ps j ρ=.nx (ρ.set j (some (.own (ps.set n v)))):=Eq.trans rfl rfl
theorem HK {it:FI}{t:FT}{s:FS}{ρ:ak}:jV it t s ρ=Nj (it ρ) t s ρ:=Eq.trans rfl rfl
theorem ya {its:List PV}{t:FT}{s:FS}{ρ:ak}:Nj (some its) t s ρ=df t s its ρ:=Eq.trans rfl rfl
theorem y4 {c:FB}{s:FS}{ρ:ak}:kZ c s ρ=cB c s 10000 ρ:=Eq.trans rfl rfl
theorem ul {ρ:ak}:Out.res (.nx ρ)=some (.v .non):=Eq.trans rfl rfl
theorem vV {p:PV}:Out.res (.rt p)=some (.v p):=Eq.trans rfl rfl
theorem um {p:List PV}:Out.res (.rn p)=some (.n p):=Eq.trans rfl rfl
theorem Sm {i:Nat}{ρ:ak}:fV i ρ=(sl ρ i).map E2:=Eq.trans rfl rfl
theorem HI {s:Option Sl}{ρ:ak}:sl (s::ρ) 0=s:=Eq.trans rfl rfl
theorem Ir {s:Option Sl}{i:Nat}{ρ:ak}:sl (s::ρ) (i+1)=sl ρ i:=Eq.trans rfl rfl
theorem uH {p:PV}:E2 (.val p)=.fz p:=Eq.trans rfl rfl
theorem uj {p:List PV}:E2 (.own p)=.ln (.lst p):=Eq.trans rfl rfl
theorem RY {p:PV}{ρ:ak}:fC p ρ=some (.fz p):=Eq.trans rfl rfl
theorem PH {g:PV->PV->Option RV}{a b:FE}{ρ:ak}:ah g a b ρ=(a ρ).bind fun x=>(b ρ).bind fun y=>g x.pv y.pv:=Eq.trans rfl rfl
theorem xH {p:PV}:RV.pv (.fz p)=p:=Eq.trans rfl rfl
theorem x8 {p:List PV}:RV.pv (.nw p)=.lst p:=Eq.trans rfl rfl
theorem yU {p:PV}:RV.pv (.ln p)=p:=Eq.trans rfl rfl
theorem xT {p:PV}:RV.fr (.fz p)=some p:=Eq.trans rfl rfl
theorem yz {p:List PV}:RV.fr (.nw p)=some (.lst p):=Eq.trans rfl rfl
theorem xZ {p:PV}:RV.fr (.ln p)=none:=Eq.trans rfl rfl
theorem Sj {f:FE}{ρ:ak}:fT f ρ=AI (f ρ):=Eq.trans rfl rfl
theorem Ie {b:Bool}:AI (some (.fz (.bl b)))=some b:=Eq.trans rfl rfl
theorem A1 {g:FB}{ρ:ak}:kM g ρ=(g ρ).map fun b=>!b:=Eq.trans rfl rfl
theorem BE {g k:FB}{ρ:ak}:ip g k ρ=(g ρ).bind fun b=>if b=true then k ρ else some false:=Eq.trans rfl rfl
theorem Ip {g k:FB}{ρ:ak}:o4 g k ρ=(g ρ).bind fun b=>if b=true then some true else k ρ:=Eq.trans rfl rfl
theorem IR {f:FE}{ρ:ak}:wq f ρ=(f ρ).bind fun r=>r.fr.map .fz:=Eq.trans rfl rfl
theorem BG {f g:FE}{ρ:ak}:oZ f g ρ=(AI (f ρ)).bind fun b=>if b=true then wq g ρ else some (.fz (.bl false)):=Eq.trans rfl rfl
theorem Bo {f:FE}{ρ:ak}:xP f ρ=(AI (f ρ)).map fun b=>.fz (.bl (!b)):=Eq.trans rfl rfl
theorem HN {f:FE}{ρ:ak}:mT f ρ=(f ρ).bind fun r=>Nt r.fr:=Eq.trans rfl rfl
theorem y9 {i:Int}:Nt (some (.int i))=some (.fz (.int (-i))):=Eq.trans rfl rfl
theorem Ht {g:FB}{f k:FE}{ρ:ak}:MX g f k ρ=(g ρ).bind fun b=>if b=true then wq f ρ else wq k ρ:=Eq.trans rfl rfl
theorem Os {g g':PV->PV->Option RV}{a b c:FE}{ρ:ak}:Gy g g' a b c ρ=(a ρ).bind fun x=>(b ρ).bind fun y=>(AI (g x.pv y.pv)).bind fun k=>if k=true then (c ρ).bind fun z=>g' y.pv z.pv else some (.fz (.bl false)):=Eq.trans rfl rfl
theorem H9 {ρ:ak}:ae ρ=some []:=Eq.trans rfl rfl
theorem Bz {f:FE}{fs:FA}{ρ:ak}:aa f fs ρ=(f ρ).bind fun r=>(fs ρ).bind fun rs=>some (r::rs):=Eq.trans rfl rfl
theorem oE  : ([]:List RV).mapM RV.fr=some []:=Eq.trans rfl rfl
theorem IJ {fs:FA}{ρ:ak}:eA fs ρ=(fs ρ).bind fun rs=>(rs.mapM RV.fr).bind fun ps=>if ps.length≤100000 then some (.fz (.tup ps)) else none:=Eq.trans rfl rfl
theorem HV {fs:FA}{ρ:ak}:gP fs ρ=(fs ρ).bind fun rs=>(rs.mapM RV.fr).bind fun ps=>if ps.length≤100000 then some (.nw ps) else none:=Eq.trans rfl rfl
theorem yG {i j:Int}:bO (.int i) (.int j)=some (.fz (.int (i+j))):=Eq.trans rfl rfl
theorem xC {i j:Int}:sr (.int i) (.int j)=some (.fz (.int (i - j))):=Eq.trans rfl rfl
theorem yi {i j:Int}:gB (.int i) (.int j)=if (i.natAbs<2 ^ 64)\/(j.natAbs<2 ^ 64) then some (.fz (.int (i * j))) else none:=Eq.trans rfl rfl
theorem yY {i j:Int}:jS (.int i) (.int j)=if 0<j/\j<1073741824 then some (.fz (.int (i / j))) else none:=Eq.trans rfl rfl
theorem ym {i j:Int}:bn (.int i) (.int j)=if 0<j then some (.fz (.int (i % j))) else none:=Eq.trans rfl rfl
theorem xF {i j:Int}:FH (.int i) (.int j)=if 0≤j/\j≤1000000/\i.natAbs<2 ^ 64 then some (.fz (.int (i ^ j.toNat))) else none:=Eq.trans rfl rfl
theorem C8 {i j:Int}:HU (.int i) (.int j)=some (.fz (.bl (decide (i<j)))):=Eq.trans rfl rfl
theorem BX {i j:Int}:Lv (.int i) (.int j)=some (.fz (.bl (decide (i≤j)))):=Eq.trans rfl rfl
theorem Du {i j:Int}:A9 (.int i) (.int j)=some (.fz (.bl (decide (j<i)))):=Eq.trans rfl rfl
theorem B8 {i j:Int}:Nh (.int i) (.int j)=some (.fz (.bl (decide (j≤i)))):=Eq.trans rfl rfl
theorem Ed {x y:PV}:eD x y=if plain x&&plain y&&decide (lv x≤50) then some (.fz (.bl (iQ x y))) else none:=Eq.trans rfl rfl
theorem BF {x y:PV}:iW x y=if plain x&&plain y&&decide (lv x≤50) then some (.fz (.bl (!iQ x y))) else none:=Eq.trans rfl rfl
theorem Dd {x:PV}{ps:List PV}:E4 x (.tup ps)=if plain x&&aw ps&&decide (ck ps≤50) then some (.fz (.bl (pin x ps))) else none:=Eq.trans rfl rfl
theorem yo {x:PV}{ps:List PV}:oq x (.tup ps)=if plain x&&aw ps&&decide (ck ps≤50) then some (.fz (.bl (!pin x ps))) else none:=Eq.trans rfl rfl
theorem wM {ps:List PV}{i:Int}:aN (.tup ps) (.int i)=(L2.atI ps i).map .fz:=Eq.trans rfl rfl
theorem Cf {ps:List PV}{i:Int}:aN (.lst ps) (.int i)=(L2.atI ps i).map .fz:=Eq.trans rfl rfl
theorem Bc {ps:List PV}{i:Int}:aN (.src ps) (.int i)=(L2.atI ps i).map .fz:=Eq.trans rfl rfl
theorem NZ {f:FE}{l h:FO}{ρ:ak}:Es f l h ρ=(f ρ).bind fun r=>(l ρ).bind fun lo=>(h ρ).bind fun hi=>Hv r.pv lo hi:=Eq.trans rfl rfl
theorem Nl {ρ:ak}:GF ρ=some none:=Eq.trans rfl rfl
theorem Pz {f:FE}{ρ:ak}:Gn f ρ=(f ρ).bind fun r=>Sq r.fr:=Eq.trans rfl rfl
theorem Ck {i:Int}:Sq (some (.int i))=some (some i):=Eq.trans rfl rfl
theorem BD {ps:List PV}{l h:Option Int}:Hv (.lst ps) l h=some (.nw (cut ps l h)):=Eq.trans rfl rfl
theorem Cz {ps:List PV}{l h:Option Int}:Hv (.src ps) l h=some (.nw (cut ps l h)):=Eq.trans rfl rfl
theorem By {ps:List PV}{l h:Option Int}:Hv (.tup ps) l h=if HT.sIx ps.length 0 l=0/\HT.sIx ps.length ps.length h=ps.length then none else some (.fz (.tup (cut ps l h))):=Eq.trans rfl rfl
theorem RN {g:List PV->Option RV}{fs:FA}{ρ:ak}:fB g fs ρ=(fs ρ).bind fun rs=>g (rs.map RV.pv):=Eq.trans rfl rfl
theorem yX {ps:List PV}:gJ [.lst ps]=some (.fz (.int ps.length)):=Eq.trans rfl rfl
theorem xI {ps:List PV}:gJ [.tup ps]=some (.fz (.int ps.length)):=Eq.trans rfl rfl
theorem xW {ps:List PV}:gJ [.src ps]=some (.fz (.int ps.length)):=Eq.trans rfl rfl
theorem yb {i:Int}:Bf [.int i]=some (.fz (.int (if i<0 then -i else i))):=Eq.trans rfl rfl
theorem y1 {i j:Int}:om [.int i,.int j]=some (.fz (.int (if j<i then j else i))):=Eq.trans rfl rfl
theorem yE {b:Bool}:uD [.bl b]=some (.fz (.int (if b then 1 else 0))):=Eq.trans rfl rfl
theorem yy {ps:List PV}:DG [.lst ps]=(Hl ps).map fun bs=>.fz (.bl (bs.all id)):=Eq.trans rfl rfl
theorem yJ {ps:List PV}:BJ [.lst ps]=(Hl ps).map fun bs=>.fz (.bl (bs.any id)):=Eq.trans rfl rfl
theorem xz {ps:List PV}:lj [.lst ps]=some (.fz (.tup ps)):=Eq.trans rfl rfl
theorem BK {lo j:Int}:iA [.rng lo j]=if lo=0/\0≤j/\j≤1000000 then some (.nw (qJ 0 j.toNat)) else none:=Eq.trans rfl rfl
theorem vU {ps:List PV}:iA [.tup ps]=some (.nw ps):=Eq.trans rfl rfl
theorem Hc {j:Int}:xu [.int j]=if -(2 ^ 62)≤j/\j<2 ^ 62 then some (.fz (.rng 0 j)) else none:=Eq.trans rfl rfl
theorem BS {F:List PV->Option PR}{fs:FA}{ρ:ak}:ao F fs ρ=(fs ρ).bind fun rs=>CU F (rs.mapM RV.fr) rs:=Eq.trans rfl rfl
theorem uM {F:List PV->Option PR}{ps:List PV}{rs:List RV}:CU F (some ps) rs=(F ps).map qB:=Eq.trans rfl rfl
theorem uS {F:List PV->Option PR}{rs:List RV}:CU F none rs=(F (rs.map RV.pv)).bind fun r=>if My r=true then some (qB r) else none:=Eq.trans rfl rfl
theorem Dz {p:PV}:qB (.v p)=.fz p:=Eq.trans rfl rfl
theorem B6 {p:List PV}:qB (.n p)=.nw p:=Eq.trans rfl rfl
theorem xR {p:List PV}:My (.n p)=HX p:=Eq.trans rfl rfl
theorem Pn {f:FE}{ρ:ak}:tz f ρ=(f ρ).bind fun r=>r.fr.bind items:=Eq.trans rfl rfl
theorem rF {ps:List PV}:items (.tup ps)=some ps:=Eq.trans rfl rfl
theorem rg {ps:List PV}:items (.lst ps)=some ps:=Eq.trans rfl rfl
theorem Iw {g:List PV->Option (List PV)}{fs:FA}{ρ:ak}:lX g fs ρ=(fs ρ).bind fun rs=>g (rs.map RV.pv):=Eq.trans rfl rfl
theorem Jq {j:Int}:lF [.int j]=if Kb j then some (qJ 0 j.toNat) else none:=Eq.trans rfl rfl
theorem Bi {ps:List PV}:r6 [.lst ps]=(eY ps).map fun is=>.fz (.int is.sum):=Eq.trans rfl rfl
theorem xN {g:Int->Int->Int}{j:Nat}{fi f:FE}{ρ:ak}:j2 g j fi f ρ=D1 g (sl ρ j) ((fi ρ).bind RV.fr) ((f ρ).bind RV.fr) j ρ:=Eq.trans rfl rfl
theorem qZ {g:Int->Int->Int}{ps:List PV}{k b:Int}{j:Nat}{ρ:ak}:D1 g (some (.own ps)) (some (.int k)) (some (.int b)) j ρ=if 0≤k then sw g ps[k.toNat]? ps k b j ρ else .bad:=Eq.trans rfl rfl
theorem qY {g:Int->Int->Int}{a:Int}{ps:List PV}{k b:Int}{j:Nat}{ρ:ak}:sw g (some (.int a)) ps k b j ρ=.nx (ρ.set j (some (.own (ps.set k.toNat (.int (g a b)))))):=Eq.trans rfl rfl
theorem Og {i:Nat}{p:PV}{ρ:ak}:gN i p ρ=some (ρ.set i (some (.val p))):=Eq.trans rfl rfl
theorem On {ρ:ak}:g0 [] ρ=some ρ:=Eq.trans rfl rfl
theorem OF {t:FT}{ts:Eu}{p:PV}{ps:List PV}{ρ:ak}:gC t ts (p::ps) ρ=(t p ρ).bind fun ρ'=>ts ps ρ':=Eq.trans rfl rfl
theorem Hq {n:Nat}{ts:Eu}{ps:List PV}{ρ:ak}:mZ n ts (.tup ps) ρ=if ps.length=n then ts ps ρ else none:=Eq.trans rfl rfl
theorem Bv {fm:List (Option Nat)}{it:FI}{t:FT}{c:FB}{f:FE}{ρ:ak}:gH fm it t c f ρ=(it ρ).bind fun its=>if its.length<1000 then (qj t c f (jH fm ρ) its).map .nw else none:=Eq.trans rfl rfl
theorem rP {ρ:ak}:jH [] ρ=[]:=Eq.trans rfl rfl
theorem pb {fm:List (Option Nat)}{ρ:ak}:jH (none::fm) ρ=none::jH fm ρ:=Eq.trans rfl rfl
theorem oK {j:Nat}{fm:List (Option Nat)}{ρ:ak}:jH (some j::fm) ρ=sl ρ j::jH fm ρ:=Eq.trans rfl rfl
theorem CD {s v:Option Sl}{ρ:ak}:List.set (s::ρ) 0 v=v::ρ:=Eq.trans rfl rfl
theorem CC {s v:Option Sl}{i:Nat}{ρ:ak}:List.set (s::ρ) (i+1) v=s::List.set ρ i v:=Eq.trans rfl rfl
theorem xX {p:PV}{n:String}{b:Bool}(hn:n = "int"\/n = "bool"\/n = "str"\/n = "tuple"\/n = "list"\/n = "dict")(h:PL n p=some b):t8 [p,.ty n]=some (.fz (.bl b)):=by
 unfold t8;simp only[hn,if_true,h,Option.map_some]
theorem mr {i:Int}:t8 [(.int i),.ty "int"]=some (.fz (.bl true)):=xX (by decide) rfl
theorem kz {i:Int}:t8 [(.int i),.ty "bool"]=some (.fz (.bl false)):=xX (by decide) rfl
theorem j3 {i:List PV}:t8 [(.tup i),.ty "tuple"]=some (.fz (.bl true)):=xX (by decide) rfl
theorem ly {i:Str}:t8 [(.str i),.ty "str"]=some (.fz (.bl true)):=xX (by decide) rfl
theorem m7 {α β:Type}{a:α}{f:α->Option β}:((some a).bind f)=f a:=Eq.trans rfl rfl
theorem nc {α β:Type}{f:α->Option β}:((none:Option α).bind f)=none:=Eq.trans rfl rfl
theorem pR {α β:Type}{a:α}{f:α->β}:((some a).map f)=some (f a):=Eq.trans rfl rfl
theorem JZ {α β:Type}{f:α->β}:((none:Option α).map f)=none:=Eq.trans rfl rfl
theorem p7 {α β:Type}{a:α}{l:List α}{f:α->β}:((a::l).map f)=f a::l.map f:=Eq.trans rfl rfl
theorem rf {α β:Type}{f:α->β}:(([]:List α).map f)=[]:=Eq.trans rfl rfl
theorem qL {α:Type}{l:List α}:([]++l)=l:=Eq.trans rfl rfl
theorem pS {α:Type}{a:α}{l m:List α}:((a::l)++m)=a::(l++m):=Eq.trans rfl rfl
theorem pd {α:Type}{a:α}{l:List α}:((a::l).length)=l.length+1:=Eq.trans rfl rfl
theorem qV {α:Type}:(([]:List α).length)=0:=Eq.trans rfl rfl
theorem DX {α:Type}{a b:α}:((if True then a else b))=a:=Eq.trans rfl rfl
theorem DF {α:Type}{a b:α}:((if False then a else b))=b:=Eq.trans rfl rfl
theorem PP {α:Type}{a b:α}:((if true=true then a else b))=a:=Eq.trans rfl rfl
theorem zb {α:Type}{a b:α}:((if false=true then a else b))=b:=Eq.trans rfl rfl
theorem Mr {α:Type}{a:α}{l:List α}:((a::l).isEmpty)=false:=Eq.trans rfl rfl
theorem qO {α:Type}:(([]:List α).isEmpty)=true:=Eq.trans rfl rfl
theorem IK  : (plain .non)=true:=Eq.trans rfl rfl
theorem LU {b:Bool}:(plain (.bl b))=true:=Eq.trans rfl rfl
theorem ng {b:Int}:(plain (.int b))=true:=Eq.trans rfl rfl
theorem m9 {b:Str}:(plain (.str b))=true:=Eq.trans rfl rfl
theorem ME  : (lv .non)=0:=Eq.trans rfl rfl
theorem Pg {b:Bool}:(lv (.bl b))=0:=Eq.trans rfl rfl
theorem q8 {b:Int}:(lv (.int b))=0:=Eq.trans rfl rfl
theorem qU {b:Str}:(lv (.str b))=0:=Eq.trans rfl rfl
theorem NU {n:Nat}:(nI n)=PV.int n:=Eq.trans rfl rfl
theorem PN  : (jY .non)=true:=Eq.trans rfl rfl
theorem Mp {i:Int}:(jY (.int i))=false:=Eq.trans rfl rfl
theorem MB {i:Bool}:(jY (.bl i))=false:=Eq.trans rfl rfl
theorem Mw {i:List PV}:(jY (.tup i))=false:=Eq.trans rfl rfl
theorem Mo {i:List PV}:(jY (.lst i))=false:=Eq.trans rfl rfl
theorem Mz {i:Str}:(jY (.str i))=false:=Eq.trans rfl rfl
theorem Oi {i:Int}:(Kb i)=(decide (-4611686018427387904≤i)&&decide (i<4611686018427387904)):=Eq.trans rfl rfl
theorem qS {ps:List PV}:plain (.tup ps)=aw ps:=by rw[Pu.plain]
theorem qR {ps:List PV}:plain (.lst ps)=aw ps:=by rw[Pu.plain]
theorem pf:aw []=true:=by rw[aw]
theorem pH {p:PV}{ps:List PV}:aw (p::ps)=(plain p&&aw ps):=by rw[aw]
theorem xV {ps:List PV}:lv (.tup ps)=ck ps+1:=by rw[lv]
theorem yT {ps:List PV}:lv (.lst ps)=ck ps+1:=by rw[lv]
theorem u9:ck []=0:=by rw[ck]
theorem vm {p:PV}{ps:List PV}:ck (p::ps)=max (lv p) (ck ps):=by rw[ck]
end Dp
end
local macro_rules | `(tactic| simp! [$xs,*] $[$l:location]?) => `(tactic| simp only [$xs,*, Dp.nr, Dp.Hu, Dp.yn, Dp.yw, Dp.yH, Dp.yh, Dp.BI, Dp.Ek, Dp.rz, Dp.rJ, Dp.AM, Dp.Cc, Dp.rp, Dp.IS, Dp.vi, Dp.DC, Dp.uO, Dp.vf, Dp.NT, Dp.Dr, Dp.CJ, Dp.IU, Dp.yx, Dp.IP, Dp.uR, Dp.Hz, Dp.za, Dp.DH, Dp.HR, Dp.yv, Dp.Hs, Dp.yA, Dp.Iq, Dp.yD, Dp.HF, Dp.xB, Dp.zf, Dp.HK, Dp.ya, Dp.y4, Dp.ul, Dp.vV, Dp.um, Dp.Sm, Dp.HI, Dp.Ir, Dp.uH, Dp.uj, Dp.RY, Dp.PH, Dp.xH, Dp.x8, Dp.yU, Dp.xT, Dp.yz, Dp.xZ, Dp.Sj, Dp.Ie, Dp.A1, Dp.BE, Dp.Ip, Dp.IR, Dp.BG, Dp.Bo, Dp.HN, Dp.y9, Dp.Ht, Dp.Os, Dp.H9, Dp.Bz, Dp.oE, Dp.IJ, Dp.HV, Dp.yG, Dp.xC, Dp.yi, Dp.yY, Dp.ym, Dp.xF, Dp.C8, Dp.BX, Dp.Du, Dp.B8, Dp.Ed, Dp.BF, Dp.Dd, Dp.yo, Dp.wM, Dp.Cf, Dp.Bc, Dp.NZ, Dp.Nl, Dp.Pz, Dp.Ck, Dp.BD, Dp.Cz, Dp.By, Dp.RN, Dp.yX, Dp.xI, Dp.xW, Dp.yb, Dp.y1, Dp.yE, Dp.yy, Dp.yJ, Dp.xz, Dp.vU, Dp.BS, Dp.uM, Dp.uS, Dp.Dz, Dp.B6, Dp.xR, Dp.Pn, Dp.rF, Dp.rg, Dp.Iw, Dp.Bi, Dp.xN, Dp.qZ, Dp.qY, Dp.Og, Dp.On, Dp.OF, Dp.Hq, Dp.Bv, Dp.rP, Dp.pb, Dp.oK, Dp.CD, Dp.CC, Dp.mr, Dp.kz, Dp.j3, Dp.ly, Dp.m7, Dp.nc, Dp.pR, Dp.p7, Dp.rf, Dp.qL, Dp.pS, Dp.pd, Dp.qV, Dp.DX, Dp.DF, Dp.zb, Dp.qO, Dp.ng, Dp.m9, Dp.q8, Dp.qU, Dp.NU, Dp.qS, Dp.qR, Dp.pf, Dp.pH, Dp.xV, Dp.yT, Dp.u9, Dp.vm, Pu.R7, Pu.R6, Pu.sW, Pu.lM, Pu.yM, Pu.xU, and_true, true_and, false_and, Nat.add_zero, Nat.zero_add, Int.toNat_natCast, Bool.not_true, Bool.not_false, Bool.and_true, Bool.or_true, Bool.or_false, Nat.zero_le, decide_true, decide_false, Pu.d8, Pu.gM, Pu.i7, Nat.max_self, Nat.reduceAdd, Nat.reduceSub, Nat.reduceLeDiff, Nat.reduceLT, Nat.reduceEqDiff, Int.reduceLT, Int.reduceLE, Int.reduceAdd, Int.reduceSub, Int.reduceMul, Int.reduceMod, Int.reduceDiv, Int.reduceNeg, Int.reduceToNat, Int.reducePow, Int.reduceEq] $[$l:location]?)
local macro_rules | `(tactic| simp_all! [$xs,*]) => `(tactic| simp only [$xs,*, Dp.nr, Dp.Hu, Dp.yn, Dp.yw, Dp.yH, Dp.yh, Dp.BI, Dp.Ek, Dp.rz, Dp.rJ, Dp.AM, Dp.Cc, Dp.rp, Dp.IS, Dp.vi, Dp.DC, Dp.uO, Dp.vf, Dp.NT, Dp.Dr, Dp.CJ, Dp.IU, Dp.yx, Dp.IP, Dp.uR, Dp.Hz, Dp.za, Dp.DH, Dp.HR, Dp.yv, Dp.Hs, Dp.yA, Dp.Iq, Dp.yD, Dp.HF, Dp.xB, Dp.zf, Dp.HK, Dp.ya, Dp.y4, Dp.ul, Dp.vV, Dp.um, Dp.Sm, Dp.HI, Dp.Ir, Dp.uH, Dp.uj, Dp.RY, Dp.PH, Dp.xH, Dp.x8, Dp.yU, Dp.xT, Dp.yz, Dp.xZ, Dp.Sj, Dp.Ie, Dp.A1, Dp.BE, Dp.Ip, Dp.IR, Dp.BG, Dp.Bo, Dp.HN, Dp.y9, Dp.Ht, Dp.Os, Dp.H9, Dp.Bz, Dp.oE, Dp.IJ, Dp.HV, Dp.yG, Dp.xC, Dp.yi, Dp.yY, Dp.ym, Dp.xF, Dp.C8, Dp.BX, Dp.Du, Dp.B8, Dp.Ed, Dp.BF, Dp.Dd, Dp.yo, Dp.wM, Dp.Cf, Dp.Bc, Dp.NZ, Dp.Nl, Dp.Pz, Dp.Ck, Dp.BD, Dp.Cz, Dp.By, Dp.RN, Dp.yX, Dp.xI, Dp.xW, Dp.yb, Dp.y1, Dp.yE, Dp.yy, Dp.yJ, Dp.xz, Dp.vU, Dp.BS, Dp.uM, Dp.uS, Dp.Dz, Dp.B6, Dp.xR, Dp.Pn, Dp.rF, Dp.rg, Dp.Iw, Dp.Bi, Dp.xN, Dp.qZ, Dp.qY, Dp.Og, Dp.On, Dp.OF, Dp.Hq, Dp.Bv, Dp.rP, Dp.pb, Dp.oK, Dp.CD, Dp.CC, Dp.mr, Dp.kz, Dp.j3, Dp.ly, Dp.m7, Dp.nc, Dp.pR, Dp.p7, Dp.rf, Dp.qL, Dp.pS, Dp.pd, Dp.qV, Dp.DX, Dp.DF, Dp.zb, Dp.qO, Dp.ng, Dp.m9, Dp.q8, Dp.qU, Dp.NU, Dp.qS, Dp.qR, Dp.pf, Dp.pH, Dp.xV, Dp.yT, Dp.u9, Dp.vm, Pu.R7, Pu.R6, Pu.sW, Pu.lM, Pu.yM, Pu.xU, and_true, true_and, false_and, Nat.add_zero, Nat.zero_add, Int.toNat_natCast, Bool.not_true, Bool.not_false, Bool.and_true, Bool.or_true, Bool.or_false, Nat.zero_le, decide_true, decide_false, Pu.d8, Pu.gM, Pu.i7, Nat.max_self])
section
namespace Dp
open PySem L2 Fo Pu
theorem xn {t:FT}{f:FE}{ρ:ak}(g:PV->PV):∀{its:List PV},(∀p∈its,(t p ρ).bind (fun ρ2=>(f ρ2).bind RV.fr)=some (g p))->qj t jA f ρ its=some (its.map g):=fun {its}=>by
 induction its with
 |nil=>intro _;rfl
 |cons p ps ih=>
  intro h
  have h1:=h p List.mem_cons_self
  have h2:=ih fun q hq=>h q (List.mem_cons_of_mem _ hq)
  obtain⟨ρ2,e1,h1⟩:=Option.bind_eq_some_iff.mp h1
  obtain⟨r,e2,h1⟩:=Option.bind_eq_some_iff.mp h1
  rw[qj,e1,h2]
  show (f ρ2).bind _=_
  rw[e2]
  show r.fr.bind _=_
  rw[h1];rfl
theorem nZ {t:FT}{f:FE}{ρ:ak}(g:Nat->PV){us:List Nat}(h:∀u∈us,(t (.int u) ρ).bind (fun ρ2=>(f ρ2).bind RV.fr)=some (g u)):qj t jA f ρ (nums us)=some (us.map g):=by
 have e:(nums us).map (fun p=>match p with|.int i=>g i.toNat|_=>.non)=us.map g:=by
  unfold nums;rw[List.map_map];exact List.map_congr_left fun u _=>rfl
 rw[←e]
 refine xn _ fun p hp=>?_
 obtain⟨u,hu,rfl⟩:=pI hp
 exact h u hu
theorem rQ {t:FT}{c:FB}{f:FE}{ρ:ak}(b:PV->Bool)(g:PV->PV):∀{its:List PV},(∀p∈its,∃ρ2,t p ρ=some ρ2/\c ρ2=some (b p)/\(b p=true->(f ρ2).bind RV.fr=some (g p)))->qj t c f ρ its=some ((its.filter b).map g):=fun {its}=>by
 induction its with
 |nil=>intro _;rfl
 |cons p ps ih=>
  intro h
  obtain⟨ρ2,e1,e2,h1⟩:=h p List.mem_cons_self
  have h2:=ih fun q hq=>h q (List.mem_cons_of_mem _ hq)
  rw[qj,e1]
  show (c ρ2).bind _=_
  rw[e2]
  cases hb:b p with
  |true=>
   obtain⟨r,e3,e4⟩:=Option.bind_eq_some_iff.mp (h1 hb)
   rw[List.filter_cons_of_pos hb]
   show (f ρ2).bind _=_
   rw[e3]
   show r.fr.bind _=_
   rw[e4,h2];rfl
  |false=>
   rw[List.filter_cons_of_neg (by rw[hb];exact Bool.false_ne_true)]
   exact h2
noncomputable def LH:=(And.intro (And.intro (And.intro (And.intro (And.intro (show decide (("none" : Str) = "whole")=false by decide) (show decide (("none" : Str) = "halves")=false by decide)) (And.intro (show decide (("none" : Str) = "splits")=false by decide) (show decide (("none" : Str) = "one")=false by decide))) (And.intro (And.intro (show decide (("whole" : Str) = "none")=false by decide) (show decide (("whole" : Str) = "halves")=false by decide)) (And.intro (show decide (("whole" : Str) = "splits")=false by decide) (show decide (("whole" : Str) = "one")=false by decide)))) (And.intro (And.intro (And.intro (show decide (("halves" : Str) = "none")=false by decide) (show decide (("halves" : Str) = "whole")=false by decide)) (And.intro (show decide (("halves" : Str) = "splits")=false by decide) (show decide (("halves" : Str) = "one")=false by decide))) (And.intro (And.intro (show decide (("splits" : Str) = "none")=false by decide) (show decide (("splits" : Str) = "whole")=false by decide)) (And.intro (show decide (("splits" : Str) = "halves")=false by decide) (And.intro (show decide (("splits" : Str) = "one")=false by decide) (show decide (("one" : Str) = "none")=false by decide)))))) (And.intro (And.intro (And.intro (And.intro (show decide (("one" : Str) = "whole")=false by decide) (show decide (("one" : Str) = "halves")=false by decide)) (And.intro (show decide (("one" : Str) = "splits")=false by decide) (show decide (("size" : Str) = "rank")=false by decide))) (And.intro (And.intro (show decide (("size" : Str) = "told")=false by decide) (show decide (("size" : Str) = "names")=false by decide)) (And.intro (show decide (("rank" : Str) = "size")=false by decide) (show decide (("rank" : Str) = "told")=false by decide)))) (And.intro (And.intro (And.intro (show decide (("rank" : Str) = "names")=false by decide) (show decide (("told" : Str) = "size")=false by decide)) (And.intro (show decide (("told" : Str) = "rank")=false by decide) (show decide (("told" : Str) = "names")=false by decide))) (And.intro (And.intro (show decide (("names" : Str) = "size")=false by decide) (show decide (("names" : Str) = "rank")=false by decide)) (And.intro (show decide (("names" : Str) = "told")=false by decide) (And.intro (show decide (("find" : Str) = "join")=false by decide) (show decide (("join" : Str) = "find")=false by decide)))))))
theorem K1 {n:Nat}(h:n≤100000):lF [.int n]=some (nums (List.range n))/\xu [.int n]=some (.fz (.rng 0 n))/\iA [.rng 0 n]=some (.nw (nums (List.range n))):=by
 refine⟨?_,?_,?_⟩
 ·rw[Jq,Oi,decide_eq_true (by omega),decide_eq_true (by omega),Int.toNat_natCast,Gr];rfl
 ·rw[Hc,if_pos ⟨by omega,by omega⟩]
 ·rw[BK,if_pos ⟨rfl,by omega,by omega⟩,Int.toNat_natCast,Gr]
theorem SL {j:Int}(h0:0≤j)(h:j≤100000):lF [.int j]=some (nums (List.range j.toNat))/\xu [.int j]=some (.fz (.rng 0 j))/\iA [.rng 0 j]=some (.nw (nums (List.range j.toNat))):=by
 have:=K1 (n:=j.toNat) (by omega)
 rwa [Int.toNat_of_nonneg h0] at this
theorem ye (i:Int):bN [.int i]=some (.v (.bl true)):=by
 simp_all! [sT,jB]
theorem Kh {i:Int}(h1:1≤i)(h2:i≤40):eg [.int i]=some (.v (.bl true)):=by
 simp_all! [ue,j8,ye,decide_eq_true h1,decide_eq_true h2]
theorem yS (m x:Int):dN [.int m,.int x]=some (.v (.bl (decide (0≤x/\x<m)))):=by
 simp_all! [sX,jy,ye]
 by_cases h:0≤x
 ·simp_all! [decide_eq_true h,h]
 ·simp_all! [decide_eq_false h,h,false_and]
theorem Ce {y:Str}(hy:y∈manners):bI [.str y]=some (.v .non):=by
 simp_all! [nJ,gT,wO,decide_eq_true hy]
theorem C9 {p:PV}{us:List Nat}(hp:p=.tup (nums us)\/p=.lst (nums us))(hm:us.length≤40)(hb:∀x,x<us.length->up us x<us.length){s1:Option Sl}{y:Nat}{l2:List Nat}(w:Way us y l2):∀(pre:List Nat),pre.length+l2.length≤us.length->y<us.length →
  ∀n,l2.length<n->cB gF iF n [some (.val p),s1,some (.own (nums (pre++[y])))]=.nx [some (.val p),s1,some (.own (nums (pre++l2)))]:=by
 induction w with
 | @head y e=>
  intro pre hl hy n hn
  obtain⟨n,rfl⟩:∃k,n=k+1:=⟨n - 1,by simp at hn;omega⟩
  rw[g9]
  rcases hp with rfl|rfl <;>
   simp![gF,Pu.jd,ai hy,e]
 | @step y l ne w ih=>
  intro pre hl hy n hn
  obtain⟨n,rfl⟩:∃k,n=k+1:=⟨n - 1,by simp at hn;omega⟩
  have ih:=ih (pre++[y]) (by simp at hl ⊢;omega) (hb y hy) n (by simp at hn;omega)
  rw[List.append_assoc,List.append_assoc] at ih
  have hne:decide ((up us y:Int)=(y:Int))=false:=decide_eq_false (by omega)
  have hpl:(pre++[y]).length≤100000:=by simp at hl ⊢;omega
  rw[g9]
  rcases hp with rfl|rfl <;>
   (simp![gF,iF,Pu.jd,ai hy,hne,hpl,mI,List.append_assoc];exact ih)
theorem Cw {p:PV}{us:List Nat}(hp:p=.tup (nums us)\/p=.lst (nums us))(f:Frst us){x:Nat}(hx:x<us.length):di [p,.int x]=some (.n (nums (way us x))):=by
 have hl:=nP f.fst hx
 have hm:=f.most
 have e:=C9 hp f.most f.fst.bnd (s1:=some (.val (.int x))) (aI f.fst hx) [] (by simpa using hl) hx 10000 (by omega)
 rw[List.nil_append,List.nil_append] at e
 have e':cB gF iF 10000 [some (.val p),some (.val (.int x)),some (.own [.int x])]=_:=e
 simp![wg,kS,e']
theorem Rm {a b:PV}{c:Bool}:L2.atI [a,b] (if c=true then 1 else 0)=some (if c=true then b else a):=by
 cases c<;>rfl
theorem si {s0 s1:Option Sl}(vs:List PV):∀(xs:List Nat) (st dg:Int) (z:Option Sl),(∀v∈vs,∃i:Int,v=.int i)->0≤st->st<1999999973->0≤dg->xs.length+vs.length≤1000 →
  ∃(xs':List Nat) (st' dg':Int) (z':Option Sl),xs'.length=xs.length+vs.length/\df (gN 5) du vs [s0,s1,some (.own (nums xs)),some (.val (.int st)),some (.val (.int dg)),z]=.nx [s0,s1,some (.own (nums xs')),some (.val (.int st')),some (.val (.int dg')),z']:=by
 induction vs with
 |nil=>intro xs st dg z _ _ _ _ _;exact⟨xs,st,dg,z,rfl,rfl⟩
 |cons v vs ih=>
  intro xs st dg z hv h1 h2 h3 hl
  obtain⟨i,rfl⟩:=hv v List.mem_cons_self
  have m1:=Int.emod_nonneg st (show (65521:Int)≠0 by decide)
  have cm1:(st.natAbs<2 ^ 64\/(st % 65521+40487).natAbs<2 ^ 64)=True:=eq_true (.inl (by omega))
  have cm2:((7:Int).natAbs<2 ^ 64\/i.natAbs<2 ^ 64)=True:=eq_true (.inl (by decide))
  have hlen:(nums xs).length≤100000:=by rw[d8];simp at hl;omega
  have b1:0≤(st * (st % 65521+40487)+7 * i+5) % 1999999973:=Int.emod_nonneg _ (by decide)
  have b2:(st * (st % 65521+40487)+7 * i+5) % 1999999973<1999999973:=Int.emod_lt_of_pos _ (by decide)
  have d1:=Int.emod_nonneg dg (show (1000000:Int)≠0 by decide)
  have hlen':xs.length≤100000:=by rwa [d8] at hlen
  rw[iz]
  simp![du,cm1,cm2,Rm,hlen']
  generalize (st * (st % 65521+40487)+7 * i+5) % 1999999973=st' at b1 b2
  have hv':(if decide (0<dg)=true then PV.int (dg % 1000000) else PV.int st')=nI (if decide (0<dg)=true then dg % 1000000 else st').toNat:=by
   split<;>rw[Oc (by omega)]
  rw[hv',nI,mI]
  obtain⟨xs',AK,dg2,z2,e1,e2⟩:=ih (xs++[(if decide (0<dg)=true then dg % 1000000 else st').toNat]) st' (dg / 1000000) (some (.val (.int i))) (fun u hu=>hv u (List.mem_cons_of_mem _ hu)) b1 b2 (Int.ediv_nonneg h3 (by decide)) (by simp at hl ⊢;omega)
  exact⟨xs',AK,dg2,z2,by rw[e1,List.length_append];simp;omega,e2⟩
theorem jk (c n:Int)(h0:0≤n)(hn:n≤1000):∃xs:List Nat,xs.length=n.toNat/\al [.int c,.int n]=some (.n (nums xs)):=by
 have b1:0≤(c % 1999999973+31) * 765432101 % 1999999973:=Int.emod_nonneg _ (by decide)
 have b2:(c % 1999999973+31) * 765432101 % 1999999973<1999999973:=Int.emod_lt_of_pos _ (by decide)
 have cm:((c % 1999999973+31).natAbs<2 ^ 64\/(765432101:Int).natAbs<2 ^ 64)=True:=eq_true (.inr (by decide))
 have k1:=(SL h0 (show n≤100000 by omega)).1
 have ab:0≤(if c<0 then -c else c):=by split<;>omega
 have fin:∀dg:Int,0≤dg->∃(xs:List Nat) (st' dg':Int) (z':Option Sl),xs.length=n.toNat/\df (gN 5) du (nums (List.range n.toNat)) [some (.val (.int c)),some (.val (.int n)),some (.own (nums [])),some (.val (.int ((c % 1999999973+31) * 765432101 % 1999999973))),some (.val (.int dg)),none]=.nx [some (.val (.int c)),some (.val (.int n)),some (.own (nums xs)),some (.val (.int st')),some (.val (.int dg')),z']:=fun dg hd=>by
  obtain⟨xs,st',dg',z',e1,e2⟩:=si (s0:=some (.val (.int c))) (s1:=some (.val (.int n))) (qJ 0 n.toNat) [] _ dg none (fun v hv=>by obtain⟨i,e,_⟩:=Mm hv;exact⟨i,e⟩) b1 b2 hd (by rw[xM];simp;omega)
  rw[Gr] at e2
  exact⟨xs,st',dg',z',by rw[e1,xM];simp,e2⟩
 have hp:(10:Int) ^ 18=1000000000000000000:=by decide
 by_cases hc:c<0
 ·obtain⟨xs,st',dg',z',e1,e2⟩:=fin _ ab
  rw[pG] at e2
  refine⟨xs,e1,?_⟩
  simp![gd,cE,cm,k1,decide_eq_true hc,e2]
 ·by_cases hd:1000000000000000000≤c
  ·obtain⟨xs,st',dg',z',e1,e2⟩:=fin _ ab
   rw[pG] at e2
   refine⟨xs,e1,?_⟩
   simp![gd,cE,cm,k1,decide_eq_false hc,show (0:Int)≤18/\(18:Int)≤1000000/\(10:Int).natAbs<2 ^ 64 from by decide,decide_eq_true hd,e2]
  ·obtain⟨xs,st',dg',z',e1,e2⟩:=fin 0 (by decide)
   rw[pG] at e2
   refine⟨xs,e1,?_⟩
   simp![gd,cE,cm,k1,decide_eq_false hc,show (0:Int)≤18/\(18:Int)≤1000000/\(10:Int).natAbs<2 ^ 64 from by decide,decide_eq_false hd,e2]
theorem zg {s0 s1:Option Sl}(ns:List Int):∀(st:Int) (z:Option Sl),∃(st':Int) (z':Option Sl),df (gN 3) fE (iL ns) [s0,s1,some (.val (.int st)),z]=.nx [s0,s1,some (.val (.int st')),z']:=by
 induction ns with
 |nil=>intro st z;exact⟨st,z,rfl⟩
 |cons n ns ih=>
  intro st z
  have cm:(st.natAbs<2 ^ 64\/(69621:Int).natAbs<2 ^ 64)=True:=eq_true (.inr (by decide))
  show ∃st' z',df (gN 3) fE (.int n::iL ns) _=_
  rw[iz]
  simp![fE,cm]
  exact ih _ _
theorem oQ (ns:List Int)(k:Int)(h0:0≤k)(hk:k≤1000):∃i:Int,av [.src (iL ns),.int k]=some (.v (.int i)):=by
 by_cases hl:k<ns.length
 ·have hk':k.toNat<ns.length:=by omega
  have e:L2.atI (iL ns) k=some (.int ns[k.toNat]):=by
   have:=gt (ps:=iL ns) (x:=k.toNat) (p:=.int ns[k.toNat]) (by unfold iL;rw[List.getElem?_map,List.getElem?_eq_getElem hk'];rfl)
   rwa [Int.toNat_of_nonneg h0] at this
  exact⟨ns[k.toNat],by simp![kE,gA,DL,decide_eq_true hl,e]⟩
 ·have c1:(k.natAbs<2 ^ 64)=True:=eq_true (by omega)
  have c2:((48271:Int).natAbs<2 ^ 64)=True:=eq_true (by decide)
  have c3:((7:Int).natAbs<2 ^ 64)=True:=eq_true (by decide)
  obtain⟨st',z',e⟩:=zg (s0:=some (.val (.src (iL ns)))) (s1:=some (.val (.int k))) (cut ns none (some 3)) (48271 * (k * k+7 * k+11) % 2147483647) none
  refine⟨st',?_⟩
  simp![kE,gA,DL,decide_eq_false hl,c1,c2,c3,true_or,L0,e]
theorem EL (x:Nat):∃n:Nat,1≤n/\n≤40/\cN [.int x]=some (.v (.int n)):=by
 have a1:=Int.emod_nonneg ((x:Int) / 8) (show (12:Int)≠0 by decide)
 have a2:=Int.emod_lt_of_pos ((x:Int) / 8) (show (0:Int)<12 by decide)
 have a3:=Int.emod_nonneg ((x:Int) / 8) (show (40:Int)≠0 by decide)
 have a4:=Int.emod_lt_of_pos ((x:Int) / 8) (show (0:Int)<40 by decide)
 by_cases h:(x:Int) % 8=3
 ·refine⟨(1+(x:Int) / 8 % 40).toNat,by omega,by omega,?_⟩
  simp![kB,gw,Rm,decide_eq_true h]
  rw[Int.toNat_of_nonneg (by omega)]
 ·refine⟨(1+(x:Int) / 8 % 12).toNat,by omega,by omega,?_⟩
  simp![kB,gw,Rm,decide_eq_false h]
  rw[Int.toNat_of_nonneg (by omega)]
end Dp
end
section
namespace Lo
open PySem PySem.Spec L2 Fo Pu Dp
noncomputable abbrev At:=Nat×List Nat×Addr
noncomputable def kv (t:At):jI×V:=(.inl (t.1:Int),.ref t.2.2)
noncomputable def nv (n:Nat):V:=.int (n:Int)
structure St (F H F1 H1:Hp)(d:Addr)(acc:List At):Prop where
 gr:Grow F H F1 H1
 d0:H d=none
 dF:F1 d=none
 dH:H1 d=some (.dK (acc.map kv))
 ls:∀t∈acc,H t.2.2=none/\F1 t.2.2=none/\H1 t.2.2=some (.lst (t.2.1.map nv))
 nd:(acc.map (·.2.2)).Nodup
 nk:(acc.map (·.1)).Nodup
end Lo
end
section
namespace Fo
open PySem L2
noncomputable def p9 (y:Str)(d k:Nat):Nat:=
 if y = "whole" then min k 1
 else if y = "splits" then (k+1) / 2
 else if y = "halves" then (if k=0 then 0 else if (d - k) % 2=0 then (k+1) / 2 else 1+k / 2)
 else if y = "one" then (if k=d/\1<d then d - 1 else k)
 else k
theorem s5 {y:Str}(hy:y∈manners):y = "none"\/y = "whole"\/y = "halves"\/y = "splits"\/y = "one":=by simpa [manners] using hy
theorem n1:(("halves" : Str) = "whole")=False:=eq_false (by decide)
theorem n2:(("halves" : Str) = "splits")=False:=eq_false (by decide)
theorem n3:(("splits" : Str) = "whole")=False:=eq_false (by decide)
theorem n4:(("one" : Str) = "whole")=False:=eq_false (by decide)
theorem n5:(("one" : Str) = "splits")=False:=eq_false (by decide)
theorem n6:(("one" : Str) = "halves")=False:=eq_false (by decide)
theorem n7:(("none" : Str) = "whole")=False:=eq_false (by decide)
theorem n8:(("none" : Str) = "splits")=False:=eq_false (by decide)
theorem n9:(("none" : Str) = "halves")=False:=eq_false (by decide)
theorem SC:(("none" : Str) = "one")=False:=eq_false (by decide)
theorem RT:(("splits" : Str) = "halves")=False:=eq_false (by decide)
theorem Sx:(("whole" : Str) = "halves")=False:=eq_false (by decide)
end Fo
end
section
namespace Dp
open PySem L2 Fo Pu Lo
theorem Aw {p:PV}{us:List Nat}(hp:p=.tup (nums us)\/p=.lst (nums us))(hm:us.length≤40)(hb:∀x,x<us.length->up us x<us.length){s1:Option Sl}{y:Nat}{l2:List Nat}(w:Way us y l2):∀(pre:List Nat),pre.length+l2.length≤us.length->y<us.length →
  ∀n,l2.length<n->cB eB gz n [some (.val p),s1,some (.own (nums (pre++[y])))]=.nx [some (.val p),s1,some (.own (nums (pre++l2)))]:=by
 induction w with
 | @head y e=>
  intro pre hl hy n hn
  obtain⟨n,rfl⟩:∃k,n=k+1:=⟨n - 1,by simp at hn;omega⟩
  rw[g9]
  rcases hp with rfl|rfl <;>
   simp![eB,Pu.jd,ai hy,e]
 | @step y l ne w ih=>
  intro pre hl hy n hn
  obtain⟨n,rfl⟩:∃k,n=k+1:=⟨n - 1,by simp at hn;omega⟩
  have ih:=ih (pre++[y]) (by simp at hl ⊢;omega) (hb y hy) n (by simp at hn;omega)
  rw[List.append_assoc,List.append_assoc] at ih
  have pos:=w.pos
  have hne:decide ((up us y:Int)=(y:Int))=false:=decide_eq_false (by omega)
  have hpl:(pre++[y]).length≤100000:=by simp at hl ⊢;omega
  have hle:decide (((pre++[y]).length:Int)≤(us.length:Int))=true:=decide_eq_true (by simp at hl ⊢;omega)
  rw[g9]
  rcases hp with rfl|rfl <;>
   (simp![eB,gz,Pu.jd,ai hy,hne,hle,hpl,mI,List.append_assoc];exact ih)
theorem wp {p:PV}{us:List Nat}(hp:p=.tup (nums us)\/p=.lst (nums us))(f:Frst us){x:Nat}(hx:x<us.length):aW [p,.int x]=some (.n (nums (way us x))):=by
 have hl:=nP f.fst hx
 have hm:=f.most
 have e:=Aw hp f.most f.fst.bnd (s1:=some (.val (.int x))) (aI f.fst hx) [] (by simpa using hl) hx 10000 (by omega)
 rw[List.nil_append,List.nil_append] at e
 have e':cB eB gz 10000 [some (.val p),some (.val (.int x)),some (.own [.int x])]=_:=e
 simp![tY,jv,e']
theorem jP {us:List Nat}(f:Frst us){x:Nat}(hx:x<us.length):L2.atI (nums (way us x)) (-1)=some (.int (hd us x:Nat)):=Pu.zh (aI f.fst hx).ne
end Dp
end
section
namespace Dp
open PySem L2 Fo Pu
end Dp
end
section
namespace Dp
open PySem L2 Fo Pu
noncomputable def gO (ρ:ak):Out:=(mJ 1 (fV 3) (ah bO (ah aN (fV 1) (fV 3)) (fC (.int 1)))) ρ
noncomputable def gW (ρ:ak):Out:=(jV (tz (ao aW (aa (fV 0) (aa (fV 2) ae)))) (gN 3) gO) ρ
noncomputable def ii (ρ:ak):Out:=(aq (je 1 (ah gB (gP (aa (fC (.int 0)) ae)) (fB gJ (aa (fV 0) ae))))
  (aq (jV (lX lF (aa (fB gJ (aa (fV 0) ae)) ae)) (gN 2) gW)
  (il 1))) ρ
noncomputable def ce:List PV->Option PR:=run 1 4 ii
theorem oj {a0:PV}:ce [a0]=(ii [some (.val a0),none,none,none]).res:=Eq.trans rfl rfl
noncomputable def fR (ρ:ak):Out:=(aq (bh 2 (ao al (aa (ao av (aa (fV 0) (aa (fV 1) ae))) (aa (fC (.int 6)) ae))))
  (aq (bh 3 (ao cN (aa (ah aN (fV 2) (fC (.int 0))) ae)))
  (aq (bh 4 (ah aN (gP (aa (fC (.str "size")) (aa (fC (.str "rank")) (aa (fC (.str "told")) (aa (fC (.str "names")) ae))))) (ah bn (ah aN (fV 2) (fC (.int 1))) (fC (.int 4)))))
  (aq (bh 5 (ah aN (gP (aa (fC (.str "none")) (aa (fC (.str "whole")) (aa (fC (.str "halves")) (aa (fC (.str "splits")) (aa (fC (.str "one")) ae)))))) (ah bn (ah aN (fV 2) (fC (.int 2))) (fC (.int 5)))))
  (bC (eA (aa (fV 3) (aa (fV 4) (aa (fV 5) ae))))))))) ρ
noncomputable def bq:List PV->Option PR:=run 2 6 fR
theorem mM {a0 a1:PV}:bq [a0,a1]=(fR [some (.val a0),some (.val a1),none,none,none,none]).res:=Eq.trans rfl rfl
noncomputable def hZ (ρ:ak):Out:=(i9 (kM (fT (ao eg (aa (fV 0) ae)))) bZ aK) ρ
noncomputable def cW:List PV->Option PR:=run 1 1 hZ
theorem oH {a0:PV}:cW [a0]=(hZ [some (.val a0)]).res:=Eq.trans rfl rfl
noncomputable def dr (ρ:ak):Out:=(bC (oZ (fB t8 (aa (fV 0) (aa (fC (.ty "str")) ae))) (wq (ah E4 (fV 0) (fC (.ktu [.str "size",.str "rank",.str "told",.str "names"])))))) ρ
noncomputable def aC:List PV->Option PR:=run 1 1 dr
theorem jG {a0:PV}:aC [a0]=(dr [some (.val a0)]).res:=Eq.trans rfl rfl
noncomputable def ij (ρ:ak):Out:=(i9 (kM (fT (ao aC (aa (fV 0) ae)))) bZ aK) ρ
noncomputable def db:List PV->Option PR:=run 1 1 ij
theorem pY {a0:PV}:db [a0]=(ij [some (.val a0)]).res:=Eq.trans rfl rfl
noncomputable def iN (ρ:ak):Out:=(aq (j0 (ao cW (aa (fV 0) ae)))
  (aq (j0 (ao db (aa (fV 1) ae)))
  (aq (j0 (ao bI (aa (fV 2) ae)))
  (aq (bh 3 (MX (fT (ah eD (fV 1) (fC (.str "size")))) (fC (.int 1)) (fC (.int 0))))
  (bC (eA (aa (fV 1) (aa (fV 2) (aa (fB pq (aa (fB xu (aa (fV 0) ae)) ae)) (aa (ah gB (eA (aa (fV 3) ae)) (fV 0)) ae)))))))))) ρ
noncomputable def cQ:List PV->Option PR:=run 3 4 iN
theorem qk {a0 a1 a2:PV}:cQ [a0,a1,a2]=(iN [some (.val a0),some (.val a1),some (.val a2),none]).res:=Eq.trans rfl rfl
noncomputable def dk (ρ:ak):Out:=(aq (bh 7 (Es (ao al (aa (ao av (aa (fV 0) (aa (ah bO (ah bO (fV 1) (fC (.int 1))) (ah jS (fV 6) (fC (.int 5)))) ae))) (aa (fC (.int 20)) ae))) (Gn (ah gB (fC (.int 4)) (ah bn (fV 6) (fC (.int 5))))) GF))
  (aq (nN 8 9 (aa (ah bn (ah aN (fV 7) (fC (.int 0))) (fV 2)) (aa (ah bn (ah aN (fV 7) (fC (.int 1))) (fV 2)) ae)))
  (aq (i9 (fT (ah eD (ah bn (ah aN (fV 4) (fC (.int 1))) (fC (.int 4))) (fC (.int 1)))) (nN 8 9 (aa (ah bn (fV 6) (fV 2)) (aa (ah bn (ah bO (fV 6) (fC (.int 1))) (fV 2)) ae))) aK)
  (aq (i9 (ip (fT (ah eD (ah bn (ah aN (fV 4) (fC (.int 1))) (fC (.int 4))) (fC (.int 2)))) (fT (ah A9 (ah bn (ah aN (fV 7) (fC (.int 2))) (fC (.int 3))) (fC (.int 0))))) (aq (bh 8 (ah bn (ah gB (ah jS (fV 8) (fC (.int 2))) (fC (.int 2))) (fV 2)))
  (bh 9 (fB om (aa (ah sr (fV 2) (fC (.int 1))) (aa (ah bO (fV 8) (fC (.int 1))) ae))))) aK)
  (aq (i9 (ip (fT (ah iW (fV 5) (gP ae))) (fT (ah eD (ah bn (ah aN (fV 7) (fC (.int 2))) (fC (.int 7))) (fC (.int 1))))) (iw (ah aN (fV 5) (ah bn (ah aN (fV 7) (fC (.int 3))) (fB gJ (aa (fV 5) ae)))) (mZ 2 (gC (gN 8) (gC (gN 9) g0)))) aK)
  (nB 5 (aa (ah aN (gP (aa (eA (aa (fV 8) (aa (fV 9) ae))) (aa (eA (aa (fV 9) (aa (fV 8) ae))) ae))) (ah bn (ah jS (ah aN (fV 7) (fC (.int 2))) (fC (.int 7))) (fC (.int 2)))) ae))))))) ρ
noncomputable def ir (ρ:ak):Out:=(aq (bh 4 (ao al (aa (ao av (aa (fV 0) (aa (fV 1) ae))) (aa (fC (.int 4)) ae))))
  (aq (je 5 (gP ae))
  (aq (jV (lX lF (aa (ah bn (ah aN (fV 4) (fC (.int 0))) (ah bO (fV 3) (fC (.int 1)))) ae)) (gN 6) dk)
  (bC (fB lj (aa (fV 5) ae)))))) ρ
noncomputable def b9:List PV->Option PR:=run 4 10 ir
theorem pF {a0 a1 a2 a3:PV}:b9 [a0,a1,a2,a3]=(ir [some (.val a0),some (.val a1),some (.val a2),some (.val a3),none,none,none,none,none,none]).res:=Eq.trans rfl rfl
noncomputable def bx (ρ:ak):Out:=(aq (bh 8 (ao al (aa (ao av (aa (fV 0) (aa (ah bO (ah bO (fV 1) (fC (.int 20))) (ah jS (fV 5) (fC (.int 10)))) ae))) (aa (fC (.int 10)) ae))))
  (nB 4 (aa (ah aN (gP (aa (eA (aa (fC (.str "join")) (aa (fV 6) (aa (fV 7) ae)))) (aa (eA (aa (fC (.str "join")) (aa (fV 6) (aa (fV 7) ae)))) (aa (eA (aa (fC (.str "find")) (aa (fV 6) ae))) ae)))) (ah bn (ah aN (fV 8) (ah bn (fV 5) (fC (.int 10)))) (fC (.int 3)))) ae))) ρ
noncomputable def io (ρ:ak):Out:=(aq (je 4 (gP ae))
  (aq (jV (oi (aa (ao b9 (aa (fV 0) (aa (fV 1) (aa (fV 2) (aa (fV 3) ae))))) ae)) (mZ 2 (gC (gN 5) (gC (mZ 2 (gC (gN 6) (gC (gN 7) g0))) g0))) bx)
  (bC (fB lj (aa (fV 4) ae))))) ρ
noncomputable def bD:List PV->Option PR:=run 4 9 io
theorem pT {a0 a1 a2 a3:PV}:bD [a0,a1,a2,a3]=(io [some (.val a0),some (.val a1),some (.val a2),some (.val a3),none,none,none,none,none]).res:=Eq.trans rfl rfl
noncomputable def iu (ρ:ak):Out:=(mJ 0 (fV 5) (fV 4)) ρ
noncomputable def aZ (ρ:ak):Option Bool:=(fT (ah iW (ah aN (fV 0) (fV 7)) (fV 7))) ρ
noncomputable def bP (ρ:ak):Out:=(aq (bh 8 (ah aN (fV 0) (fV 7)))
  (aq (mJ 0 (fV 7) (ah aN (fV 0) (fV 8)))
  (aq (bh 7 (ah aN (gP (aa (fV 8) (aa (ah aN (fV 0) (fV 7)) ae))) (fB uD (aa (ah eD (fV 1) (fC (.str "halves"))) ae))))
  (bh 6 (ah bO (fV 6) (fC (.int 1))))))) ρ
noncomputable def cw (ρ:ak):Out:=(aq (je 0 (fB iA (aa (fV 0) ae)))
  (aq (bh 3 (ao aW (aa (fV 0) (aa (fV 2) ae))))
  (aq (bh 4 (ah aN (fV 3) (mT (fC (.int 1)))))
  (aq (i9 (o4 (fT (ah eD (fV 1) (fC (.str "none")))) (o4 (fT (ah eD (fV 1) (fC (.str "whole")))) (fT (ah eD (fV 1) (fC (.str "one")))))) (aq (i9 (fT (ah eD (fV 1) (fC (.str "whole")))) (jV (tz (fV 3)) (gN 5) iu) aK)
  (aq (i9 (fT (ah eD (fV 1) (fC (.str "one")))) (mJ 0 (fV 2) (ah aN (fV 0) (ah aN (fV 0) (fV 2)))) aK)
  (bC (eA (aa (fV 4) (aa (fB lj (aa (fV 0) ae)) (aa (ah sr (fB gJ (aa (fV 3) ae)) (fC (.int 1))) ae))))))) aK)
  (aq (bh 6 (fC (.int 0)))
  (aq (bh 7 (fV 2))
  (aq (kZ aZ bP)
  (bC (eA (aa (fV 4) (aa (fB lj (aa (fV 0) ae)) (aa (fV 6) ae)))))))))))) ρ
noncomputable def b8:List PV->Option PR:=run 3 9 cw
theorem eF {a0 a1 a2:PV}:b8 [a0,a1,a2]=(cw [some (.val a0),some (.val a1),some (.val a2),none,none,none,none,none,none]).res:=Eq.trans rfl rfl
noncomputable def aE (ρ:ak):Out:=(aq (uP 1 2 (fB iA (aa (fV 1) ae)) (fB iA (aa (fV 2) ae)))
  (aq (nN 5 6 (aa (fV 3) (aa (fV 4) ae)))
  (aq (i9 (o4 (ip (fT (ah E4 (fV 0) (eA (aa (fC (.str "size")) (aa (fC (.str "rank")) ae))))) (fT (ah A9 (ah aN (fV 2) (fV 4)) (ah aN (fV 2) (fV 3))))) (ip (fT (ah eD (fV 0) (fC (.str "names")))) (fT (ah HU (fV 4) (fV 3))))) (nN 5 6 (aa (fV 4) (aa (fV 3) ae))) aK)
  (aq (mJ 1 (fV 6) (fV 5))
  (aq (i9 (fT (ah eD (fV 0) (fC (.str "size")))) (mJ 2 (fV 5) (ah bO (ah aN (fV 2) (fV 5)) (ah aN (fV 2) (fV 6)))) aK)
  (aq (i9 (ip (fT (ah eD (fV 0) (fC (.str "rank")))) (fT (ah eD (ah aN (fV 2) (fV 5)) (ah aN (fV 2) (fV 6))))) (mJ 2 (fV 5) (ah bO (ah aN (fV 2) (fV 5)) (fC (.int 1)))) aK)
  (bC (eA (aa (fB lj (aa (fV 1) ae)) (aa (fB lj (aa (fV 2) ae)) ae)))))))))) ρ
noncomputable def bH:List PV->Option PR:=run 5 7 aE
theorem bg {a0 a1 a2 a3 a4:PV}:bH [a0,a1,a2,a3,a4]=(aE [some (.val a0),some (.val a1),some (.val a2),some (.val a3),some (.val a4),none,none]).res:=Eq.trans rfl rfl
noncomputable def eE (ρ:ak):Out:=(aq (iw (fV 0) (mZ 4 (gC (gN 2) (gC (gN 3) (gC (gN 4) (gC (gN 5) g0))))))
  (aq (iw (ao b8 (aa (fV 4) (aa (fV 3) (aa (ah aN (fV 1) (fC (.int 1))) ae)))) (mZ 3 (gC (gN 6) (gC (gN 4) (gC (gN 7) g0)))))
  (aq (i9 (fT (ah eD (ah aN (fV 1) (fC (.int 0))) (fC (.str "find")))) (bC (eA (aa (eA (aa (fV 2) (aa (fV 3) (aa (fV 4) (aa (fV 5) ae))))) (aa (fV 6) (aa (fV 7) ae))))) aK)
  (aq (iw (ao b8 (aa (fV 4) (aa (fV 3) (aa (ah aN (fV 1) (fC (.int 2))) ae)))) (mZ 3 (gC (gN 8) (gC (gN 4) (gC (gN 9) g0)))))
  (aq (i9 (fT (ah iW (fV 6) (fV 8))) (iw (ao bH (aa (fV 2) (aa (fV 4) (aa (fV 5) (aa (fV 6) (aa (fV 8) ae)))))) (mZ 2 (gC (gN 4) (gC (gN 5) g0)))) aK)
  (bC (eA (aa (eA (aa (fV 2) (aa (fV 3) (aa (fV 4) (aa (fV 5) ae))))) (aa (ah iW (fV 6) (fV 8)) (aa (ah bO (fV 7) (fV 9)) ae)))))))))) ρ
noncomputable def cb:List PV->Option PR:=run 2 10 eE
theorem iJ {a0 a1:PV}:cb [a0,a1]=(eE [some (.val a0),some (.val a1),none,none,none,none,none,none,none,none]).res:=Eq.trans rfl rfl
noncomputable def kT (ρ:ak):Out:=(bC (fB lj (aa (fB iA (aa (fV 0) ae)) ae))) ρ
noncomputable def gK:List PV->Option PR:=run 1 1 kT
theorem wB {a0:PV}:gK [a0]=(kT [some (.val a0)]).res:=Eq.trans rfl rfl
noncomputable def iK (ρ:ak):Out:=(aq (iw (fV 0) (mZ 4 (gC (gN 2) (gC (gN 3) (gC (gN 4) (gC (gN 5) g0))))))
  (aq (iw (ao fj (aa (fV 4) (aa (fV 3) (aa (fV 1) ae)))) (mZ 3 (gC (gN 6) (gC (gN 7) (gC (gN 8) g0)))))
  (bC (eA (aa (eA (aa (fV 2) (aa (fV 3) (aa (fV 7) (aa (ao gK (aa (fV 5) ae)) ae))))) (aa (fV 6) (aa (fV 8) ae))))))) ρ
noncomputable def bd:List PV->Option PR:=run 2 9 iK
theorem qr {a0 a1:PV}:bd [a0,a1]=(iK [some (.val a0),some (.val a1),none,none,none,none,none,none,none]).res:=Eq.trans rfl rfl
noncomputable def b6 (ρ:ak):Out:=(aq (i9 (fT (ah eD (fV 0) (fC (.str "told")))) (bC (fC (.bl true))) aK)
  (aq (i9 (fT (ah eD (fV 0) (fC (.str "names")))) (bC (ah HU (fV 2) (fV 3))) aK)
  (bC (ah Nh (ah aN (fV 1) (fV 2)) (ah aN (fV 1) (fV 3)))))) ρ
noncomputable def bG:List PV->Option PR:=run 4 4 b6
theorem eH {a0 a1 a2 a3:PV}:bG [a0,a1,a2,a3]=(b6 [some (.val a0),some (.val a1),some (.val a2),some (.val a3)]).res:=Eq.trans rfl rfl
noncomputable def bz (ρ:ak):Out:=(aq (i9 (fT (ah eD (fV 0) (fC (.str "size")))) (bC (ah bO (fV 1) (fV 2))) aK)
  (aq (i9 (ip (fT (ah eD (fV 0) (fC (.str "rank")))) (fT (ah eD (fV 1) (fV 2)))) (bC (ah bO (fV 1) (fC (.int 1)))) aK)
  (il 1))) ρ
noncomputable def bF:List PV->Option PR:=run 3 3 bz
theorem dh {a0 a1 a2:PV}:bF [a0,a1,a2]=(bz [some (.val a0),some (.val a1),some (.val a2)]).res:=Eq.trans rfl rfl
noncomputable def bW (ρ:ak):Out:=(aq (iw (fV 0) (mZ 4 (gC (gN 3) (gC (gN 4) (gC (gN 5) (gC (gN 6) g0))))))
  (aq (bh 7 (ao bG (aa (fV 3) (aa (fV 6) (aa (fV 1) (aa (fV 2) ae))))))
  (aq (iw (MX (fT (fV 7)) (eA (aa (fV 1) (aa (fV 2) ae))) (eA (aa (fV 2) (aa (fV 1) ae)))) (mZ 2 (gC (gN 8) (gC (gN 9) g0))))
  (aq (je 10 (fB iA (aa (fV 5) ae)))
  (aq (mJ 10 (fV 9) (fV 8))
  (aq (je 11 (fB iA (aa (fV 6) ae)))
  (aq (mJ 11 (fV 8) (ao bF (aa (fV 3) (aa (ah aN (fV 6) (fV 8)) (aa (ah aN (fV 6) (fV 9)) ae)))))
  (bC (eA (aa (fV 3) (aa (fV 4) (aa (fB lj (aa (fV 10) ae)) (aa (fB lj (aa (fV 11) ae)) ae))))))))))))) ρ
noncomputable def aB:List PV->Option PR:=run 3 12 bW
theorem fQ {a0 a1 a2:PV}:aB [a0,a1,a2]=(bW [some (.val a0),some (.val a1),some (.val a2),none,none,none,none,none,none,none,none,none]).res:=Eq.trans rfl rfl
noncomputable def gu (ρ:ak):Out:=(aq (iw (ao bd (aa (fV 0) (aa (fV 1) ae))) (mZ 3 (gC (gN 3) (gC (gN 4) (gC (gN 5) g0)))))
  (aq (iw (ao bd (aa (fV 3) (aa (fV 2) ae))) (mZ 3 (gC (gN 6) (gC (gN 7) (gC (gN 8) g0)))))
  (aq (bh 9 (ah bO (fV 5) (fV 8)))
  (aq (i9 (fT (ah eD (fV 4) (fV 7))) (bC (eA (aa (fV 6) (aa (fC (.bl false)) (aa (fV 9) ae))))) aK)
  (bC (eA (aa (ao aB (aa (fV 6) (aa (fV 4) (aa (fV 7) ae)))) (aa (fC (.bl true)) (aa (fV 9) ae))))))))) ρ
noncomputable def cO:List PV->Option PR:=run 3 10 gu
theorem kC {a0 a1 a2:PV}:cO [a0,a1,a2]=(gu [some (.val a0),some (.val a1),some (.val a2),none,none,none,none,none,none,none]).res:=Eq.trans rfl rfl
noncomputable def gx (ρ:ak):Out:=(aq (i9 (fT (ah eD (ah aN (fV 1) (fC (.int 0))) (fC (.str "find")))) (bC (ao bd (aa (fV 0) (aa (ah aN (fV 1) (fC (.int 1))) ae)))) aK)
  (bC (ao cO (aa (fV 0) (aa (ah aN (fV 1) (fC (.int 1))) (aa (ah aN (fV 1) (fC (.int 2))) ae)))))) ρ
noncomputable def cP:List PV->Option PR:=run 2 2 gx
theorem kD {a0 a1:PV}:cP [a0,a1]=(gx [some (.val a0),some (.val a1)]).res:=Eq.trans rfl rfl
noncomputable def cT (ρ:ak):Option RV:=(ao dN (aa (fV 1) (aa (fV 0) ae))) ρ
noncomputable def iG (ρ:ak):Out:=(aq (i9 (o4 (kM (fT (fB t8 (aa (fV 1) (aa (fC (.ty "tuple")) ae))))) (fT (ah eD (fB gJ (aa (fV 1) ae)) (fC (.int 0))))) (bC (fC (.bl false))) aK)
  (aq (bh 2 (ah aN (fV 1) (fC (.int 0))))
  (aq (i9 (o4 (kM (fT (fB t8 (aa (fV 2) (aa (fC (.ty "str")) ae))))) (fT (ah iW (iH [("find",2),("join",3)] (fV 2)) (fB gJ (aa (fV 1) ae))))) (bC (fC (.bl false))) aK)
  (bC (fB DG (aa (gH [none,some 0] (tz (Es (fV 1) (Gn (fC (.int 1))) GF)) (gN 0) jA cT) ae)))))) ρ
noncomputable def fo:List PV->Option PR:=run 2 3 iG
theorem nb {a0 a1:PV}:fo [a0,a1]=(iG [some (.val a0),some (.val a1),none]).res:=Eq.trans rfl rfl
noncomputable def pK (ρ:ak):Out:=(aq (i9 (kM (fT (ao fo (aa (fB gJ (aa (ah aN (fV 0) (fC (.int 2))) ae)) (aa (fV 1) ae))))) bZ aK)
  (bC (ao cP (aa (fV 0) (aa (fV 1) ae))))) ρ
noncomputable def jr:List PV->Option PR:=run 2 2 pK
theorem DT {a0 a1:PV}:jr [a0,a1]=(pK [some (.val a0),some (.val a1)]).res:=Eq.trans rfl rfl
end Dp
end
section
namespace Pt
open L2 Fo
noncomputable def cl (n:Nat)(c:Nat->Nat)(x:Nat):List Nat:=(List.range n).filter fun y=>decide (c y=c x)
theorem mem_cl {n:Nat}{c:Nat->Nat}{x y:Nat}:y∈cl n c x↔y<n/\c y=c x:=by
 unfold cl;rw[List.mem_filter,List.mem_range,decide_eq_true_eq]
theorem oW {n:Nat}{c c':Nat->Nat}{x x':Nat}(h:∀y,y<n->(c y=c x↔c' y=c' x')):cl n c x=cl n c' x':=
 List.filter_congr fun y hy=>by rw[decide_eq_decide];exact h y (List.mem_range.mp hy)
theorem CV {n:Nat}{c:Nat->Nat}{x y:Nat}(hx:x<n):cl n c x=cl n c y↔c x=c y:=by
 constructor
 ·intro e
  exact (mem_cl.mp (e▸mem_cl.mpr ⟨hx,rfl⟩)).2
 ·intro e;exact oW fun z _=>by rw[e]
theorem Je (n:Nat)(c:Nat->Nat)(x:Nat):(cl n c x).length≤n:=by
 have:=List.length_filter_le (fun y=>decide (c y=c x)) (List.range n)
 rwa [List.length_range] at this
end Pt
end
section
namespace Dp
open PySem L2 Fo Pu Lo Pt
theorem d8 (l:List Nat):(nums l).length=l.length:=List.length_map ..
theorem uZ (l m:List Nat):nums l++nums m=nums (l++m):=by unfold nums;rw[List.map_append]
noncomputable def AL (acc l:List Nat):List Nat:=l.foldl (fun a t=>a.set t (up a t+1)) acc
noncomputable def sz (us:List Nat):List Nat:=(List.range us.length).foldl (fun acc x=>AL acc (way us x)) (List.replicate us.length 0)
theorem nO:∀(l acc:List Nat),(AL acc l).length=acc.length
 |[],_=>rfl
 |t::l,acc=>by
  show (AL (acc.set t (up acc t+1)) l).length=_
  rw[nO l,List.length_set]
theorem Bk {n:Nat}{b:FS}{s0 z2:Option Sl}(hb:∀(acc:List Nat) (t:Nat),t<acc.length->b [s0,some (.own (nums acc)),z2,some (.val (.int t))]=.nx [s0,some (.own (nums (acc.set t (up acc t+1)))),z2,some (.val (.int t))]) :
  ∀(l acc:List Nat) (z3:Option Sl),(∀t∈l,t<n)->acc.length=n->∃z3',df (gN 3) b (nums l) [s0,some (.own (nums acc)),z2,z3]=.nx [s0,some (.own (nums (AL acc l))),z2,z3']
 |[],acc,z3,_,_=>⟨z3,rfl⟩
 |t::l,acc,z3,hl,ha=>by
  obtain⟨z3',e⟩:=Bk hb l (acc.set t (up acc t+1)) (some (.val (.int t))) (fun u hu=>hl u (List.mem_cons_of_mem _ hu)) (by rw[List.length_set];exact ha)
  refine⟨z3',?_⟩
  show _=Out.nx [s0,some (.own (nums (AL (acc.set t (up acc t+1)) l))),z2,z3']
  rw[←e,dl,iz]
  have:=hb acc t (by rw[ha];exact hl t List.mem_cons_self)
  simp![this]
theorem wn {us:List Nat}(f:Frst us){b2:FS}{s0:Option Sl}(hb:∀(acc:List Nat) (x:Nat) (z3:Option Sl),x<us.length->acc.length=us.length->∃z3',b2 [s0,some (.own (nums acc)),some (.val (.int x)),z3]=.nx [s0,some (.own (nums (AL acc (way us x)))),some (.val (.int x)),z3']) :
  ∀(xs acc:List Nat) (z2 z3:Option Sl),(∀t∈xs,t<us.length)->acc.length=us.length->∃z2' z3',df (gN 2) b2 (nums xs) [s0,some (.own (nums acc)),z2,z3]=.nx [s0,some (.own (nums (xs.foldl (fun acc x=>AL acc (way us x)) acc))),z2',z3']
 |[],acc,z2,z3,_,_=>⟨z2,z3,rfl⟩
 |x::xs,acc,z2,z3,hl,ha=>by
  obtain⟨w3,e1⟩:=hb acc x z3 (hl x List.mem_cons_self) ha
  obtain⟨z2',z3',e⟩:=wn f hb xs (AL acc (way us x)) (some (.val (.int x))) w3 (fun u hu=>hl u (List.mem_cons_of_mem _ hu)) (by rw[nO];exact ha)
  refine⟨z2',z3',?_⟩
  rw[List.foldl_cons,←e,dl,iz]
  simp![e1]
theorem Ii:∀n:Nat,(List.replicate n [PV.int 0]).flatten=nums (List.replicate n 0)
 |0=>rfl
 |n+1=>by rw[List.replicate_succ,List.flatten_cons,Ii n];rfl
theorem N5 {n:Nat}(h:n≤1000):gB (.lst [.int 0]) (.int n)=some (.nw (nums (List.replicate n 0))):=by
 show (if ((n:Int)≤1000/\-1000≤(n:Int)/\[PV.int 0].length≤100) then some (RV.nw (List.replicate (n:Int).toNat [PV.int 0]).flatten) else none)=_
 rw[if_pos ⟨by omega,by omega,by decide⟩,Int.toNat_natCast,Ii]
theorem pQ (us:List Nat)(i v:Nat):(nums us).set i (PV.int ((v:Int)+1))=nums (us.set i (v+1)):=lY us i (v+1)
theorem G9 {acc:List Nat}{t:Nat}(ht:t<acc.length):(nums acc)[t]?=some (.int (up acc t:Nat)):=by
 unfold nums up
 rw[List.getElem?_map,List.getElem?_eq_getElem ht]
 simp[ht,nI]
theorem Fy {us:List Nat}(f:Frst us):dJ [.tup (nums us)]=some (.n (nums (sz us))):=by
 have hm:=f.most
 obtain⟨z2,z3,e⟩:=wn f (b2:=iP) (s0:=some (.val (.tup (nums us)))) (fun acc x z3 hx ha=>by
  obtain⟨z3',e⟩:=Bk (n:=us.length) (b:=iO) (s0:=some (.val (.tup (nums us)))) (z2:=some (.val (.int x))) (fun acc t ht=>by
   have hz:(0:Int)≤(t:Int):=by omega
   simp![iO,hz,G9 ht,ai ht,aG ht,pQ,Int.toNat_natCast]) (way us x) acc z3 (fun t ht=>dE f.fst hx ht) ha
  refine⟨z3',?_⟩
  simp![iP,Cw (.inl rfl) f hx,e]) (List.range us.length) (List.replicate us.length 0) none none (fun t ht=>List.mem_range.mp ht) (List.length_replicate ..)
 simp![rV,jE,N5 (show us.length≤1000 by omega),K1 (show us.length≤100000 by omega),e]
 rfl
theorem Bt {us:List Nat}(f:Frst us):ce [.tup (nums us)]=some (.n (nums (sz us))):=by
 have hm:=f.most
 obtain⟨z2,z3,e⟩:=wn f (b2:=gW) (s0:=some (.val (.tup (nums us)))) (fun acc x z3 hx ha=>by
  obtain⟨z3',e⟩:=Bk (n:=us.length) (b:=gO) (s0:=some (.val (.tup (nums us)))) (z2:=some (.val (.int x))) (fun acc t ht=>by
   simp![gO,ai ht,aG ht,pQ]) (way us x) acc z3 (fun t ht=>dE f.fst hx ht) ha
  refine⟨z3',?_⟩
  simp![gW,wp (.inl rfl) f hx,e]) (List.range us.length) (List.replicate us.length 0) none none (fun t ht=>List.mem_range.mp ht) (List.length_replicate ..)
 simp![oj,ii,N5 (show us.length≤1000 by omega),K1 (show us.length≤100000 by omega),e]
 rfl
theorem wC {us:List Nat}:(sz us).length=us.length:=by
 have:∀(xs acc:List Nat),(xs.foldl (fun acc x=>AL acc (way us x)) acc).length=acc.length:=fun xs=>by
  induction xs with
  |nil=>intro acc;rfl
  |cons x xs ih=>intro acc;rw[List.foldl_cons,ih,nO]
 unfold sz;rw[this,List.length_replicate]
theorem ic {us:List Nat}(f:Frst us){x:Nat}(hx:x<us.length):bw [.tup (nums us),.int x]=some (.v (.tup (nums (cl us.length (hd us) x)))):=by
 have hm:=f.most
 have e:=rQ (t:=gN 0) (c:=iR) (f:=iY) (ρ:=[none,some (.val (.tup (nums us))),some (.val (.int (hd us x:Nat)))]) (fun p=>match p with|.int i=>decide (hd us i.toNat=hd us x)|_=>false) id (its:=nums (List.range us.length)) (fun p hp=>by
  obtain⟨y,hy,rfl⟩:=pI hp
  have hy:=List.mem_range.mp hy
  refine⟨_,rfl,?_,fun _=>?_⟩
  ·have d:decide ((hd us y:Int)=(hd us x:Int))=decide (hd us y=hd us x):=decide_eq_decide.mpr (by omega)
   simp![iR,Cw (.inl rfl) f hy,jP f hy,d,Int.toNat_natCast]
  ·simp![iY,id])
 have e2:(nums (List.range us.length)).filter (fun p=>match p with|.int i=>decide (hd us i.toNat=hd us x)|_=>false)=nums (cl us.length (hd us) x):=by
  unfold nums cl
  rw[List.filter_map];rfl
 rw[List.map_id,e2] at e
 have hn:us.length<1000:=by omega
 simp![tq,jD,Cw (.inl rfl) f hx,jP f hx,K1 (show us.length≤100000 by omega),List.length_range,hn,e]
end Dp
end
section
namespace Fo
open PySem L2
theorem uL {l:List Nat}{n:Nat}(nd:l.Nodup)(h:∀x∈l,x<n):l.length≤n:=by
 have p:l.Perm ((List.range n).filter fun x=>decide (x∈l)):=(List.perm_ext_iff_of_nodup nd (List.nodup_range.filter _)).mpr fun x=>by
  rw[List.mem_filter,List.mem_range,decide_eq_true_eq]
  exact⟨fun q=>⟨h x q,q⟩,fun q=>q.2⟩
 rw[p.length_eq]
 have:=List.length_filter_le (fun x=>decide (x∈l)) (List.range n)
 rwa [List.length_range] at this
theorem ot {us:List Nat}(f:Fst us){x t:Nat}(hx:x<us.length)(h:t∈way us x):hd us t=hd us x:=by
 obtain⟨l2,w2,e,_,_⟩:=(aI f hx).later t h
 have:=fG f (dE f hx h) w2
 unfold hd
 rw[this,e]
end Fo
end
section
namespace Fo
open PySem L2
theorem rG {us:List Nat}(f:Frst us){u t:Nat}(hu:u<us.length)(ht:t<us.length)(eu:up us u=u)(et:up us t=t)(ne:t≠u):Frst (us.set u t):=by
 have hl:(us.set u t).length=us.length:=List.length_set
 refine⟨by rw[hl];exact f.one,by rw[hl];exact f.most,⟨fun x hx=>?_,fun x=>if hd us x=u then dp us x+1 else dp us x,fun x hx=>?_,fun x hx hn=>?_⟩⟩
 ·rw[hl] at hx ⊢
  rw[aT hu]
  split
  ·exact ht
  ·exact f.fst.bnd x hx
 ·rw[hl] at hx ⊢
  have h1:=nP f.fst hx
  have h2:=(aI f.fst hx).pos
  show (if hd us x=u then dp us x+1 else dp us x)<us.length
  unfold dp
  split
  ·next e=>
   have nm:t∉way us x:=fun q=>ne (by rw[←gy f.fst ht et,ot f.fst hx q,e])
   have:(t::way us x).length≤us.length:=uL (List.nodup_cons.mpr ⟨nm,(aI f.fst hx).nodup f.fst hx⟩) fun z hz=>by
    rcases List.mem_cons.mp hz with rfl|hz
    ·exact ht
    ·exact dE f.fst hx hz
   rw[List.length_cons] at this
   omega
  ·omega
 ·rw[hl] at hx
  rw[aT hu] at hn ⊢
  show (if hd us (if x=u then t else up us x)=u then _ else _)<(if hd us x=u then dp us x+1 else dp us x)
  by_cases e:x=u
  ·subst e
   rw[if_pos rfl,gy f.fst ht et,if_neg ne,gy f.fst hx eu,if_pos rfl]
   have:dp us t=0:=by unfold dp;rw[lL f.fst ht et];rfl
   omega
  ·rw[if_neg e] at hn ⊢
   rw[NH f.fst hx]
   have:dp us (up us x)+1=dp us x:=by
    have h2:=(aI f.fst (f.fst.bnd x hx)).pos
    unfold dp
    rw[uC f.fst hx hn,List.length_cons]
    omega
   split<;>omega
end Fo
namespace Dp
open PySem L2 Fo Pu
theorem i8:∀l:List Nat,HX (nums l)=true
 |[]=>rfl
 |x::l=>by rw[dl,HX,i8 l];rfl
theorem oI {s1 s2 s3 s6 s7 s8:Option Sl}{n h:Nat}:∀(l us:List Nat) (z5:Option Sl),us.length=n->(∀t∈l,t<n)->∃z5',df (gN 5) iu (nums l) [some (.own (nums us)),s1,s2,s3,some (.val (.int h)),z5,s6,s7,s8]=.nx [some (.own (nums (iX us l h))),s1,s2,s3,some (.val (.int h)),z5',s6,s7,s8]
 |[],us,z5,_,_=>⟨z5,rfl⟩
 |t::l,us,z5,hn,hl=>by
  obtain⟨z5',e⟩:=oI (s1:=s1) (s2:=s2) (s3:=s3) (s6:=s6) (s7:=s7) (s8:=s8) (h:=h) l (us.set t h) (some (.val (.int t))) (by rw[List.length_set];exact hn) fun u hu=>hl u (List.mem_cons_of_mem _ hu)
  refine⟨z5',?_⟩
  have ht:t<us.length:=by rw[hn];exact hl t List.mem_cons_self
  show _=Out.nx [some (.own (nums (iX (us.set t h) l h))),s1,s2,s3,some (.val (.int h)),z5',s6,s7,s8]
  rw[←e,dl,iz]
  simp![iu,aG ht,bu]
theorem Am {s2 s3 s4 s5:Option Sl}{us us':List Nat}{x h n:Nat}(r:Halv us x h us' n):∀(k:Nat) (z8:Option Sl) (fuel:Nat),(∀z,z<us.length->up us z<us.length)->x<us.length->n<fuel →
  ∃z8',cB aZ bP fuel [some (.own (nums us)),some (.val (.str "halves")),s2,s3,s4,s5,some (.val (.int k)),some (.val (.int x)),z8]=.nx [some (.own (nums us')),some (.val (.str "halves")),s2,s3,s4,s5,some (.val (.int (k+n:Nat))),some (.val (.int h)),z8']:=by
 induction r with
 | @stop us x e=>
  intro k z8 fuel hb hx hf
  obtain⟨fuel,rfl⟩:∃g,fuel=g+1:=⟨fuel - 1,by omega⟩
  refine⟨z8,?_⟩
  rw[g9]
  simp![aZ,ai hx,e,Nat.add_zero]
 | @step us x h n us' ne r ih=>
  intro k z8 fuel hb hx hf
  obtain⟨fuel,rfl⟩:∃g,fuel=g+1:=⟨fuel - 1,by omega⟩
  have h1:=hb x hx
  have h2:=hb _ h1
  obtain⟨z8',e⟩:=ih (k+1) (some (.val (.int (up us x:Nat)))) fuel (fun z hz=>by
   rw[List.length_set] at hz ⊢
   rw[aT hx]
   split
   ·exact h2
   ·exact hb z hz) (by rw[List.length_set];exact h2) (by omega)
  refine⟨z8',?_⟩
  have d:decide ((up us x:Int)=(x:Int))=false:=decide_eq_false (by omega)
  have hx':x<(us.set x (up us (up us x))).length:=by rw[List.length_set];exact hx
  have e3:up (us.set x (up us (up us x))) x=up us (up us x):=by rw[aT hx,if_pos rfl]
  rw[g9,show k+(n+1)=k+1+n by omega,←e]
  simp![aZ,bP,LH,ai hx,ai h1,d,aG hx,bu,ai hx',e3]
  rfl
theorem zm {s2 s3 s4 s5:Option Sl}{us us':List Nat}{x h n:Nat}(r:Splt us x h us' n):∀(k:Nat) (z8:Option Sl) (fuel:Nat),(∀z,z<us.length->up us z<us.length)->x<us.length->n<fuel →
  ∃z8',cB aZ bP fuel [some (.own (nums us)),some (.val (.str "splits")),s2,s3,s4,s5,some (.val (.int k)),some (.val (.int x)),z8]=.nx [some (.own (nums us')),some (.val (.str "splits")),s2,s3,s4,s5,some (.val (.int (k+n:Nat))),some (.val (.int h)),z8']:=by
 induction r with
 | @stop us x e=>
  intro k z8 fuel hb hx hf
  obtain⟨fuel,rfl⟩:∃g,fuel=g+1:=⟨fuel - 1,by omega⟩
  refine⟨z8,?_⟩
  rw[g9]
  simp![aZ,ai hx,e,Nat.add_zero]
 | @step us x h n us' ne r ih=>
  intro k z8 fuel hb hx hf
  obtain⟨fuel,rfl⟩:∃g,fuel=g+1:=⟨fuel - 1,by omega⟩
  have h1:=hb x hx
  have h2:=hb _ h1
  obtain⟨z8',e⟩:=ih (k+1) (some (.val (.int (up us x:Nat)))) fuel (fun z hz=>by
   rw[List.length_set] at hz ⊢
   rw[aT hx]
   split
   ·exact h2
   ·exact hb z hz) (by rw[List.length_set];exact h1) (by omega)
  refine⟨z8',?_⟩
  have d:decide ((up us x:Int)=(x:Int))=false:=decide_eq_false (by omega)
  have hx':x<(us.set x (up us (up us x))).length:=by rw[List.length_set];exact hx
  have e3:up (us.set x (up us (up us x))) x=up us (up us x):=by rw[aT hx,if_pos rfl]
  rw[g9,show k+(n+1)=k+1+n by omega,←e]
  simp![aZ,bP,LH,ai hx,ai h1,d,aG hx,bu,ai hx',e3]
  rfl
theorem t5 {us:List Nat}(f:Frst us){y:Str}(hy:y∈manners){x:Nat}(hx:x<us.length):b8 [.tup (nums us),.str y,.int x]=some (.v (.tup [.int (hd us x:Nat),.tup (nums (b0 y us x)),.int (jJ y us x:Nat)])):=by
 have w:=aI f.fst hx
 have nd:=w.nodup f.fst hx
 have lt:=w.lt f.fst.bnd hx
 have pos:=w.pos
 have hl:=nP f.fst hx
 have hm:=f.most
 have hd1:((way us x).length:Int) - 1=(dp us x:Nat):=by unfold dp;omega
 have lw:=wp (p:=.lst (nums us)) (.inr rfl) f hx
 have h1:=f.fst.bnd x hx
 rcases s5 hy with rfl|rfl|rfl|rfl|rfl
 ·have e:b0 "none" us x=us:=(gU rfl fun t ht=>by simp only[m8,n7,n8,n9,SC,if_false]).symm
  have es:jJ "none" us x=dp us x:=by simp only[jJ,n9,if_false]
  simp![eF,cw,LH,lw,i8,jP f hx,hd1,e,es]
 ·obtain⟨z5,el⟩:=oI (s1:=some (.val (.str "whole"))) (s2:=some (.val (.int x))) (s3:=some (.val (.lst (nums (way us x))))) (s6:=none) (s7:=none) (s8:=none) (h:=hd us x) (way us x) us none rfl lt
  have e:iX us (way us x) (hd us x)=b0 "whole" us x:=gU (xj ..) fun t ht=>by rw[Ae lt];simp only[m8,if_true]
  have es:jJ "whole" us x=dp us x:=by simp only[jJ,Sx,if_false]
  rw[e] at el
  simp![eF,cw,LH,lw,i8,jP f hx,hd1,el,es]
 ·obtain⟨us',r,g1,g2⟩:=tW _ w nd lt
  have e:us'=b0 "halves" us x:=gU g1 fun t ht=>by rw[g2];simp only[m8,n1,if_true,if_false]
  have es:jJ "halves" us x=(way us x).length / 2:=by simp only[jJ,if_true]
  obtain⟨z8,el⟩:=Am (s2:=some (.val (.int x))) (s3:=some (.val (.lst (nums (way us x))))) (s4:=some (.val (.int (hd us x:Nat)))) (s5:=none) r 0 none 10000 f.fst.bnd hx (by omega)
  rw[Nat.zero_add,e,←es] at el
  have el:cB aZ bP 10000 [some (.own (nums us)),some (.val (.str "halves")),some (.val (.int x)),some (.val (.lst (nums (way us x)))),some (.val (.int (hd us x:Nat))),none,some (.val (.int 0)),some (.val (.int x)),none]=_:=el
  simp![eF,cw,LH,lw,i8,jP f hx,hd1,el]
 ·obtain⟨us',r,g1,g2⟩:=yC w nd lt
  have e:us'=b0 "splits" us x:=gU g1 fun t ht=>by rw[g2];simp only[m8,n3,RT,if_true,if_false]
  have es:jJ "splits" us x=(way us x).length - 1:=by simp only[jJ,RT,if_false,dp]
  obtain⟨z8,el⟩:=zm (s2:=some (.val (.int x))) (s3:=some (.val (.lst (nums (way us x))))) (s4:=some (.val (.int (hd us x:Nat)))) (s5:=none) r 0 none 10000 f.fst.bnd hx (by omega)
  rw[Nat.zero_add,e,←es] at el
  have el:cB aZ bP 10000 [some (.own (nums us)),some (.val (.str "splits")),some (.val (.int x)),some (.val (.lst (nums (way us x)))),some (.val (.int (hd us x:Nat))),none,some (.val (.int 0)),some (.val (.int x)),none]=_:=el
  simp![eF,cw,LH,lw,i8,jP f hx,hd1,el]
 ·have e:us.set x (up us (up us x))=b0 "one" us x:=gU (List.length_set) fun t ht=>by
   rw[aT hx]
   simp only[m8,n4,n5,n6,if_true,if_false]
   by_cases q:t=x
   ·rw[if_pos q,if_pos q,q]
   ·rw[if_neg q,if_neg q]
  have es:jJ "one" us x=dp us x:=by simp only[jJ,n6,if_false]
  simp![eF,cw,LH,lw,i8,jP f hx,hd1,ai hx,ai h1,aG hx,bu,e,es]
theorem Js {x:PV}{ps:List PV}:E4 x (.ktu ps)=if plain x&&aw ps&&decide (ck ps≤50) then some (.fz (.bl (pin x ps))) else none:=Eq.trans rfl rfl
theorem J7 {lo j:Int}:pq [.rng lo j]=if lo=0/\0≤j/\j≤1000000 then some (.fz (.tup (qJ 0 j.toNat))) else none:=Eq.trans rfl rfl
noncomputable def HM (a b:Option RV)(i j:Nat)(ρ:ak):Out:=match a,b with
 |some (.nw ps),some (.nw qs)=>.nx ((ρ.set i (some (.own ps))).set j (some (.own qs)))
 |_,_=>.bad
theorem jZ {i j:Nat}{f g:FE}{ρ:ak}:uP i j f g ρ=HM (f ρ) (g ρ) i j ρ:=Eq.trans rfl rfl
theorem gG {i j:Nat}{ps qs:List PV}{ρ:ak}:HM (some (.nw ps)) (some (.nw qs)) i j ρ=.nx ((ρ.set i (some (.own ps))).set j (some (.own qs))):=Eq.trans rfl rfl
theorem uK {kvs:List (Str×Int)}{f:FE}{ρ:ak}:iH kvs f ρ=oa kvs ((f ρ).bind RV.fr):=Eq.trans rfl rfl
theorem o9 {kvs:List (Str×Int)}{n:Str}:oa kvs (some (.str n))=some (.fz ((iT kvs n).elim .non .int)):=Eq.trans rfl rfl
noncomputable def jws:List Str:=["size","rank","told","names"]
theorem j4 {j:Str}(h:j∈jws):j = "size"\/j = "rank"\/j = "told"\/j = "names":=by
 simpa [jws] using h
noncomputable def hJ (j y:Str)(us ms:List Nat):PV:=.tup [.str j,.str y,.tup (nums us),.tup (nums ms)]
noncomputable def PY (j:Str):Nat:=if j = "size" then 1 else 0
theorem Fk {n:Nat}(h1:1≤n)(h2:n≤40):eg [.int n]=some (.v (.bl true)):=Kh (by omega) (by omega)
theorem rD (us:List Nat)(i v w:Nat):(nums us).set i (PV.int ((v:Int)+(w:Int)))=nums (us.set i (v+w)):=lY us i (v+w)
theorem zL (us:List Nat)(i v:Nat):(nums us).set i (PV.int ((v:Int)+1))=nums (us.set i (v+1)):=lY us i (v+1)
theorem JJ:decide (("size" : Str) = "rank")=false/\decide (("size" : Str) = "told")=false/\decide (("size" : Str) = "names")=false/\decide (("rank" : Str) = "size")=false/\decide (("rank" : Str) = "told")=false/\decide (("rank" : Str) = "names")=false ∧
  decide (("told" : Str) = "size")=false/\decide (("told" : Str) = "rank")=false/\decide (("told" : Str) = "names")=false/\decide (("names" : Str) = "size")=false/\decide (("names" : Str) = "rank")=false/\decide (("names" : Str) = "told")=false:=by decide
theorem Cg {j:Str}(hj:j∈jws):aC [.str j]=some (.v (.bl true)):=by
 have e:E4 (.str j) (.ktu [.str "size",.str "rank",.str "told",.str "names"])=some (.fz (.bl true)):=by
  have h1:(Pu.plain (.str j)&&aw [.str "size",.str "rank",.str "told",.str "names"]&&decide (ck [.str "size",.str "rank",.str "told",.str "names"]≤50))=true:=by simp[Pu.plain,aw,ck,lv]
  have h2:pin (.str j) [.str "size",.str "rank",.str "told",.str "names"]=true:=by
   unfold pin
   simp only[List.any_cons,lM,List.any_nil]
   rcases j4 hj with rfl|rfl|rfl|rfl<;>decide
  rw[Js,h1,h2];rfl
 simp![jG,dr,e]
theorem MR {a n:Nat}(h1:1≤n)(h2:n≤1000):gB (.tup [.int a]) (.int n)=some (.fz (.tup (nums (List.replicate n a)))):=by
 have r:∀n:Nat,(List.replicate n [PV.int a]).flatten=nums (List.replicate n a):=fun n=>by
  induction n with
  |zero=>rfl
  |succ n ih=>rw[List.replicate_succ,List.flatten_cons,ih];rfl
 show (if ([PV.int a].isEmpty=false/\1≤(n:Int)/\(n:Int)≤1000/\[PV.int a].length≤1000) then some (RV.fz (.tup (List.replicate (n:Int).toNat [PV.int a]).flatten)) else none)=_
 rw[if_pos ⟨rfl,by omega,by omega,by simp⟩,Int.toNat_natCast,r]
theorem Nz {n:Nat}(h1:1≤n)(h2:n≤40){j y:Str}(hj:j∈jws)(hy:y∈manners):cQ [.int n,.str j,.str y]=some (.v (hJ j y (List.range n) (List.replicate n (PY j)))):=by
 have er:pq [.rng 0 n]=some (.fz (.tup (nums (List.range n)))):=by rw[J7,if_pos ⟨rfl,by omega,by omega⟩,Int.toNat_natCast,Gr]
 have ek:=(K1 (show n≤100000 by omega)).2.1
 have m0:=MR (a:=0) h1 (show n≤1000 by omega)
 have m1:=MR (a:=1) h1 (show n≤1000 by omega)
 have m0:gB (.tup [.int 0]) (.int n)=_:=m0
 have m1:gB (.tup [.int 1]) (.int n)=_:=m1
 unfold hJ
 rcases j4 hj with rfl|rfl|rfl|rfl <;>
  simp![qk,iN,oH,hZ,pY,ij,Fk h1 h2,Cg hj,Ce hy,JJ,ek,er,m0,m1,PY]<;>rfl
theorem xq {n:Nat}(h1:1≤n)(h2:n≤40):Frst (List.range n):=by
 have u:∀x,x<n->up (List.range n) x=x:=fun x hx=>by unfold up;rw[List.getD_eq_getElem?_getD,List.getElem?_range hx];rfl
 refine⟨by rw[List.length_range];exact h1,by rw[List.length_range];exact h2,⟨fun x hx=>?_,fun _=>0,fun x hx=>?_,fun x hx hn=>?_⟩⟩
 ·rw[List.length_range] at hx ⊢;rw[u x hx];exact hx
 ·show 0<_;omega
 ·rw[List.length_range] at hx;exact absurd (u x hx) hn
theorem CM (ms:List Nat):gK [.tup (nums ms)]=some (.v (.tup (nums ms))):=by
 simp![wB,kT]
theorem sY {us ms:List Nat}(f:Frst us){j y:Str}(hy:y∈manners){x:Nat}(hx:x<us.length):bd [hJ j y us ms,.int x]=some (.v (.tup [hJ j y (b0 y us x) ms,.int (hd us x:Nat),.int (jJ y us x:Nat)])):=by
 have e:=Ag f hy hx
 simp only[nI] at e
 unfold hJ
 simp![qr,iK,e,CM]
noncomputable def stay (j:Str)(ms:List Nat)(a b:Nat):Bool:=if j = "told" then true else if j = "names" then decide (a<b) else decide (up ms b≤up ms a)
noncomputable def wQ (j:Str)(p q:Nat):Nat:=if j = "size" then p+q else if j = "rank"/\p=q then p+1 else p
noncomputable def tp (j:Str)(ms:List Nat)(a b:Nat):Nat:=if stay j ms a b then a else b
noncomputable def un (j:Str)(ms:List Nat)(a b:Nat):Nat:=if stay j ms a b then b else a
noncomputable def oh (j:Str)(us ms:List Nat)(a b:Nat):List Nat:=us.set (un j ms a b) (tp j ms a b)
noncomputable def oo (j:Str)(ms:List Nat)(a b:Nat):List Nat:=ms.set (tp j ms a b) (wQ j (up ms (tp j ms a b)) (up ms (un j ms a b)))
theorem F9 {j:Str}(hj:j∈jws){ms:List Nat}{a b:Nat}(ha:a<ms.length)(hb:b<ms.length):bG [.str j,.tup (nums ms),.int a,.int b]=some (.v (.bl (stay j ms a b))):=by
 have d1:decide ((a:Int)<(b:Int))=decide (a<b):=decide_eq_decide.mpr (by omega)
 have d2:decide ((up ms b:Int)≤(up ms a:Int))=decide (up ms b≤up ms a):=decide_eq_decide.mpr (by omega)
 rcases j4 hj with rfl|rfl|rfl|rfl
 ·rw[show stay "size" ms a b=decide (up ms b≤up ms a) from rfl];simp![eH,b6,JJ,ai ha,ai hb,d2]
 ·rw[show stay "rank" ms a b=decide (up ms b≤up ms a) from rfl];simp![eH,b6,JJ,ai ha,ai hb,d2]
 ·rw[show stay "told" ms a b=true from rfl];simp![eH,b6]
 ·rw[show stay "names" ms a b=decide (a<b) from rfl];simp![eH,b6,JJ,d1]
theorem Df {j:Str}(hj:j∈jws)(p q:Nat):bF [.str j,.int p,.int q]=some (.v (.int (wQ j p q:Nat))):=by
 have d:decide ((p:Int)=(q:Int))=decide (p=q):=decide_eq_decide.mpr (by omega)
 rcases j4 hj with rfl|rfl|rfl|rfl
 ·rw[show wQ "size" p q=p+q from rfl];simp![dh,bz];rfl
 ·by_cases h:p=q
  ·rw[show wQ "rank" p q=p+1 by unfold wQ;rw[if_neg (by decide),if_pos ⟨rfl,h⟩]];simp![dh,bz,JJ,d,decide_eq_true h];rfl
  ·rw[show wQ "rank" p q=p by unfold wQ;rw[if_neg (by decide),if_neg fun z=>h z.2]];simp![dh,bz,JJ,d,decide_eq_false h]
 ·rw[show wQ "told" p q=p from rfl];simp![dh,bz,JJ]
 ·rw[show wQ "names" p q=p from rfl];simp![dh,bz,JJ]
theorem M3 {j y:Str}(hj:j∈jws){us ms:List Nat}{a b:Nat}(hl:ms.length=us.length)(ha:a<us.length)(hb:b<us.length):aB [hJ j y us ms,.int a,.int b]=some (.v (hJ j y (oh j us ms a b) (oo j ms a b))):=by
 have st:=F9 hj (ms:=ms) (show a<ms.length by omega) (show b<ms.length by omega)
 unfold hJ oh oo tp un
 cases h:stay j ms a b with
 |true=>
  rw[h] at st
  simp![fQ,bW,st,aG ha,aG hb,aG (show a<ms.length by omega),bu,ai (show a<ms.length by omega),ai (show b<ms.length by omega),Df hj]
 |false=>
  rw[h] at st
  simp![fQ,bW,st,aG ha,aG hb,aG (show b<ms.length by omega),bu,ai (show a<ms.length by omega),ai (show b<ms.length by omega),Df hj,Bool.false_eq_true,if_false]
theorem Gk {j:Str}{ms:List Nat}{a b:Nat}:(oo j ms a b).length=ms.length:=by unfold oo;rw[List.length_set]
theorem FM {j:Str}{us ms:List Nat}{a b:Nat}:(oh j us ms a b).length=us.length:=by unfold oh;rw[List.length_set]
theorem BT {us:List Nat}(f:Frst us){j:Str}{ms:List Nat}{a b:Nat}(ha:a<us.length)(hb:b<us.length)(ea:up us a=a)(eb:up us b=b)(ne:a≠b):Frst (oh j us ms a b):=by
 unfold oh tp un
 cases stay j ms a b with
 |true=>exact rG f hb ha eb ea ne
 |false=>exact rG f ha hb ea eb ne.symm
theorem jQ {ms:List Nat}{t v:Nat}(h:v=up ms t):ms.set t v=ms:=by
 subst h
 by_cases ht:t<ms.length
 ·refine CT (List.length_set) fun z=>?_
  rw[aT ht]
  split
  ·next e=>rw[e]
  ·rfl
 ·rw[List.set_eq_of_length_le (by omega)]
theorem Ab {j:Str}(hj:j∈jws){us ms:List Nat}{a b:Nat}(hl:ms.length=us.length)(ha:a<us.length)(hb:b<us.length)(ne:a≠b):bH [.str j,.tup (nums us),.tup (nums ms),.int a,.int b]=some (.v (.tup [.tup (nums (oh j us ms a b)),.tup (nums (oo j ms a b))])):=by
 have a':a<ms.length:=by omega
 have b':b<ms.length:=by omega
 have d1:decide ((b:Int)<(a:Int))=decide (b<a):=decide_eq_decide.mpr (by omega)
 have d2:decide ((up ms a:Int)<(up ms b:Int))=decide (up ms a<up ms b):=decide_eq_decide.mpr (by omega)
 have d3:decide ((up ms a:Int)=(up ms b:Int))=decide (up ms a=up ms b):=decide_eq_decide.mpr (by omega)
 have d4:decide ((up ms b:Int)=(up ms a:Int))=decide (up ms b=up ms a):=decide_eq_decide.mpr (by omega)
 have ps:aw [PV.str "size",.str "rank"]=true:=by simp[aw,Pu.plain]
 have ds:decide (ck [PV.str "size",.str "rank"]≤50)=true:=by simp[ck,lv]
 have pi:∀k:Str,pin (.str k) [.str "size",.str "rank"]=(decide (("size" : Str)=k) || decide (("rank" : Str)=k)):=fun k=>by
  unfold pin;rw[List.any_cons,List.any_cons,List.any_nil,lM,lM,Bool.or_false]
 rcases j4 hj with rfl|rfl|rfl|rfl
 ·by_cases h:up ms a<up ms b
  ·have es:stay "size" ms a b=false:=decide_eq_false (by omega)
   have e1:oh "size" us ms a b=us.set a b:=by unfold oh tp un;rw[es];rfl
   have e2:oo "size" ms a b=ms.set b (up ms b+up ms a):=by unfold oo tp un;rw[es];rfl
   rw[e1,e2]
   simp![bg,aE,jZ,gG,ps,ds,pi,JJ,ai a',ai b',d2,decide_eq_true h,aG ha,aG b',bu,rD]
  ·have es:stay "size" ms a b=true:=decide_eq_true (by omega)
   have e1:oh "size" us ms a b=us.set b a:=by unfold oh tp un;rw[es];rfl
   have e2:oo "size" ms a b=ms.set a (up ms a+up ms b):=by unfold oo tp un;rw[es];rfl
   rw[e1,e2]
   simp![bg,aE,jZ,gG,ps,ds,pi,JJ,ai a',ai b',d2,decide_eq_false h,aG hb,aG a',bu,rD]
 ·by_cases h:up ms a<up ms b
  ·have es:stay "rank" ms a b=false:=decide_eq_false (by omega)
   have e1:oh "rank" us ms a b=us.set a b:=by unfold oh tp un;rw[es];rfl
   have h2:decide (up ms b=up ms a)=false:=decide_eq_false (by omega)
   have e2:oo "rank" ms a b=ms:=by
    unfold oo tp un;rw[es]
    refine jQ ?_
    show wQ "rank" (up ms b) (up ms a)=up ms b
    unfold wQ
    rw[if_neg (by decide),if_neg fun z=>by have:=z.2;omega]
   rw[e1,e2]
   simp![bg,aE,jZ,gG,ps,ds,pi,JJ,ai a',ai b',d2,d4,h2,decide_eq_true h,aG ha,aG b',bu]
  ·have es:stay "rank" ms a b=true:=decide_eq_true (by omega)
   have e1:oh "rank" us ms a b=us.set b a:=by unfold oh tp un;rw[es];rfl
   rw[e1]
   by_cases q:up ms a=up ms b
   ·have e2:oo "rank" ms a b=ms.set a (up ms a+1):=by
     unfold oo tp un;rw[es]
     show ms.set a (wQ "rank" (up ms a) (up ms b))=_
     unfold wQ
     rw[if_neg (by decide),if_pos ⟨rfl,q⟩]
    rw[e2]
    simp![bg,aE,jZ,gG,ps,ds,pi,JJ,ai a',ai b',d2,d3,decide_eq_true q,decide_eq_false h,aG hb,aG a',bu,zL]
   ·have e2:oo "rank" ms a b=ms:=by
     unfold oo tp un;rw[es]
     refine jQ ?_
     show wQ "rank" (up ms a) (up ms b)=_
     unfold wQ
     rw[if_neg (by decide),if_neg fun z=>q z.2]
     rfl
    rw[e2]
    simp![bg,aE,jZ,gG,ps,ds,pi,JJ,ai a',ai b',d2,d3,decide_eq_false q,decide_eq_false h,aG hb,aG a',bu]
 ·have e1:oh "told" us ms a b=us.set b a:=rfl
  have e2:oo "told" ms a b=ms:=jQ rfl
  rw[e1,e2]
  simp![bg,aE,jZ,gG,ps,ds,pi,JJ,aG hb,bu]
 ·by_cases h:b<a
  ·have es:stay "names" ms a b=false:=decide_eq_false (by omega)
   have e1:oh "names" us ms a b=us.set a b:=by unfold oh tp un;rw[es];rfl
   have e2:oo "names" ms a b=ms:=by unfold oo tp un;rw[es];exact jQ rfl
   rw[e1,e2]
   simp![bg,aE,jZ,gG,ps,ds,pi,JJ,d1,decide_eq_true h,aG ha,bu]
  ·have es:stay "names" ms a b=true:=decide_eq_true (by omega)
   have e1:oh "names" us ms a b=us.set b a:=by unfold oh tp un;rw[es];rfl
   have e2:oo "names" ms a b=ms:=by unfold oo tp un;rw[es];exact jQ rfl
   rw[e1,e2]
   simp![bg,aE,jZ,gG,ps,ds,pi,JJ,d1,decide_eq_false h,aG hb,bu]
inductive Deed where
 |find (x:Nat)|join (x y:Nat)
noncomputable def Deed.pv:Deed->PV
 |.find x=>.tup [.str "find",.int x]
 |.join x y=>.tup [.str "join",.int x,.int y]
noncomputable def Deed.ok (n:Nat):Deed->Prop
 |.find x=>x<n
 |.join x y=>x<n/\y<n
structure Sto (n:Nat)(us ms:List Nat):Prop where
 f:Frst us
 lu:us.length=n
 lm:ms.length=n
noncomputable def dU (j y:Str)(us ms:List Nat):Deed->List Nat
 |.find x=>b0 y us x
 |.join x z=>if hd us x=hd us z then b0 y (b0 y us x) z else oh j (b0 y (b0 y us x) z) ms (hd us x) (hd us z)
noncomputable def dM (j:Str)(us ms:List Nat):Deed->List Nat
 |.find _=>ms
 |.join x z=>if hd us x=hd us z then ms else oo j ms (hd us x) (hd us z)
noncomputable def dA (us:List Nat):Deed->PV
 |.find x=>.int (hd us x:Nat)
 |.join x z=>.bl (!decide (hd us x=hd us z))
noncomputable def dS (y:Str)(us:List Nat):Deed->Nat
 |.find x=>jJ y us x
 |.join x z=>jJ y us x+jJ y (b0 y us x) z
noncomputable def iE (j y:Str)(us ms:List Nat)(d:Deed):PV:=.tup [hJ j y (dU j y us ms d) (dM j us ms d),dA us d,.int (dS y us d:Nat)]
theorem mE {us:List Nat}(f:Frst us){x:Nat}(hx:x<us.length){y:Str}(hy:y∈manners){t:Nat}(ht:t<us.length):hd (b0 y us x) t=hd us t:=(Dq f.fst hx hy ht).1
theorem o6 {n:Nat}{us ms:List Nat}(S:Sto n us ms){j y:Str}(hy:y∈manners){d:Deed}(hd':d.ok n):Sto n (dU j y us ms d) (dM j us ms d):=by
 obtain⟨f,lu,lm⟩:=S
 cases d with
 |find x=>
  have hx:x<us.length:=by rw[lu];exact hd'
  exact⟨fJ f hx hy,by show (b0 y us x).length=n;rw[bV,lu],lm⟩
 |join x z=>
  have hx:x<us.length:=by rw[lu];exact hd'.1
  have hz:z<us.length:=by rw[lu];exact hd'.2
  have f1:=fJ f hx hy
  have l1:=bV y us x
  have hz1:z<(b0 y us x).length:=by omega
  have f2:=fJ f1 hz1 hy
  have l2:=bV y (b0 y us x) z
  show Sto n (if hd us x=hd us z then _ else _) (if hd us x=hd us z then _ else _)
  by_cases e:hd us x=hd us z
  ·rw[if_pos e,if_pos e];exact⟨f2,by omega,lm⟩
  ·rw[if_neg e,if_neg e]
   have hd2:∀t,t<us.length->hd (b0 y (b0 y us x) z) t=hd us t:=fun t ht=>by rw[mE f1 hz1 hy (by omega),mE f hx hy ht]
   have top:∀t,t<us.length->up (b0 y (b0 y us x) z) (hd us t)=hd us t:=fun t ht=>by
    have:=oy f2.fst (show t<(b0 y (b0 y us x) z).length by omega)
    rwa [hd2 t ht] at this
   have a1:=kG f.fst hx
   have a2:=kG f.fst hz
   exact⟨BT f2 (by omega) (by omega) (top x hx) (top z hz) e,by rw[FM];omega,by rw[Gk];exact lm⟩
theorem GZ {n:Nat}{us ms:List Nat}(S:Sto n us ms){j y:Str}(hj:j∈jws)(hy:y∈manners){x z:Nat}(hx':x<n)(hz':z<n):cO [hJ j y us ms,.int x,.int z]=some (.v (iE j y us ms (.join x z))):=by
 obtain⟨f,lu,lm⟩:=S
 have hx:x<us.length:=by omega
 have hz:z<us.length:=by omega
 have f1:=fJ f hx hy
 have l1:=bV y us x
 have hz1:z<(b0 y us x).length:=by omega
 have l2:=bV y (b0 y us x) z
 have e1:=sY f hy hx (ms:=ms) (j:=j)
 have e2:=sY f1 hy hz1 (ms:=ms) (j:=j)
 rw[mE f hx hy hz] at e2
 have a1:=kG f.fst hx
 have a2:=kG f.fst hz
 have d:decide ((hd us x:Int)=(hd us z:Int))=decide (hd us x=hd us z):=decide_eq_decide.mpr (by omega)
 by_cases e:hd us x=hd us z
 ·have r:iE j y us ms (.join x z)=.tup [hJ j y (b0 y (b0 y us x) z) ms,.bl false,.int (jJ y us x+jJ y (b0 y us x) z:Nat)]:=by
   unfold iE
   show PV.tup [hJ j y (if hd us x=hd us z then _ else _) (if hd us x=hd us z then _ else _),.bl (!decide (hd us x=hd us z)),_]=_
   rw[if_pos e,if_pos e,decide_eq_true e];rfl
  rw[r]
  simp![kC,gu,e1,e2,d,decide_eq_true e]
  rfl
 ·have e3:=M3 (y:=y) hj (us:=b0 y (b0 y us x) z) (ms:=ms) (a:=hd us x) (b:=hd us z) (by omega) (by omega) (by omega)
  have r:iE j y us ms (.join x z)=.tup [hJ j y (oh j (b0 y (b0 y us x) z) ms (hd us x) (hd us z)) (oo j ms (hd us x) (hd us z)),.bl true,.int (jJ y us x+jJ y (b0 y us x) z:Nat)]:=by
   unfold iE
   show PV.tup [hJ j y (if hd us x=hd us z then _ else _) (if hd us x=hd us z then _ else _),.bl (!decide (hd us x=hd us z)),_]=_
   rw[if_neg e,if_neg e,decide_eq_false e];rfl
  rw[r]
  simp![kC,gu,e1,e2,e3,d,decide_eq_false e]
  rfl
theorem DD:decide (("find" : Str) = "join")=false/\decide (("join" : Str) = "find")=false:=by decide
theorem Fv {n:Nat}{us ms:List Nat}(S:Sto n us ms){j y:Str}(hj:j∈jws)(hy:y∈manners){d:Deed}(h:d.ok n):cP [hJ j y us ms,d.pv]=some (.v (iE j y us ms d)):=by
 cases d with
 |find x=>
  have e:=sY S.f hy (show x<us.length by rw[S.lu];exact h) (ms:=ms) (j:=j)
  simp only[Deed.pv,iE,dU,dM,dA,dS]
  have a0:L2.atI [PV.str "find",.int (x:Int)] 0=some (.str "find"):=rfl
  have a1:L2.atI [PV.str "find",.int (x:Int)] 1=some (.int x):=rfl
  simp![kD,gx,DD,a0,a1,e]
 |join x z=>
  have e:=GZ S hj hy h.1 h.2
  simp only[Deed.pv]
  have a0:L2.atI [PV.str "join",.int (x:Int),.int (z:Int)] 0=some (.str "join"):=rfl
  have a1:L2.atI [PV.str "join",.int (x:Int),.int (z:Int)] 1=some (.int x):=rfl
  have a2:L2.atI [PV.str "join",.int (x:Int),.int (z:Int)] 2=some (.int z):=rfl
  simp![kD,gx,DD,a0,a1,a2,e]
theorem BN {n:Nat}{d:Deed}(h:d.ok n):fo [.int n,d.pv]=some (.v (.bl true)):=by
 have tt:∀x:Nat,x<n->decide ((0:Int)≤(x:Int)/\(x:Int)<(n:Int))=true:=fun x hx=>decide_eq_true ⟨by omega,by omega⟩
 cases d with
 |find x=>
  have a0:L2.atI [PV.str "find",.int (x:Int)] 0=some (.str "find"):=rfl
  have c1:cut [PV.str "find",.int (x:Int)] (some 1) none=[.int (x:Int)]:=rfl
  have g1:iT [("find",2),("join",3)] "find" = some 2:=by decide +kernel
  have k2:((2:Nat):Int)=2:=rfl
  have k3:(HT.sIx 2 0 (some 1)=0/\HT.sIx 2 2 none=2)=False:=eq_false (by decide)
  have e:qj (gN 0) jA cT [none,some (.val (.int n))] [.int (x:Int)]=some [.bl true]:=xn (fun _=>.bl true) (its:=[.int (x:Int)]) fun p hp=>by
   rw[List.mem_singleton.mp hp]
   simp![cT,yS,tt x h]
  have b1:Hl [PV.bl true]=some [true]:=rfl
  have b2:[true].all id=true:=rfl
  simp only[Deed.pv]
  simp![nb,iG,cT,a0,uK,o9,g1,Option.elim_some,k2,k3,c1,e,b1,b2]
 |join x z=>
  have a0:L2.atI [PV.str "join",.int (x:Int),.int (z:Int)] 0=some (.str "join"):=rfl
  have c1:cut [PV.str "join",.int (x:Int),.int (z:Int)] (some 1) none=[.int (x:Int),.int (z:Int)]:=rfl
  have g1:iT [("find",2),("join",3)] "join" = some 3:=by decide +kernel
  have k2:((3:Nat):Int)=3:=rfl
  have k3:(HT.sIx 3 0 (some 1)=0/\HT.sIx 3 3 none=3)=False:=eq_false (by decide)
  have e:qj (gN 0) jA cT [none,some (.val (.int n))] [.int (x:Int),.int (z:Int)]=some [.bl true,.bl true]:=xn (fun _=>.bl true) (its:=[.int (x:Int),.int (z:Int)]) fun p hp=>by
   obtain⟨t,ht,rfl⟩:∃t:Nat,t<n/\p=.int (t:Int):=by
    rcases List.mem_cons.mp hp with rfl|hp
    ·exact⟨x,h.1,rfl⟩
    ·rw[List.mem_singleton.mp hp];exact⟨z,h.2,rfl⟩
   simp![cT,yS,tt t ht]
  have b1:Hl [PV.bl true,.bl true]=some [true,true]:=rfl
  have b2:[true,true].all id=true:=rfl
  simp only[Deed.pv]
  simp![nb,iG,cT,a0,uK,o9,g1,Option.elim_some,k2,k3,c1,e,b1,b2]
theorem Lq {n:Nat}{us ms:List Nat}(S:Sto n us ms){j y:Str}(hj:j∈jws)(hy:y∈manners){d:Deed}(h:d.ok n):jr [hJ j y us ms,d.pv]=some (.v (iE j y us ms d)):=by
 have e1:=BN h
 rw[←S.lu] at e1
 have e2:=Fv S hj hy h
 have a2:L2.atI [PV.str j,.str y,.tup (nums us),.tup (nums ms)] 2=some (.tup (nums us)):=rfl
 have e0:aN (hJ j y us ms) (.int 2)=some (.fz (.tup (nums us))):=by unfold hJ;rw[wM,a2];rfl
 simp![DT,pK,e0,e1,e2]
theorem Ey {n:Nat}{us ms:List Nat}(S:Sto n us ms){j y:Str}(hj:j∈jws)(hy:y∈manners){d:Deed}(h:d.ok n):cb [hJ j y us ms,d.pv]=some (.v (iE j y us ms d)):=by
 obtain⟨f,lu,lm⟩:=S
 cases d with
 |find x=>
  have hx:x<us.length:=by rw[lu];exact h
  have a0:L2.atI [PV.str "find",.int (x:Int)] 0=some (.str "find"):=rfl
  have a1:L2.atI [PV.str "find",.int (x:Int)] 1=some (.int x):=rfl
  simp only[Deed.pv,iE,dU,dM,dA,dS,hJ]
  simp![iJ,eE,DD,a0,a1,t5 f hy hx]
 |join x z=>
  have hx:x<us.length:=by rw[lu];exact h.1
  have hz:z<us.length:=by rw[lu];exact h.2
  have f1:=fJ f hx hy
  have l1:=bV y us x
  have hz1:z<(b0 y us x).length:=by omega
  have l2:=bV y (b0 y us x) z
  have e1:=t5 f hy hx
  have e2:=t5 f1 hy hz1
  rw[mE f hx hy hz] at e2
  have a1':=kG f.fst hx
  have a2':=kG f.fst hz
  have d:decide ((hd us x:Int)=(hd us z:Int))=decide (hd us x=hd us z):=decide_eq_decide.mpr (by omega)
  have a0:L2.atI [PV.str "join",.int (x:Int),.int (z:Int)] 0=some (.str "join"):=rfl
  have a1:L2.atI [PV.str "join",.int (x:Int),.int (z:Int)] 1=some (.int x):=rfl
  have a2:L2.atI [PV.str "join",.int (x:Int),.int (z:Int)] 2=some (.int z):=rfl
  by_cases e:hd us x=hd us z
  ·have r:iE j y us ms (.join x z)=.tup [hJ j y (b0 y (b0 y us x) z) ms,.bl false,.int (jJ y us x+jJ y (b0 y us x) z:Nat)]:=by
    unfold iE
    show PV.tup [hJ j y (if hd us x=hd us z then _ else _) (if hd us x=hd us z then _ else _),.bl (!decide (hd us x=hd us z)),_]=_
    rw[if_pos e,if_pos e,decide_eq_true e];rfl
   rw[r]
   simp only[Deed.pv,hJ]
   simp![iJ,eE,DD,a0,a1,a2,e1,e2,d,decide_eq_true e]
   rfl
  ·have e3:=Ab hj (us:=b0 y (b0 y us x) z) (ms:=ms) (a:=hd us x) (b:=hd us z) (by omega) (by omega) (by omega) e
   have r:iE j y us ms (.join x z)=.tup [hJ j y (oh j (b0 y (b0 y us x) z) ms (hd us x) (hd us z)) (oo j ms (hd us x) (hd us z)),.bl true,.int (jJ y us x+jJ y (b0 y us x) z:Nat)]:=by
    unfold iE
    show PV.tup [hJ j y (if hd us x=hd us z then _ else _) (if hd us x=hd us z then _ else _),.bl (!decide (hd us x=hd us z)),_]=_
    rw[if_neg e,if_neg e,decide_eq_false e];rfl
   rw[r]
   simp only[Deed.pv,hJ]
   simp![iJ,eE,DD,a0,a1,a2,e1,e2,e3,d,decide_eq_false e]
   rfl
end Dp
end
section
namespace Dp
open PySem L2 Fo Pu
noncomputable def JA:FS:=(bh 7 (Es (ao al (aa (ao av (aa (fV 0) (aa (ah bO (ah bO (fV 1) (fC (.int 1))) (ah jS (fV 6) (fC (.int 5)))) ae))) (aa (fC (.int 20)) ae))) (Gn (ah gB (fC (.int 4)) (ah bn (fV 6) (fC (.int 5))))) GF))
theorem Rw {ρ:ak}:JA ρ=(bh 7 (Es (ao al (aa (ao av (aa (fV 0) (aa (ah bO (ah bO (fV 1) (fC (.int 1))) (ah jS (fV 6) (fC (.int 5)))) ae))) (aa (fC (.int 20)) ae))) (Gn (ah gB (fC (.int 4)) (ah bn (fV 6) (fC (.int 5))))) GF)) ρ:=Eq.trans rfl rfl
noncomputable def JB:FS:=(nN 8 9 (aa (ah bn (ah aN (fV 7) (fC (.int 0))) (fV 2)) (aa (ah bn (ah aN (fV 7) (fC (.int 1))) (fV 2)) ae)))
theorem Rs {ρ:ak}:JB ρ=(nN 8 9 (aa (ah bn (ah aN (fV 7) (fC (.int 0))) (fV 2)) (aa (ah bn (ah aN (fV 7) (fC (.int 1))) (fV 2)) ae))) ρ:=Eq.trans rfl rfl
noncomputable def P4:FS:=(i9 (fT (ah eD (ah bn (ah aN (fV 4) (fC (.int 1))) (fC (.int 4))) (fC (.int 1)))) (nN 8 9 (aa (ah bn (fV 6) (fV 2)) (aa (ah bn (ah bO (fV 6) (fC (.int 1))) (fV 2)) ae))) aK)
theorem HG {ρ:ak}:P4 ρ=(i9 (fT (ah eD (ah bn (ah aN (fV 4) (fC (.int 1))) (fC (.int 4))) (fC (.int 1)))) (nN 8 9 (aa (ah bn (fV 6) (fV 2)) (aa (ah bn (ah bO (fV 6) (fC (.int 1))) (fV 2)) ae))) aK) ρ:=Eq.trans rfl rfl
noncomputable def Qk:FS:=(i9 (ip (fT (ah eD (ah bn (ah aN (fV 4) (fC (.int 1))) (fC (.int 4))) (fC (.int 2)))) (fT (ah A9 (ah bn (ah aN (fV 7) (fC (.int 2))) (fC (.int 3))) (fC (.int 0))))) (aq (bh 8 (ah bn (ah gB (ah jS (fV 8) (fC (.int 2))) (fC (.int 2))) (fV 2))) (bh 9 (fB om (aa (ah sr (fV 2) (fC (.int 1))) (aa (ah bO (fV 8) (fC (.int 1))) ae))))) aK)
theorem Bp {ρ:ak}:Qk ρ=(i9 (ip (fT (ah eD (ah bn (ah aN (fV 4) (fC (.int 1))) (fC (.int 4))) (fC (.int 2)))) (fT (ah A9 (ah bn (ah aN (fV 7) (fC (.int 2))) (fC (.int 3))) (fC (.int 0))))) (aq (bh 8 (ah bn (ah gB (ah jS (fV 8) (fC (.int 2))) (fC (.int 2))) (fV 2))) (bh 9 (fB om (aa (ah sr (fV 2) (fC (.int 1))) (aa (ah bO (fV 8) (fC (.int 1))) ae))))) aK) ρ:=Eq.trans rfl rfl
noncomputable def Q0:FS:=(i9 (ip (fT (ah iW (fV 5) (gP ae))) (fT (ah eD (ah bn (ah aN (fV 7) (fC (.int 2))) (fC (.int 7))) (fC (.int 1))))) (iw (ah aN (fV 5) (ah bn (ah aN (fV 7) (fC (.int 3))) (fB gJ (aa (fV 5) ae)))) (mZ 2 (gC (gN 8) (gC (gN 9) g0)))) aK)
theorem A3 {ρ:ak}:Q0 ρ=(i9 (ip (fT (ah iW (fV 5) (gP ae))) (fT (ah eD (ah bn (ah aN (fV 7) (fC (.int 2))) (fC (.int 7))) (fC (.int 1))))) (iw (ah aN (fV 5) (ah bn (ah aN (fV 7) (fC (.int 3))) (fB gJ (aa (fV 5) ae)))) (mZ 2 (gC (gN 8) (gC (gN 9) g0)))) aK) ρ:=Eq.trans rfl rfl
noncomputable def JD:FS:=(nB 5 (aa (ah aN (gP (aa (eA (aa (fV 8) (aa (fV 9) ae))) (aa (eA (aa (fV 9) (aa (fV 8) ae))) ae))) (ah bn (ah jS (ah aN (fV 7) (fC (.int 2))) (fC (.int 7))) (fC (.int 2)))) ae))
theorem ML {ρ:ak}:JD ρ=(nB 5 (aa (ah aN (gP (aa (eA (aa (fV 8) (aa (fV 9) ae))) (aa (eA (aa (fV 9) (aa (fV 8) ae))) ae))) (ah bn (ah jS (ah aN (fV 7) (fC (.int 2))) (fC (.int 7))) (fC (.int 2)))) ae)) ρ:=Eq.trans rfl rfl
theorem RJ {ρ:ak}:dk ρ=(aq JA (aq JB (aq P4 (aq Qk (aq Q0 JD))))) ρ:=Eq.trans rfl rfl
noncomputable def nX (ps:List (Nat×Nat)):List PV:=ps.map fun p=>.tup [.int p.1,.int p.2]
theorem xA (ps:List (Nat×Nat)):(nX ps).length=ps.length:=List.length_map ..
theorem jC:∀ps:List (Nat×Nat),aw (nX ps)=true
 |[]=>by show aw []=true;rw[aw]
 |p::ps=>by
  show aw (.tup [.int p.1,.int p.2]::nX ps)=true
  rw[aw,jC ps];simp[Pu.plain,aw]
theorem uk:∀ps:List (Nat×Nat),ck (nX ps)≤1
 |[]=>by show ck []≤1;rw[ck];omega
 |p::ps=>by
  show ck (.tup [.int p.1,.int p.2]::nX ps)≤1
  have:=uk ps
  rw[ck];simp[lv,ck];omega
theorem mL (ps:List (Nat×Nat)):gR (nX ps) []=ps.isEmpty:=by
 cases ps with
 |nil=>exact BL
 |cons p ps=>exact oN (by show (nX ps).length+1≠0;omega)
theorem DK {α:Type}(l:List α)(k:Nat):cut l (some (k:Int)) none=l.drop k:=by
 unfold cut
 rw[HT.sIx_nat,HT.sIx_none]
 by_cases h:k≤l.length
 ·rw[Nat.min_eq_left h,List.take_of_length_le (by rw[List.length_drop];omega)]
 ·rw[Nat.min_eq_right (by omega),List.drop_eq_nil_of_le (Nat.le_refl _),List.drop_eq_nil_of_le (by omega),List.take_nil]
section
variable {ns:List Int}{n:Nat}{hs ys:List Nat}{row:List (Nat×Nat)}{s3:Option Sl}{at' k:Nat}
noncomputable def JR (ns:List Int)(at' n:Nat)(s3:Option Sl)(hs:List Nat)(row:List (Nat×Nat))(k:Nat)(ys:List Nat)(x z:Nat):ak:=[some (.val (.src (iL ns))),some (.val (.int at')),some (.val (.int n)),s3,some (.val (.lst (nums hs))),some (.own (nX row)),some (.val (.int k)),some (.val (.lst (nums ys))),some (.val (.int x)),some (.val (.int z))]
theorem Q5 (hn:1≤n)(hh:hs.length=4){x z:Nat}(hx:x<n)(hz:z<n):∃x' z',x'<n/\z'<n/\P4 (JR ns at' n s3 hs row k ys x z)=.nx (JR ns at' n s3 hs row k ys x' z'):=by
 have i1:L2.atI (nums hs) 1=some (.int (up hs 1:Nat)):=ai (x:=1) (by omega)
 have pn:(0:Int)<(n:Int):=by omega
 unfold JR
 by_cases q:(up hs 1:Int) % 4=1
 ·refine⟨k % n,(k+1) % n,Nat.mod_lt _ (by omega),Nat.mod_lt _ (by omega),?_⟩
  simp![HG,i1,decide_eq_true q,pn]
  rfl
 ·exact⟨x,z,hx,hz,by simp![HG,i1,decide_eq_false q]⟩
theorem QS (hn:1≤n)(hn2:n≤40)(hh:hs.length=4)(hy:4≤ys.length){x z:Nat}(hx:x<n)(hz:z<n):∃x' z',x'<n/\z'<n/\Qk (JR ns at' n s3 hs row k ys x z)=.nx (JR ns at' n s3 hs row k ys x' z'):=by
 have i1:L2.atI (nums hs) 1=some (.int (up hs 1:Nat)):=ai (x:=1) (by omega)
 have i2:L2.atI (nums ys) 2=some (.int (up ys 2:Nat)):=ai (x:=2) (by omega)
 have pn:(0:Int)<(n:Int):=by omega
 unfold JR
 by_cases q:(up hs 1:Int) % 4=2
 ·by_cases q2:(0:Int)<(up ys 2:Int) % 3
  ·have e1:(x:Int) / 2 * 2 % (n:Int)=((x / 2 * 2 % n:Nat):Int):=by push_cast;rfl
   have em:(if ((x / 2 * 2 % n:Nat):Int)+1<(n:Int) - 1 then ((x / 2 * 2 % n:Nat):Int)+1 else (n:Int) - 1)=((min (n - 1) (x / 2 * 2 % n+1):Nat):Int):=by split<;>omega
   refine⟨x / 2 * 2 % n,min (n - 1) (x / 2 * 2 % n+1),Nat.mod_lt _ (by omega),by omega,?_⟩
   have ml:(((x:Int) / 2).natAbs<2 ^ 64\/(2:Int).natAbs<2 ^ 64):=.inr (by decide)
   simp![Bp,i1,i2,decide_eq_true q,decide_eq_true q2,pn,ml,e1,em]
  ·exact⟨x,z,hx,hz,by simp![Bp,i1,i2,decide_eq_true q,decide_eq_false q2]⟩
 ·exact⟨x,z,hx,hz,by simp![Bp,i1,decide_eq_false q]⟩
theorem Ql (hy:4≤ys.length)(hr:∀p∈row,p.1<n/\p.2<n){x z:Nat}(hx:x<n)(hz:z<n):∃x' z',x'<n/\z'<n/\Q0 (JR ns at' n s3 hs row k ys x z)=.nx (JR ns at' n s3 hs row k ys x' z'):=by
 have i2:L2.atI (nums ys) 2=some (.int (up ys 2:Nat)):=ai (x:=2) (by omega)
 have i3:L2.atI (nums ys) 3=some (.int (up ys 3:Nat)):=ai (x:=3) (by omega)
 have dd:decide (ck (nX row)≤49)=true:=decide_eq_true (by have:=uk row;omega)
 have p0:aw []=true:=by rw[aw]
 unfold JR
 by_cases h0:row=[]
 ·subst h0;exact⟨x,z,hx,hz,by simp![A3,jC,p0,dd,mL,List.isEmpty_nil]⟩
 ·have ie:row.isEmpty=false:=by cases row with
   |nil=>exact absurd rfl h0
   |cons=>rfl
  have pos:0<row.length:=List.length_pos_iff.mpr h0
  by_cases q:(up ys 2:Int) % 7=1
  ·have hl:up ys 3 % row.length<row.length:=Nat.mod_lt _ pos
   have pl:(0:Int)<(row.length:Int):=by omega
   have ea:L2.atI (nX row) ((up ys 3:Int) % (row.length:Int))=some (.tup [.int (row[up ys 3 % row.length]).1,.int (row[up ys 3 % row.length]).2]):=by
    rw[show (up ys 3:Int) % (row.length:Int)=((up ys 3 % row.length:Nat):Int) from rfl]
    refine L2.gt ?_
    unfold nX
    rw[List.getElem?_map,List.getElem?_eq_getElem hl];rfl
   have hm:=hr _ (List.getElem_mem hl)
   refine⟨_,_,hm.1,hm.2,?_⟩
   simp![A3,jC,p0,dd,mL,ie,i2,i3,decide_eq_true q,xA,pl,ea]
  ·exact⟨x,z,hx,hz,by simp![A3,jC,p0,dd,mL,ie,i2,decide_eq_false q]⟩
theorem SH (hy:4≤ys.length)(hl:row.length≤1000){x z:Nat}:∃p,(p=(x,z)\/p=(z,x))/\JD (JR ns at' n s3 hs row k ys x z)=.nx (JR ns at' n s3 hs (row++[p]) k ys x z):=by
 have i2:L2.atI (nums ys) 2=some (.int (up ys 2:Nat)):=ai (x:=2) (by omega)
 have l1:(nX row).length≤100000:=by rw[xA];omega
 have ea:∀p:Nat×Nat,nX row++[.tup [.int p.1,.int p.2]]=nX (row++[p]):=fun p=>by unfold nX;rw[List.map_append];rfl
 unfold JR
 by_cases q:(up ys 2:Int) / 7 % 2=0
 ·refine⟨(x,z),.inl rfl,?_⟩
  have e0:∀a b:PV,L2.atI [a,b] 0=some a:=fun a b=>rfl
  rw[←ea]
  simp![ML,i2,q,e0,l1]
 ·have q:(up ys 2:Int) / 7 % 2=1:=by omega
  refine⟨(z,x),.inr rfl,?_⟩
  have e0:∀a b:PV,L2.atI [a,b] 1=some b:=fun a b=>rfl
  rw[←ea]
  simp![ML,i2,q,e0,l1]
theorem JI (hn:1≤n)(hn2:n≤40)(hh:hs.length=4)(hat:at'≤500)(hk:k≤500)(hl:row.length≤1000)(hr:∀p∈row,p.1<n/\p.2<n){z7 z8 z9:Option Sl}:∃p w7 w8 w9,(p.1<n/\p.2<n) ∧
  dk [some (.val (.src (iL ns))),some (.val (.int at')),some (.val (.int n)),s3,some (.val (.lst (nums hs))),some (.own (nX row)),some (.val (.int k)),z7,z8,z9] =
   .nx [some (.val (.src (iL ns))),some (.val (.int at')),some (.val (.int n)),s3,some (.val (.lst (nums hs))),some (.own (nX (row++[p]))),some (.val (.int k)),w7,w8,w9]:=by
 obtain⟨c,ec⟩:=oQ ns ((at':Int)+1+(k:Int) / 5) (by omega) (by omega)
 obtain⟨xs,hx,ex⟩:=jk c 20 (by decide) (by decide)
 have hx:xs.length=20:=hx
 have e4:(4:Int) * ((k:Int) % 5)=((4 * (k % 5):Nat):Int):=by omega
 have ec':cut (nums xs) (some ((4 * (k % 5):Nat):Int)) none=nums (xs.drop (4 * (k % 5))):=by rw[D5,DK]
 generalize hys:xs.drop (4 * (k % 5))=ys at ec'
 have hy:4≤ys.length:=by rw[←hys,List.length_drop];omega
 have ml:((4:Int).natAbs<2 ^ 64\/((k:Int) % 5).natAbs<2 ^ 64):=.inl (by decide)
 have pn:(0:Int)<(n:Int):=by omega
 have i0:L2.atI (nums ys) 0=some (.int (up ys 0:Nat)):=ai (x:=0) (by omega)
 have i1:L2.atI (nums ys) 1=some (.int (up ys 1:Nat)):=ai (x:=1) (by omega)
 have m0:(up ys 0:Int) % (n:Int)=((up ys 0 % n:Nat):Int):=rfl
 have m1:(up ys 1:Int) % (n:Int)=((up ys 1 % n:Nat):Int):=rfl
 obtain⟨x1,z1,a1,b1,e1⟩:=Q5 (ns:=ns) (at':=at') (s3:=s3) (row:=row) (k:=k) (ys:=ys) hn hh (Nat.mod_lt (up ys 0) (by omega)) (Nat.mod_lt (up ys 1) (by omega))
 obtain⟨x2,z2,a2,b2,e2⟩:=QS (ns:=ns) (at':=at') (s3:=s3) (row:=row) (k:=k) (ys:=ys) hn hn2 hh hy a1 b1
 obtain⟨x3,z3,a3,b3,e3⟩:=Ql (ns:=ns) (at':=at') (s3:=s3) (hs:=hs) (k:=k) (ys:=ys) hy hr a2 b2
 obtain⟨p,hp,e5⟩:=SH (ns:=ns) (n:=n) (at':=at') (s3:=s3) (hs:=hs) (row:=row) (k:=k) (ys:=ys) (x:=x3) (z:=z3) hy hl
 refine⟨p,some (.val (.lst (nums ys))),some (.val (.int x3)),some (.val (.int z3)),by rcases hp with rfl|rfl<;>exact⟨by assumption,by assumption⟩,?_⟩
 unfold JR at e1 e2 e3 e5
 simp![RJ,Rw,Rs,ec,ex,ml,e4,ec',i0,i1,pn,m0,m1,e1,e2,e3,e5]
theorem Bb (hn:1≤n)(hn2:n≤40)(hh:hs.length=4)(hat:at'≤500):∀(ks:List Nat) (row:List (Nat×Nat)) (z6 z7 z8 z9:Option Sl),(∀k∈ks,k≤500)->row.length+ks.length≤1000->(∀p∈row,p.1<n/\p.2<n) →
  ∃row' w6 w7 w8 w9,(∀p∈row',p.1<n/\p.2<n)/\row'.length=row.length+ks.length/\df (gN 6) dk (nums ks) [some (.val (.src (iL ns))),some (.val (.int at')),some (.val (.int n)),s3,some (.val (.lst (nums hs))),some (.own (nX row)),z6,z7,z8,z9] =
   .nx [some (.val (.src (iL ns))),some (.val (.int at')),some (.val (.int n)),s3,some (.val (.lst (nums hs))),some (.own (nX row')),w6,w7,w8,w9]
 |[],row,z6,z7,z8,z9,_,_,hr=>⟨row,z6,z7,z8,z9,hr,rfl,rfl⟩
 |k::ks,row,z6,z7,z8,z9,hk,hl,hr=>by
  rw[List.length_cons] at hl
  obtain⟨p,w7,w8,w9,hp,e⟩:=JI (ns:=ns) (s3:=s3) hn hn2 hh hat (hk k List.mem_cons_self) (by omega) hr (z7:=z7) (z8:=z8) (z9:=z9)
  obtain⟨row',v6,v7,v8,v9,h1,h2,e'⟩:=Bb hn hn2 hh hat ks (row++[p]) (some (.val (.int k))) w7 w8 w9 (fun q hq=>hk q (List.mem_cons_of_mem _ hq)) (by rw[List.length_append,List.length_singleton];omega) (fun q hq=>by
   rcases List.mem_append.mp hq with hq|hq
   ·exact hr q hq
   ·rw[List.mem_singleton.mp hq];exact hp)
  refine⟨row',v6,v7,v8,v9,h1,by rw[h2,List.length_append,List.length_singleton,List.length_cons];omega,?_⟩
  rw[←e',dl,iz]
  simp![e]
theorem CS (ns:List Int){at' n m:Nat}(hn:1≤n)(hn2:n≤40)(hat:at'≤500)(hm:m≤60):∃row:List (Nat×Nat),(∀p∈row,p.1<n/\p.2<n)/\row.length≤m/\b9 [.src (iL ns),.int at',.int n,.int m]=some (.v (.tup (nX row))):=by
 obtain⟨c,ec⟩:=oQ ns (at':Int) (by omega) (by omega)
 obtain⟨hs,hh,eh⟩:=jk c 4 (by decide) (by decide)
 have hh:hs.length=4:=hh
 have i0:L2.atI (nums hs) 0=some (.int (up hs 0:Nat)):=ai (x:=0) (by omega)
 have pm:(0:Int)<(m:Int)+1:=by omega
 have em:(up hs 0:Int) % ((m:Int)+1)=((up hs 0 % (m+1):Nat):Int):=rfl
 have lt:up hs 0 % (m+1)<m+1:=Nat.mod_lt _ (by omega)
 generalize up hs 0 % (m+1)=q at *
 obtain⟨row,w6,w7,w8,w9,h1,h2,e⟩:=Bb (ns:=ns) (s3:=some (.val (.int m))) hn hn2 hh hat (List.range q) [] none none none none (fun k hk=>by have:=List.mem_range.mp hk;omega) (by rw[List.length_range];simp;omega) (fun p hp=>by cases hp)
 rw[List.length_range] at h2
 simp only[List.length_nil] at h2
 have e:df (gN 6) dk (nums (List.range q)) [some (.val (.src (iL ns))),some (.val (.int at')),some (.val (.int n)),some (.val (.int m)),some (.val (.lst (nums hs))),some (.own []),none,none,none,none]=_:=e
 exact⟨row,h1,by omega,by simp![pF,ir,ec,eh,i0,pm,em,K1 (show q≤100000 by omega),e]⟩
end
noncomputable def CN (ps:List PV):Option (List PV):=match ps with
 |[p]=>(uq p).map (fu 0)
 |_=>none
theorem Fc {fs:FA}{ρ:ak}:oi fs ρ=(fs ρ).bind fun rs=>(rs.mapM RV.fr).bind CN:=by
 unfold oi
 rfl
theorem zi {ps:List PV}:CN [.tup ps]=some (fu 0 ps):=Eq.trans rfl rfl
theorem Jc {ns:List Int}{at' n k:Nat}{s3:Option Sl}{ds:List Deed}{x z:Nat}(hx:x<n)(hz:z<n)(hat:at'≤500)(hk:k≤500)(hl:ds.length≤1000){z8:Option Sl}:∃d w8,Deed.ok n d ∧
  bx [some (.val (.src (iL ns))),some (.val (.int at')),some (.val (.int n)),s3,some (.own (ds.map Deed.pv)),some (.val (.int k)),some (.val (.int x)),some (.val (.int z)),z8] =
   .nx [some (.val (.src (iL ns))),some (.val (.int at')),some (.val (.int n)),s3,some (.own ((ds++[d]).map Deed.pv)),some (.val (.int k)),some (.val (.int x)),some (.val (.int z)),w8]:=by
 obtain⟨c,ec⟩:=oQ ns ((at':Int)+20+(k:Int) / 10) (by omega) (by omega)
 obtain⟨xs,hxs,ex⟩:=jk c 10 (by decide) (by decide)
 have hxs:xs.length=10:=hxs
 have ik:L2.atI (nums xs) ((k:Int) % 10)=some (.int (up xs (k % 10):Nat)):=ai (x:=k % 10) (by omega)
 have l1:(ds.map Deed.pv).length≤100000:=by rw[List.length_map];omega
 have ea:∀d,ds.map Deed.pv++[d.pv]=(ds++[d]).map Deed.pv:=fun d=>by rw[List.map_append];rfl
 have h3:up xs (k % 10) % 3<3:=Nat.mod_lt _ (by decide)
 have e3:(up xs (k % 10):Int) % 3=((up xs (k % 10) % 3:Nat):Int):=rfl
 generalize up xs (k % 10) % 3=q at *
 have c3:q=0\/q=1\/q=2:=by omega
 have f0:∀a b c:PV,L2.atI [a,b,c] ((0:Nat):Int)=some a:=fun a b c=>rfl
 have f1:∀a b c:PV,L2.atI [a,b,c] ((1:Nat):Int)=some b:=fun a b c=>rfl
 have f2:∀a b c:PV,L2.atI [a,b,c] ((2:Nat):Int)=some c:=fun a b c=>rfl
 have l1:ds.length≤100000:=by omega
 rcases c3 with rfl|rfl|rfl
 ·refine⟨.join x z,some (.val (.lst (nums xs))),⟨hx,hz⟩,?_⟩
  rw[←ea]
  simp![bx,ec,ex,ik,e3,f0,List.length_map,l1,Deed.pv]
 ·refine⟨.join x z,some (.val (.lst (nums xs))),⟨hx,hz⟩,?_⟩
  rw[←ea]
  simp![bx,ec,ex,ik,e3,f1,List.length_map,l1,Deed.pv]
 ·refine⟨.find x,some (.val (.lst (nums xs))),hx,?_⟩
  rw[←ea]
  simp![bx,ec,ex,ik,e3,f2,List.length_map,l1,Deed.pv]
theorem p6 {ns:List Int}{at' n:Nat}{s3:Option Sl}(hat:at'≤500):∀(row:List (Nat×Nat)) (k:Nat) (ds:List Deed) (z5 z6 z7 z8:Option Sl),(∀p∈row,p.1<n/\p.2<n)->k+row.length≤500->ds.length+row.length≤1000->(∀d∈ds,Deed.ok n d) →
  ∃(ds':List Deed) (w5 w6 w7 w8:Option Sl),(∀d∈ds',Deed.ok n d)/\ds'.length=ds.length+row.length/\df (mZ 2 (gC (gN 5) (gC (mZ 2 (gC (gN 6) (gC (gN 7) g0))) g0))) bx (fu k (nX row)) [some (.val (.src (iL ns))),some (.val (.int at')),some (.val (.int n)),s3,some (.own (ds.map Deed.pv)),z5,z6,z7,z8] =
   .nx [some (.val (.src (iL ns))),some (.val (.int at')),some (.val (.int n)),s3,some (.own (ds'.map Deed.pv)),w5,w6,w7,w8]
 |[],k,ds,z5,z6,z7,z8,_,_,_,hd=>⟨ds,z5,z6,z7,z8,hd,rfl,rfl⟩
 |(x,z)::row,k,ds,z5,z6,z7,z8,hr,hk,hl,hd=>by
  rw[List.length_cons] at hk hl
  have hx:x<n:=(hr (x,z) List.mem_cons_self).1
  have hz:z<n:=(hr (x,z) List.mem_cons_self).2
  obtain⟨d,w8,hd1,e⟩:=Jc (ns:=ns) (at':=at') (s3:=s3) (ds:=ds) (k:=k) hx hz hat (by omega) (by omega) (z8:=z8)
  obtain⟨ds',v5,v6,v7,v8,h1,h2,e'⟩:=p6 (ns:=ns) (s3:=s3) hat row (k+1) (ds++[d]) (some (.val (.int k))) (some (.val (.int x))) (some (.val (.int z))) w8 (fun p hp=>hr p (List.mem_cons_of_mem _ hp)) (by omega) (by rw[List.length_append,List.length_singleton];omega) (fun q hq=>by
   rcases List.mem_append.mp hq with hq|hq
   ·exact hd q hq
   ·rw[List.mem_singleton.mp hq];exact hd1)
  refine⟨ds',v5,v6,v7,v8,h1,by rw[h2,List.length_append,List.length_singleton,List.length_cons];omega,?_⟩
  rw[←e',show fu k (nX ((x,z)::row))=.tup [.int k,.tup [.int x,.int z]]::fu (k+1) (nX row) from rfl,iz]
  simp![e]
theorem B2 (ns:List Int){at' n m:Nat}(hn:1≤n)(hn2:n≤40)(hat:at'≤500)(hm:m≤60):∃ds:List Deed,(∀d∈ds,Deed.ok n d)/\ds.length≤m/\bD [.src (iL ns),.int at',.int n,.int m]=some (.v (.tup (ds.map Deed.pv))):=by
 obtain⟨row,h1,h2,e⟩:=CS ns hn hn2 hat hm
 obtain⟨ds,w5,w6,w7,w8,h3,h4,e'⟩:=p6 (ns:=ns) (s3:=some (.val (.int m))) hat row 0 [] none none none none h1 (by omega) (by simp;omega) (fun d hd=>by cases hd)
 simp only[List.length_nil] at h4
 have e':df (mZ 2 (gC (gN 5) (gC (mZ 2 (gC (gN 6) (gC (gN 7) g0))) g0))) bx (fu 0 (nX row)) [some (.val (.src (iL ns))),some (.val (.int at')),some (.val (.int n)),some (.val (.int m)),some (.own []),none,none,none,none]=_:=e'
 exact⟨ds,h3,by omega,by simp![pT,io,e,Fc,zi,e']⟩
theorem yO (l:List Str){i:Nat}(h:i<l.length):L2.atI (l.map PV.str) (i:Int)=some (.str l[i]):=by
 refine L2.gt ?_
 rw[List.getElem?_map,List.getElem?_eq_getElem h];rfl
theorem AC (ns:List Int){at':Nat}(hat:at'≤500):∃(n:Nat) (j y:Str),1≤n/\n≤40/\j∈jws/\y∈manners/\bq [.src (iL ns),.int at']=some (.v (.tup [.int n,.str j,.str y])):=by
 obtain⟨c,ec⟩:=oQ ns (at':Int) (by omega) (by omega)
 obtain⟨xs,hxs,ex⟩:=jk c 6 (by decide) (by decide)
 have hxs:xs.length=6:=hxs
 have i0:L2.atI (nums xs) 0=some (.int (up xs 0:Nat)):=ai (x:=0) (by omega)
 have i1:L2.atI (nums xs) 1=some (.int (up xs 1:Nat)):=ai (x:=1) (by omega)
 have i2:L2.atI (nums xs) 2=some (.int (up xs 2:Nat)):=ai (x:=2) (by omega)
 obtain⟨n,n1,n2,en⟩:=EL (up xs 0)
 have hj:up xs 1 % 4<jws.length:=Nat.mod_lt _ (by decide)
 have hy:up xs 2 % 5<manners.length:=Nat.mod_lt _ (by decide)
 have ej:L2.atI [PV.str "size",.str "rank",.str "told",.str "names"] ((up xs 1:Int) % 4)=some (.str jws[up xs 1 % 4]):=yO jws hj
 have ey:L2.atI [PV.str "none",.str "whole",.str "halves",.str "splits",.str "one"] ((up xs 2:Int) % 5)=some (.str manners[up xs 2 % 5]):=yO manners hy
 exact⟨n,_,_,n1,n2,List.getElem_mem hj,List.getElem_mem hy,by simp![mM,fR,ec,ex,i0,i1,i2,en,ej,ey]⟩
end Dp
end
section
namespace Dp
open PySem L2 Fo Pu
noncomputable def Sy (num:Nat)(us us':List Nat)(acc:List (Option Nat))(k:Nat):List (Option Nat):=if up us' k=up us k then acc else acc.set k (some num)
noncomputable def SI (num:Nat)(us us':List Nat)(ks:List Nat)(acc:List (Option Nat)):List (Option Nat):=ks.foldl (Sy num us us') acc
noncomputable def tU (us ms:List Nat)(p:Nat×Nat):List Nat:=dU "size" "none" us ms (.join p.1 p.2)
noncomputable def tM (us ms:List Nat)(p:Nat×Nat):List Nat:=dM "size" us ms (.join p.1 p.2)
noncomputable def rT:List (Nat×Nat)->Nat->List Nat->List Nat->List (Option Nat)->List Nat×List Nat×List (Option Nat)
 |[],_,us,ms,ts=>(us,ms,ts)
 |p::r,k,us,ms,ts=>rT r (k+1) (tU us ms p) (tM us ms p) (SI k us (tU us ms p) (List.range us.length) ts)
theorem AK (j y:Str)(us ms:List Nat):aN (hJ j y us ms) (.int 2)=some (.fz (.tup (nums us))):=rfl
noncomputable def rU (n:Nat)(row:List (Nat×Nat)):List Nat:=(rT row 0 (List.range n) (List.replicate n (PY "size")) (List.replicate n none)).1
end Dp
end
section
namespace Fo
open PySem L2 Pt
theorem Way.nd {us:List Nat}{x:Nat}{l:List Nat}(w:Way us x l):l.Nodup:=by
 induction w with
 |head e=>simp
 | @step x l n w ih=>
  refine List.nodup_cons.mpr ⟨fun h=>?_,ih⟩
  obtain⟨l2,w2,_,hl,_⟩:=w.later x h
  have:=w2.det (.step n w)
  rw[this,List.length_cons] at hl
  omega
theorem D3 {us:List Nat}(b:∀x,x<us.length->up us x<us.length)(w:∀x,x<us.length->∃l,Way us x l):Fst us:=by
 refine⟨b,fun x=>if h:x<us.length then (Classical.choose (w x h)).length - 1 else 0,fun x hx=>?_,fun x hx ne=>?_⟩
 ·show (if h:x<us.length then _ else 0)<us.length
  rw[dif_pos hx]
  have h1:=Classical.choose_spec (w x hx)
  have h2:=uL h1.nd (h1.lt b hx)
  have h3:=h1.pos
  omega
 ·have hu:=b x hx
  show (if h:up us x<us.length then _ else 0)<(if h:x<us.length then _ else 0)
  rw[dif_pos hx,dif_pos hu]
  have h1:=Classical.choose_spec (w x hx)
  have h2:=Classical.choose_spec (w _ hu)
  have h3:=h1.det (.step ne h2)
  have h4:=h2.pos
  rw[h3,List.length_cons]
  omega
noncomputable def cn (n:Nat)(p:Nat->Bool):Nat:=(List.range n).countP p
theorem i6 {n:Nat}{p q:Nat->Bool}(h:∀y,y<n->p y=q y):cn n p=cn n q:=List.countP_congr fun y hy=>by rw[h y (List.mem_range.mp hy)]
theorem nW {n:Nat}{p:Nat->Bool}(h:∀y,y<n->p y=false):cn n p=0:=List.countP_eq_zero.mpr fun y hy=>by rw[h y (List.mem_range.mp hy)];exact Bool.false_ne_true
theorem uf {α:Type}(p q:α->Bool):∀l:List α,l.countP (fun a=>p a || q a)+l.countP (fun a=>p a&&q a)=l.countP p+l.countP q
 |[]=>rfl
 |a::l=>by
  have ih:=uf p q l
  simp only[List.countP_cons]
  cases p a<;>cases q a<;>simp<;>omega
theorem yZ {n:Nat}{p q:Nat->Bool}(h:∀y,y<n->p y=true->q y=false):cn n (fun y=>p y || q y)=cn n p+cn n q:=by
 have:=uf p q (List.range n)
 have z:(List.range n).countP (fun a=>p a&&q a)=0:=nW (n:=n) fun y hy=>by
  cases e:p y with
  |true=>rw[h y hy e];rfl
  |false=>rfl
 unfold cn
 omega
theorem DZ {n x:Nat}(hx:x<n):cn n (fun y=>decide (y=x))=1:=by
 have:cn n (fun y=>decide (y=x))=(List.range n).count x:=by
  unfold cn List.count
  exact List.countP_congr fun y _=>by simp
 rw[this,List.nodup_range.count,if_pos (List.mem_range.mpr hx)]
theorem r0 {α:Type}(q:α->Bool):∀l:List α,(l.map fun y=>if q y=true then 1 else 0).sum=l.countP q
 |[]=>rfl
 |a::l=>by
  rw[List.map_cons,List.sum_cons,r0 q l,List.countP_cons]
  split<;>omega
theorem y3 {α:Type}(f g:α->Nat):∀l:List α,(l.map fun y=>f y+g y).sum=(l.map f).sum+(l.map g).sum
 |[]=>rfl
 |a::l=>by
  rw[List.map_cons,List.sum_cons,y3 f g l,List.map_cons,List.sum_cons,List.map_cons,List.sum_cons];omega
theorem Pb {α β:Type}(r:α->β->Bool)(L:List β):∀C:List α,(C.map fun z=>L.countP (r z)).sum=(L.map fun y=>C.countP fun z=>r z y).sum
 |[]=>by
  rw[List.map_nil,List.sum_nil]
  induction L with
  |nil=>rfl
  |cons y L ih=>rw[List.map_cons,List.sum_cons,←ih];rfl
 |z::C=>by
  rw[List.map_cons,List.sum_cons,Pb r L C,←r0,←y3]
  congr 1
  refine List.map_congr_left fun y _=>?_
  rw[List.countP_cons];omega
noncomputable def j6 (us:List Nat)(x:Nat):Nat:=cn us.length fun y=>decide (x∈way us y)
noncomputable def ze (us:List Nat)(x z:Nat):Bool:=decide (up us z=x)&&decide (z≠x)
theorem E5 {us:List Nat}(b:∀x,x<us.length->up us x<us.length){x y:Nat}{l:List Nat}(w:Way us y l):y<us.length->cn us.length (fun z=>ze us x z&&decide (z∈l))=if x∈l/\y≠x then 1 else 0:=by
 induction w with
 | @head y e=>
  intro hy
  rw[if_neg (fun h=>h.2 (List.mem_singleton.mp h.1).symm)]
  refine nW fun z hz=>?_
  by_cases q:z=y
  ·subst q
   unfold ze
   rw[e]
   by_cases q:z=x
   ·rw[decide_eq_false (fun h=>h q:¬z≠x)];simp
   ·rw[decide_eq_false q];rfl
  ·rw[decide_eq_false (fun h=>q (List.mem_singleton.mp h)),Bool.and_false]
 | @step y l n w ih=>
  intro hy
  have ih:=ih (b y hy)
  have nd:=(Way.step n w).nd
  have ny:y∉l:=(List.nodup_cons.mp nd).1
  have e:cn us.length (fun z=>ze us x z&&decide (z∈y::l))=cn us.length (fun z=>ze us x z&&decide (z=y))+cn us.length (fun z=>ze us x z&&decide (z∈l)):=by
   rw[←yZ]
   ·refine i6 fun z _=>?_
    rw[←Bool.and_or_distrib_left,←Bool.decide_or]
    congr 1
    exact decide_eq_decide.mpr List.mem_cons
   ·intro z _ hz
    rw[Bool.and_eq_true,decide_eq_true_eq] at hz
    rw[hz.2,decide_eq_false ny,Bool.and_false]
  have e1:cn us.length (fun z=>ze us x z&&decide (z=y))=if up us y=x/\y≠x then 1 else 0:=by
   by_cases q:up us y=x/\y≠x
   ·rw[if_pos q,←DZ hy]
    refine i6 fun z _=>?_
    by_cases hz:z=y
    ·subst hz
     unfold ze
     rw[decide_eq_true q.1,decide_eq_true q.2,decide_eq_true rfl];rfl
    ·rw[decide_eq_false hz,Bool.and_false]
   ·rw[if_neg q]
    refine nW fun z _=>?_
    by_cases hz:z=y
    ·subst hz
     have:ze us x z=false:=by
      unfold ze
      rw[←Bool.decide_and]
      exact decide_eq_false q
     rw[this];rfl
    ·rw[decide_eq_false hz,Bool.and_false]
  rw[e,e1,ih]
  obtain⟨t,rfl⟩:∃t,l=up us y::t:=by
   cases w with
   |head _=>exact⟨_,rfl⟩
   |step _ _=>exact⟨_,rfl⟩
  by_cases q:up us y=x
  ·subst q
   rw[if_neg (by simp:¬(up us y∈up us y::t/\up us y≠up us y)),if_pos ⟨rfl,fun h=>n h.symm⟩,if_pos ⟨by simp,fun h=>n h.symm⟩]
  ·rw[if_neg (fun h=>q h.1)]
   by_cases hx:x∈up us y::t
   ·have hne:y≠x:=fun h=>ny (h▸hx)
    rw[if_pos ⟨hx,q⟩,if_pos ⟨List.mem_cons_of_mem _ hx,hne⟩]
   ·rw[if_neg (fun h=>hx h.1),if_neg]
    rintro⟨h1,h2⟩
    rcases List.mem_cons.mp h1 with h|h
    ·exact h2 h.symm
    ·exact hx h
theorem C3 {us:List Nat}(f:Fst us){x:Nat}(hx:x<us.length):j6 us x=1+(((List.range us.length).filter (ze us x)).map (j6 us)).sum:=by
 have e:(((List.range us.length).filter (ze us x)).map (j6 us)).sum=cn us.length fun y=>decide (x∈way us y)&&decide (y≠x):=by
  show (((List.range us.length).filter (ze us x)).map fun z=>(List.range us.length).countP fun y=>decide (z∈way us y)).sum=_
  rw[Pb (fun z y=>decide (z∈way us y))]
  unfold cn
  rw[←r0]
  congr 1
  refine List.map_congr_left fun y hy=>?_
  have hy:=List.mem_range.mp hy
  rw[List.countP_filter]
  have:=E5 f.bnd (aI f hy) (x:=x) hy
  unfold cn at this
  rw[show (fun z=>decide (z∈way us y)&&ze us x z)=fun z=>ze us x z&&decide (z∈way us y) by funext z;exact Bool.and_comm ..]
  rw[this,←Bool.decide_and]
  simp only[decide_eq_true_eq]
 rw[e]
 have:j6 us x=cn us.length (fun y=>decide (y=x) || (decide (x∈way us y)&&decide (y≠x))):=by
  unfold j6
  refine i6 fun y hy=>?_
  by_cases q:y=x
  ·subst q
   rw[decide_eq_true (aI f hy).mem_self,decide_eq_true rfl];rfl
  ·rw[decide_eq_false q,decide_eq_true q];simp
 rw[this,yZ (fun y hy h=>by rw[of_decide_eq_true h];simp),DZ hx]
end Fo
end
section
namespace Fo
open PySem L2 Pt
theorem uB {l m:List Nat}(h:m≠[]):bp (l++m)=bp m:=by
 induction l with
 |nil=>rfl
 |cons x l ih=>rw[List.cons_append,bc (by simp[h]),ih]
noncomputable def Mu (us:List Nat):List Nat:=(List.range us.length).map (hd us)
section
variable {P us vs:List Nat}
end
end Fo
end
section
namespace Fo
open PySem L2 Pt Dp
theorem BZ {x:Nat}:∀(l acc:List Nat),(∀t∈l,t<acc.length)->up (AL acc l) x=up acc x+l.count x
 |[],acc,_=>rfl
 |t::l,acc,h=>by
  show up (AL (acc.set t (up acc t+1)) l) x=_
  rw[BZ l _ fun u hu=>by rw[List.length_set];exact h u (List.mem_cons_of_mem _ hu),aT (h t List.mem_cons_self),List.count_cons]
  by_cases e:x=t
  ·subst e;rw[if_pos rfl,if_pos (by simp)];omega
  ·rw[if_neg e,if_neg (by simpa using fun q:t=x=>e q.symm)];rfl
theorem HH {us:List Nat}(f:Fst us){x:Nat}:∀(xs acc:List Nat),(∀y∈xs,y<us.length)->acc.length=us.length->up (xs.foldl (fun acc y=>AL acc (way us y)) acc) x=up acc x+xs.countP fun y=>decide (x∈way us y)
 |[],_,_,_=>rfl
 |y::xs,acc,h,ha=>by
  have hy:=h y List.mem_cons_self
  rw[List.foldl_cons,HH f xs _ (fun u hu=>h u (List.mem_cons_of_mem _ hu)) (by rw[nO,ha]),BZ _ _ fun t ht=>by rw[ha];exact dE f hy ht,List.countP_cons,(aI f hy).nd.count]
  simp only[decide_eq_true_eq];omega
theorem NY {us:List Nat}(f:Fst us){x:Nat}:up (sz us) x=j6 us x:=by
 have h:=HH f (x:=x) (List.range us.length) (List.replicate us.length 0) (fun y hy=>List.mem_range.mp hy) (List.length_replicate ..)
 have z:up (List.replicate us.length 0) x=0:=by
  unfold up
  rw[List.getD_eq_getElem?_getD,List.getElem?_replicate]
  split<;>rfl
 rw[z,Nat.zero_add] at h
 exact h
section
variable {us vs:List Nat}
section
variable (f:Frst us)(g:Frst vs)(h:us.length+vs.length≤40)
include f g h
end
end
section
variable {us:List Nat}{h u:Nat}
theorem y8 (f:Fst us)(hh:h<us.length)(eh:up us h=h)(hu:u<us.length)(ne:hd us u≠h){z:Nat}{l:List Nat}(w:Way us z l):z<us.length->Way (us.set h u) z (if bp l=h then l++way us u else l):=by
 have nu:h∉way us u:=fun q=>ne (by rw[←ot f hu q,gy f hh eh])
 have wu:Way (us.set h u) u (way us u):=(aI f hu).set hh nu
 induction w with
 | @head z e=>
  intro hz
  by_cases q:z=h
  ·subst q
   rw[if_pos (show bp [z]=z from rfl)]
   refine .step ?_ ?_
   ·rw[aT hh,if_pos rfl];intro e;exact nu (e▸(aI f hu).mem_self)
   ·rw[aT hh,if_pos rfl];exact wu
  ·rw[if_neg (show ¬bp [z]=h from q)]
   exact .head (by rw[aT hh,if_neg q,e])
 | @step z l n w ih=>
  intro hz
  have q:z≠h:=fun e=>n (by rw[e,eh])
  have ih:=ih (f.bnd z hz)
  rw[bc w.ne]
  have e:up (us.set h u) z=up us z:=by rw[aT hh,if_neg q]
  split
  ·next p=>rw[if_pos p] at ih;exact .step (by rw[e];exact n) (by rw[e];exact ih)
  ·next p=>rw[if_neg p] at ih;exact .step (by rw[e];exact n) (by rw[e];exact ih)
variable (f:Frst us)(hh:h<us.length)(eh:up us h=h)(hu:u<us.length)(ne:hd us u≠h)
include f hh eh hu ne
theorem CL:Frst (us.set h u):=by
 refine⟨by rw[List.length_set];exact f.one,by rw[List.length_set];exact f.most,D3 (fun x hx=>?_) fun x hx=>?_⟩<;>rw[List.length_set] at hx
 ·rw[List.length_set,aT hh]
  split
  ·exact hu
  ·exact f.fst.bnd x hx
 ·exact⟨_,y8 f.fst hh eh hu ne (aI f.fst hx) hx⟩
theorem BH {z:Nat}(hz:z<us.length):way (us.set h u) z=if hd us z=h then way us z++way us u else way us z:=
 fG (CL f hh eh hu ne).fst (by rw[List.length_set];exact hz) (y8 f.fst hh eh hu ne (aI f.fst hz) hz)
theorem F8 {x:Nat}:j6 (us.set h u) x=j6 us x+if x∈way us u then (cl us.length (hd us) h).length else 0:=by
 have e:hd us h=h:=gy f.fst hh eh
 unfold j6
 rw[List.length_set]
 have q:cn us.length (fun y=>decide (x∈way (us.set h u) y))=cn us.length (fun y=>decide (x∈way us y) || (decide (hd us y=h)&&decide (x∈way us u))):=i6 fun y hy=>by
  rw[BH f hh eh hu ne hy]
  by_cases p:hd us y=h
  ·rw[if_pos p,decide_eq_true p,Bool.true_and,←Bool.decide_or]
   exact decide_eq_decide.mpr List.mem_append
  ·rw[if_neg p,decide_eq_false p,Bool.false_and,Bool.or_false]
 rw[q,yZ]
 ·congr 1
  by_cases p:x∈way us u
  ·rw[if_pos p]
   unfold cl cn
   rw[←List.countP_eq_length_filter]
   refine List.countP_congr fun y _=>?_
   rw[decide_eq_true p,Bool.and_true,e]
  ·rw[if_neg p]
   exact nW fun y _=>by rw[decide_eq_false p,Bool.and_false]
 ·intro y hy p
  have p:=of_decide_eq_true p
  by_cases r:hd us y=h
  ·have:x∉way us u:=fun s=>ne (by rw[←ot f.fst hu s,ot f.fst hy p,r])
   rw[decide_eq_false this,Bool.and_false]
  ·rw[decide_eq_false r,Bool.false_and]
end
end Fo
end
section
namespace Dp
open PySem L2 Fo Pu Pt
section
variable {m a:Nat}(h1:1≤m)(h2:m<a)(h3:a≤5)
include h1 h2 h3
end
structure Rk (n:Nat)(us ms:List Nat):Prop where
 sto:Sto n us ms
 rise:∀x,x<n->up us x≠x->up ms x<up ms (up us x)
 Hi:∀h,h<n->up us h=h->2 ^ (up ms h)≤(cl n (hd us) h).length
section
variable {n:Nat}{us ms:List Nat}(R:Rk n us ms)
include R
end
theorem An {us:List Nat}{x t:Nat}(h:t<us.length):up (b0 "whole" us x) t=if t∈way us x then hd us x else up us t:=by
 rw[mQ h];rfl
end Dp
end
section
namespace Dp
open PySem L2 Fo Pu Pt
theorem yt {g h:Nat->Int}{t f:Nat}:∀{l:List Nat},(∀x∈l,g x≤h x+if x=t then (f:Int) else 0)->l.Nodup->(l.map g).sum≤(l.map h).sum+(if t∈l then (f:Int) else 0)
 |[],_,_=>Int.le_refl _
 |x::l,q,nd=>by
  obtain⟨n1,n2⟩:=List.nodup_cons.mp nd
  rw[List.map_cons,List.map_cons,List.sum_cons,List.sum_cons]
  have a:=yt (l:=l) (fun y hy=>q y (List.mem_cons_of_mem _ hy)) n2
  have b:=q x List.mem_cons_self
  by_cases e:x=t
  ·subst e
   rw[if_pos rfl] at b
   rw[if_neg n1] at a
   rw[if_pos List.mem_cons_self];omega
  ·rw[if_neg e] at b
   by_cases m:t∈l
   ·rw[if_pos m] at a
    rw[if_pos (List.mem_cons_of_mem _ m)];omega
   ·rw[if_neg m] at a
    rw[if_neg (by simp[m,Ne.symm e])];omega
theorem Ao {l m:List Int}(p:l.Perm m):l.sum=m.sum:=by
 induction p with
 |nil=>rfl
 |cons x _ ih=>rw[List.sum_cons,List.sum_cons,ih]
 |swap x y l=>simp only[List.sum_cons];omega
 |trans _ _ h1 h2=>exact h1.trans h2
theorem Gx {n:Nat}{w:List Nat}(nd:w.Nodup)(hw:∀t∈w,t<n){d:Nat->Int}(h:∀t,t<n->t∉w->d t=0):((List.range n).map d).sum=(w.map d).sum:=by
 have p:w.Perm ((List.range n).filter fun x=>decide (x∈w)):=(List.perm_ext_iff_of_nodup nd (List.nodup_range.filter _)).mpr fun x=>by
  rw[List.mem_filter,List.mem_range,decide_eq_true_eq]
  exact⟨fun q=>⟨hw x q,q⟩,fun q=>q.2⟩
 rw[Ao (p.map d)]
 have:∀l:List Nat,(∀t∈l,t<n)->(l.map d).sum=((l.filter fun x=>decide (x∈w)).map d).sum:=fun l=>by
  induction l with
  |nil=>intro _;rfl
  |cons x l ih=>
   intro hl
   have ih:=ih fun t ht=>hl t (List.mem_cons_of_mem _ ht)
   rw[List.map_cons,List.sum_cons,ih]
   by_cases m:x∈w
   ·rw[List.filter_cons_of_pos (by simpa using m),List.map_cons,List.sum_cons]
   ·rw[List.filter_cons_of_neg (by simpa using m),h x (hl x List.mem_cons_self) m];omega
 exact this _ fun t ht=>List.mem_range.mp ht
theorem y6 (g h:Nat->Int):∀l:List Nat,(l.map fun t=>g t - h t).sum=(l.map g).sum - (l.map h).sum
 |[]=>rfl
 |t::l=>by
  rw[List.map_cons,List.map_cons,List.map_cons,List.sum_cons,List.sum_cons,List.sum_cons,y6 g h l];omega
section
variable {n:Nat}{us ms:List Nat}(R:Rk n us ms)
include R
end
end Dp
end
section
namespace Fo
open PySem L2 Pt Dp
inductive Nx (us:List Nat) (S:Nat->Bool):Nat->Nat->Prop where
 |here {y:Nat}:S y=false->Nx us S y y
 |over {y u:Nat}:S y=true->up us y≠y->Nx us S (up us y) u->Nx us S y u
theorem Nx.on {us:List Nat}{S:Nat->Bool}{y u:Nat}(h:Nx us S y u){l:List Nat}(w:Way us y l):∃l2,Way us u l2/\S u=false/\l2.length≤l.length/\(∀t∈l2,t∈l)/\∀t∈l,t∈l2\/S t=true:=by
 induction h generalizing l with
 |here e=>exact⟨l,w,e,Nat.le_refl _,fun _ h=>h,fun _ h=>.inl h⟩
 |over e n _ ih=>
  cases w with
  |head q=>exact absurd q n
  |step _ w=>
   obtain⟨l2,w2,e2,c,s1,s2⟩:=ih w
   refine⟨l2,w2,e2,by rw[List.length_cons];omega,fun t ht=>List.mem_cons_of_mem _ (s1 t ht),fun t ht=>?_⟩
   rcases List.mem_cons.mp ht with rfl|ht
   ·exact .inr e
   ·exact s2 t ht
structure Skp (us us' W:List Nat)(S:Nat->Bool):Prop where
 len:us'.length=us.length
 way:∃x,x<us.length/\Way us x W
 sub:∀t,S t=true->t∈W/\up us t≠t/\∃p∈W,up us p=t/\p≠t
 hd:∀y,y<us.length->up us y=y->up us' y=y
 st:∀y,y<us.length->up us y≠y->(y∈W/\S (up us y)=true/\Nx us S (up us y) (up us' y))\/(up us' y=up us y/\¬(y∈W/\S (up us y)=true))
section
variable {us us' W:List Nat}{S:Nat->Bool}
theorem Way.inW {x:Nat}(w:Way us x W){y:Nat}{l:List Nat}(wy:Way us y l)(h:y∈W):∀t∈l,t∈W:=by
 obtain⟨l2,w2,_,_,s⟩:=w.later y h
 rw[←w2.det wy];exact s
theorem Way.pred {y:Nat}{l:List Nat}(w:Way us y l):∀t∈l,t≠y->∃p∈l,up us p=t/\p≠t:=by
 induction w with
 |head _=>intro t ht n;exact absurd (List.mem_singleton.mp ht) n
 | @step y l ne w ih=>
  intro t ht n
  rcases List.mem_cons.mp ht with rfl|ht
  ·exact absurd rfl n
  ·by_cases e:t=up us y
   ·exact⟨y,List.mem_cons_self,e.symm,fun z=>n z.symm⟩
   ·obtain⟨p,hp,e1,e2⟩:=ih t ht e
    exact⟨p,List.mem_cons_of_mem _ hp,e1,e2⟩
theorem Way.uniq {y:Nat}{l:List Nat}(w:Way us y l){p q t:Nat}(hp:p∈l)(hq:q∈l)(ep:up us p=t)(eq:up us q=t)(np:p≠t)(nq:q≠t):p=q:=by
 have key:∀{y:Nat} {l:List Nat},Way us y l->∀p∈l,∀q∈l,up us p=up us q->up us p≠p->up us q≠q->p=q:=fun w=>by
  induction w with
  |head _=>intro p hp q hq _ _ _;rw[List.mem_singleton.mp hp,List.mem_singleton.mp hq]
  | @step y l ne w ih=>
   intro p hp q hq e np nq
   have nd:=(Way.step ne w).nd
   have ny:y∉l:=(List.nodup_cons.mp nd).1
   have low:∀p∈l,up us p≠p->up us p≠up us y:=fun p hp np e=>by
    obtain⟨l2,w2,_,hl,_⟩:=w.later p hp
    cases w2 with
    |head q=>exact np q
    |step _ w3=>
     rw[e] at w3
     have:=w3.det w
     rw[List.length_cons,this] at hl
     omega
   rcases List.mem_cons.mp hp with rfl|hp2<;>rcases List.mem_cons.mp hq with rfl|hq2
   ·rfl
   ·exact absurd e.symm (low q hq2 nq)
   ·exact absurd e (low p hp2 np)
   ·exact ih p hp2 q hq2 e np nq
 exact key w p hp q hq (by rw[ep,eq]) (by rw[ep];exact fun z=>np z.symm) (by rw[eq];exact fun z=>nq z.symm)
theorem Skp.ways (s:Skp us us' W S)(f:Fst us):∀(k y:Nat) (l:List Nat),y<us.length->Way us y l->l.length≤k->∃l',Way us' y l'/\∀t,t∈l'↔t∈l/\¬(S t=true/\∃p∈l,p∈W/\up us p=t/\p≠t)
 |0,y,l,hy,w,hk=>absurd w.pos (by omega)
 |k+1,y,l,hy,w,hk=>by
  obtain⟨x,hx,wx⟩:=s.way
  cases w with
  |head e=>
   refine⟨[y],.head (s.hd y hy e),fun t=>⟨fun h=>⟨h,fun ⟨_,p,hp,_,e1,n⟩=>?_⟩,fun h=>h.1⟩⟩
   rw[List.mem_singleton.mp hp] at e1 n
   exact n (by rw[←e1,e])
  | @step _ l ne w=>
   have hu:=f.bnd y hy
   have nd:=(Way.step ne w).nd
   have ny:y∉l:=(List.nodup_cons.mp nd).1
   have noy:¬∃p∈y::l,p∈W/\up us p=y/\p≠y:=fun ⟨p,hp,_,e1,n⟩=>by
    rcases List.mem_cons.mp hp with rfl|hp
    ·exact n rfl
    ·exact ny (by rw[←e1];exact w.closed p hp)
   rw[List.length_cons] at hk
   rcases s.st y hy ne with ⟨hW,hS,nx⟩|⟨e,hn⟩
   ·obtain⟨l2,w2,e2,c,s1,s2⟩:=nx.on w
    have hu':up us' y<us.length:=by
     have:=w.lt f.bnd hu
     exact this _ (s1 _ w2.mem_self)
    obtain⟨l',w',h'⟩:=s.ways f k _ l2 hu' w2 (by omega)
    have ne':up us' y≠y:=fun z=>ny (s1 y (by rw[←z];exact w2.mem_self))
    have inW:∀t∈l,t∈W:=fun t ht=>wx.inW (.step ne w) hW t (List.mem_cons_of_mem _ ht)
    refine⟨y::l',.step ne' w',fun t=>?_⟩
    by_cases ty:t=y
    ·subst ty
     exact⟨fun _=>⟨List.mem_cons_self,fun z=>noy z.2⟩,fun _=>List.mem_cons_self⟩
    ·constructor
     ·intro h
      have h:=(List.mem_cons.mp h).resolve_left ty
      obtain⟨a,b⟩:=(h' t).mp h
      refine⟨List.mem_cons_of_mem _ (s1 t a),fun ⟨q1,p,hp,pW,e1,n⟩=>b ⟨q1,?_⟩⟩
      have hne:t≠up us' y:=fun z=>by rw[z,e2] at q1;cases q1
      obtain⟨p2,hp2,e3,n3⟩:=w2.pred t a hne
      exact⟨p2,hp2,inW p2 (s1 p2 hp2),e3,n3⟩
     ·rintro⟨a,b⟩
      have a:=(List.mem_cons.mp a).resolve_left ty
      refine List.mem_cons_of_mem _ ((h' t).mpr ?_)
      rcases s2 t a with a2|a2
      ·exact⟨a2,fun ⟨q1,p,hp,pW,e1,n⟩=>b ⟨q1,p,List.mem_cons_of_mem _ (s1 p hp),pW,e1,n⟩⟩
      ·exfalso
       obtain⟨p,hp,e1,n⟩:=(Way.step ne w).pred t (List.mem_cons_of_mem _ a) ty
       refine b ⟨a2,p,hp,?_,e1,n⟩
       rcases List.mem_cons.mp hp with rfl|hp
       ·exact hW
       ·exact inW p hp
   ·obtain⟨l',w',h'⟩:=s.ways f k _ l hu w (by omega)
    refine⟨y::l',.step (by rw[e];exact ne) (by rw[e];exact w'),fun t=>?_⟩
    by_cases ty:t=y
    ·subst ty
     exact⟨fun _=>⟨List.mem_cons_self,fun z=>noy z.2⟩,fun _=>List.mem_cons_self⟩
    ·constructor
     ·intro h
      have h:=(List.mem_cons.mp h).resolve_left ty
      obtain⟨a,b⟩:=(h' t).mp h
      refine⟨List.mem_cons_of_mem _ a,fun ⟨q1,p,hp,pW,e1,n⟩=>?_⟩
      rcases List.mem_cons.mp hp with rfl|hp
      ·exact hn ⟨pW,by rw[e1];exact q1⟩
      ·exact b ⟨q1,p,hp,pW,e1,n⟩
     ·rintro⟨a,b⟩
      have a:=(List.mem_cons.mp a).resolve_left ty
      exact List.mem_cons_of_mem _ ((h' t).mpr ⟨a,fun ⟨q1,p,hp,pW,e1,n⟩=>b ⟨q1,p,List.mem_cons_of_mem _ hp,pW,e1,n⟩⟩)
theorem Skp.mem (s:Skp us us' W S)(f:Fst us)(f':Fst us'){y:Nat}(hy:y<us.length)(t:Nat):t∈Fo.way us' y↔t∈Fo.way us y/\¬(S t=true/\∃p∈Fo.way us y,p∈W/\up us p=t/\p≠t):=by
 obtain⟨l',w',h⟩:=s.ways f _ y _ hy (aI f hy) (Nat.le_refl _)
 rw[fG f' (by rw[s.len];exact hy) w']
 exact h t
theorem Skp.szn (s:Skp us us' W S)(f:Fst us)(f':Fst us'){t:Nat}(h:S t=false):j6 us' t=j6 us t:=by
 unfold j6
 rw[s.len]
 exact i6 fun y hy=>decide_eq_decide.mpr ((s.mem f f' hy t).trans ⟨fun q=>q.1,fun q=>⟨q,fun z=>by rw[h] at z;cases z.1⟩⟩)
theorem Skp.szs (s:Skp us us' W S)(f:Fst us)(f':Fst us'){t p:Nat}(h:S t=true)(hp:p∈W)(e:up us p=t)(n:p≠t):j6 us' t+j6 us p=j6 us t:=by
 obtain⟨x,hx,wx⟩:=s.way
 unfold j6
 rw[s.len,←yZ]
 ·refine i6 fun y hy=>?_
  rw[←Bool.decide_or]
  refine decide_eq_decide.mpr ⟨fun q=>?_,fun q=>?_⟩
  ·rcases q with q|q
   ·exact ((s.mem f f' hy t).mp q).1
   ·have:=(aI f hy).closed p q
    rwa [e] at this
  ·by_cases z:p∈Fo.way us y
   ·exact .inr z
   ·refine .inl ((s.mem f f' hy t).mpr ⟨q,fun ⟨_,p2,hp2,pW,e2,n2⟩=>z ?_⟩)
    rw[wx.uniq hp pW e e2 n n2];exact hp2
 ·intro y hy q
  have q:=of_decide_eq_true q
  exact decide_eq_false fun z=>((s.mem f f' hy t).mp q).2 ⟨h,p,z,hp,e,n⟩
end
end Fo
end
section
namespace Fo
open PySem L2 Pt Dp
theorem yf {a b:Nat}(h:a≤b):a.log2≤b.log2:=by
 by_cases z:a=0
 ·subst z;exact Nat.zero_le _
 ·refine Decidable.byContradiction fun q=>?_
  have q:b.log2<a.log2:=by omega
  have h1:=(Nat.log2_lt (by omega:b≠0)).mp q
  have h2:=Nat.log2_self_le z
  omega
theorem MY {a p t:Nat}(e:a+p=t)(ha:1≤a)(hp:1≤p)(h:p.log2=t.log2):a.log2+1≤t.log2:=by
 have h1:=Nat.log2_self_le (show p≠0 by omega)
 have h2:=Nat.lt_log2_self (n:=t)
 rw[h] at h1
 rw[Nat.pow_succ] at h2
 exact (Nat.log2_lt (by omega:a≠0)).mpr (by omega)
theorem tR {us:List Nat}(f:Fst us){x:Nat}(hx:x<us.length):1≤j6 us x:=by
 rw[C3 f hx];omega
noncomputable def jh (us:List Nat)(x:Nat):Int:=((j6 us x).log2:Nat)
noncomputable def ky (us:List Nat):Int:=((List.range us.length).map (jh us)).sum
noncomputable def qv (S:Nat->Bool)(t:Nat):Int:=if S t=true then 1 else 0
section
variable {us us' W:List Nat}{S:Nat->Bool}
theorem Skp.one (s:Skp us us' W S)(f:Fst us)(f':Fst us'){t:Nat}(ht:t<us.length):jh us' t≤jh us t/\(S t=false->jh us' t=jh us t):=by
 unfold jh
 cases h:S t with
 |false=>rw[s.szn f f' h];exact⟨Int.le_refl _,fun _=>rfl⟩
 |true=>
  obtain⟨_,_,p,hp,e,n⟩:=s.sub t h
  have e1:=s.szs f f' h hp e n
  have:=yf (show j6 us' t≤j6 us t by omega)
  exact⟨by omega,fun z=>by cases z⟩
theorem Skp.path (s:Skp us us' W S)(f:Fst us)(f':Fst us'){y:Nat}{l:List Nat}(w:Way us y l):y<us.length->y∈W->(l.tail.map (qv S)).sum≤(l.tail.map fun t=>jh us t - jh us' t).sum+jh us (bp l) - jh us y:=by
 obtain⟨x,hx,wx⟩:=s.way
 induction w with
 | @head y e=>intro _ _;show (0:Int)≤0+jh us y - jh us y;omega
 | @step y l ne w ih=>
  intro hy hW
  have hu:=f.bnd y hy
  have ih:=ih hu (wx.closed y hW)
  obtain⟨m,rfl⟩:∃m,l=up us y::m:=by
   cases w with
   |head _=>exact⟨_,rfl⟩
   |step _ _=>exact⟨_,rfl⟩
  rw[bc (by simp),List.tail_cons,List.map_cons,List.map_cons,List.sum_cons,List.sum_cons]
  rw[List.tail_cons] at ih
  have key:qv S (up us y)≤(jh us (up us y) - jh us' (up us y))+jh us (up us y) - jh us y:=by
   have o:=s.one f f' hu
   have le:jh us y≤jh us (up us y):=by
    unfold jh
    have:=yf (show j6 us y≤j6 us (up us y) by
     unfold j6
     exact List.countP_mono_left fun z hz h=>decide_eq_true (by
      have h:=of_decide_eq_true h
      exact (aI f (List.mem_range.mp hz)).closed y h))
    omega
   unfold qv
   cases h:S (up us y) with
   |false=>rw[if_neg Bool.false_ne_true];omega
   |true=>
    rw[if_pos rfl]
    have e1:=s.szs f f' h hW rfl (fun z=>ne z.symm)
    have p1:=tR f hy
    have p2:=tR f' (show up us y<us'.length by rw[s.len];exact hu)
    have le1:=yf (show j6 us y≤j6 us (up us y) by omega)
    have le2:=yf (show j6 us' (up us y)≤j6 us (up us y) by omega)
    unfold jh
    by_cases q:(j6 us y).log2=(j6 us (up us y)).log2
    ·have:=MY e1 p2 p1 q
     omega
    ·omega
  omega
theorem Skp.cost (s:Skp us us' W S)(f:Fst us)(f':Fst us'){x:Nat}(hx:x<us.length)(w:Way us x W):(W.tail.map (qv S)).sum≤ky us - ky us'+jh us (bp W):=by
 have p:=s.path f f' w hx w.mem_self
 have off:=Gx w.nd (fun t ht=>w.lt f.bnd hx t ht) (d:=fun t=>jh us t - jh us' t) (fun t ht nt=>by
  have:S t=false:=by
   cases h:S t with
   |false=>rfl
   |true=>exact absurd (s.sub t h).1 nt
  show jh us t - jh us' t=0
  rw[(s.one f f' ht).2 this];omega)
 have e:ky us - ky us'=(W.map fun t=>jh us t - jh us' t).sum:=by
  rw[←off,y6];unfold ky;rw[s.len]
 obtain⟨t,rfl⟩:=w.cons
 rw[List.map_cons,List.sum_cons] at e
 rw[List.tail_cons] at p ⊢
 have o:=(s.one f f' hx).1
 have z:(0:Int)≤jh us x:=by unfold jh;omega
 omega
end
end Fo
end
section
namespace Fo
open PySem L2 Pt Dp
section
variable {us:List Nat}
theorem nQ {x t:Nat}(f:Fst us)(hx:x<us.length)(h:t∈way us x)(e:up us t=t):t=hd us x:=by
 rw[←ot f hx h];exact (gy f (dE f hx h) e).symm
theorem EF {x:Nat}{W:List Nat}(w:Way us x W){p:Nat}(hp:p∈W)(e:up us p=x):p=x:=by
 cases w with
 |head _=>exact List.mem_singleton.mp hp
 | @step _ l ne w=>
  have ny:x∉l:=(List.nodup_cons.mp (Way.step ne w).nd).1
  rcases List.mem_cons.mp hp with q|q
  ·exact q
  ·exact absurd (by rw[←e];exact w.closed p q) ny
noncomputable def Ep (us:List Nat)(x t:Nat):Bool:=decide (t∈way us x)&&decide (t≠x)&&decide (t≠hd us x)
theorem Swh_iff {x t:Nat}:Ep us x t=true↔t∈way us x/\t≠x/\t≠hd us x:=by
 unfold Ep
 rw[Bool.and_eq_true,Bool.and_eq_true,decide_eq_true_eq,decide_eq_true_eq,decide_eq_true_eq,and_assoc]
theorem zT (f:Frst us){x:Nat}(hx:x<us.length):Skp us (b0 "whole" us x) (way us x) (Ep us x):=by
 have w:=aI f.fst hx
 have wh:∀t,t<us.length->up (b0 "whole" us x) t=if t∈way us x then hd us x else up us t:=fun t ht=>An ht
 have nx:∀(y:Nat) (l:List Nat),Way us y l->(∀t∈l,t∈way us x/\t≠x)->Nx us (Ep us x) y (hd us x):=fun y l wy=>by
  induction wy with
  | @head y e=>
   intro h
   have q:=nQ f.fst hx (h y (List.mem_singleton.mpr rfl)).1 e
   have:Ep us x y=false:=by
    cases z:Ep us x y with
    |false=>rfl
    |true=>exact absurd q (Swh_iff.mp z).2.2
   rw[q] at this ⊢
   exact .here this
  | @step y l ne wy ih=>
   intro h
   have h0:=h y List.mem_cons_self
   have q:y≠hd us x:=fun z=>ne (by rw[z];exact oy f.fst hx)
   exact .over (Swh_iff.mpr ⟨h0.1,h0.2,q⟩) ne (ih fun t ht=>h t (List.mem_cons_of_mem _ ht))
 refine⟨bV ..,⟨x,hx,w⟩,fun t h=>?_,fun y hy e=>?_,fun y hy ne=>?_⟩
 ·obtain⟨h1,h2,h3⟩:=Swh_iff.mp h
  exact⟨h1,fun e=>h3 (nQ f.fst hx h1 e),w.pred t h1 h2⟩
 ·rw[wh y hy]
  split
  ·next q=>exact (nQ f.fst hx q e).symm
  ·exact e
 ·rw[wh y hy]
  by_cases q:y∈way us x
  ·rw[if_pos q]
   have hu:=f.fst.bnd y hy
   have wu:=aI f.fst hu
   have uW:=w.closed y q
   have nux:up us y≠x:=fun z=>ne (z.trans (EF w q z).symm)
   by_cases e:up us y=hd us x
   ·refine .inr ⟨e.symm,fun z=>(Swh_iff.mp z.2).2.2 e⟩
   ·refine .inl ⟨q,Swh_iff.mpr ⟨uW,nux,e⟩,nx _ _ wu fun t ht=>⟨w.inW wu uW t ht,fun z=>?_⟩⟩
    subst z
    have ny:y∉way us (up us y):=(List.nodup_cons.mp (Way.step ne wu).nd).1
    obtain⟨l2,w2,_,_,sub⟩:=wu.later t ht
    have:=w2.det w
    exact ny (sub y (by rw[this];exact q))
  ·rw[if_neg q]
   exact .inr ⟨rfl,fun z=>q z.1⟩
theorem zN (f:Frst us){x:Nat}(hx:x<us.length):((way us x).length:Int) - 1≤((way us x).tail.map (qv (Ep us x))).sum+1:=by
 have w:=aI f.fst hx
 by_cases e:up us x=x
 ·rw[lL f.fst hx e];show (1:Int) - 1≤0+1;omega
 ·have hu:=f.fst.bnd x hx
  have wu:=aI f.fst hu
  have ew:way us x=x::way us (up us x):=fG f.fst hx (.step e wu)
  have nx:x∉way us (up us x):=(List.nodup_cons.mp (Way.step e wu).nd).1
  have key:∀(y:Nat) (l:List Nat),Way us y l->(∀t∈l,t∈way us x/\t≠x)->(l.length:Int) - 1≤(l.map (qv (Ep us x))).sum:=fun y l wy=>by
   induction wy with
   | @head y e=>
    intro _
    have:0≤qv (Ep us x) y:=by unfold qv;split<;>omega
    rw[List.map_cons,List.sum_cons];show (1:Int) - 1≤_+0;omega
   | @step y l ne wy ih=>
    intro h
    have h0:=h y List.mem_cons_self
    have q:y≠hd us x:=fun z=>ne (by rw[z];exact oy f.fst hx)
    have:=ih fun t ht=>h t (List.mem_cons_of_mem _ ht)
    rw[List.map_cons,List.sum_cons,List.length_cons]
    have i:qv (Ep us x) y=1:=if_pos (Swh_iff.mpr ⟨h0.1,h0.2,q⟩)
    omega
  have:=key _ _ wu fun t ht=>⟨by rw[ew];exact List.mem_cons_of_mem _ ht,fun z=>nx (z▸ht)⟩
  have et:(way us x).tail=way us (up us x):=by rw[ew];rfl
  have el:(way us x).length=(way us (up us x)).length+1:=by rw[ew,List.length_cons]
  rw[et,el];omega
theorem AQ:∀(W:List Nat) {z:Nat},Way us z W->∀y∈W,up us y≠y->(y∈bU W↔up us y∉bU W)
 |[],_,w,_,hy,_=>by cases hy
 |[z],_,w,y,hy,ne=>by
  cases w with
  |head e=>rw[List.mem_singleton.mp hy] at ne;exact absurd e ne
  |step _ w=>cases w
 |z::y::l,_,w,t,ht,ne=>by
  have nd:=w.nd
  obtain⟨nz,nd2⟩:=List.nodup_cons.mp nd
  obtain⟨ny,_⟩:=List.nodup_cons.mp nd2
  have zy:z≠y:=fun e=>nz (e▸List.mem_cons_self)
  have ne1:∀u,u∈l->u≠z:=fun u hu e=>nz (e▸List.mem_cons_of_mem _ hu)
  have evc:∀u,u∈bU (z::y::l)↔u=z\/u∈bU l:=fun u=>List.mem_cons
  have hy0:y∉bU (z::y::l):=fun q=>by
   rcases (evc y).mp q with q|q
   ·exact zy q.symm
   ·exact ny (fX _ _ q)
  cases w with
  |step n1 w=>
   rcases List.mem_cons.mp ht with h1|h1
   ·subst h1
    have eu:up us t=y:=by cases w<;>rfl
    rw[eu]
    exact⟨fun _=>hy0,fun _=>(evc t).mpr (.inl rfl)⟩
   ·rcases List.mem_cons.mp h1 with h2|h2
    ·subst h2
     cases w with
     |head e=>exact absurd e ne
     |step n2 w2=>
      obtain⟨m,el⟩:=w2.cons
      have:up us (up us z)∈bU l:=by
       rw[el]
       cases m<;>exact List.mem_cons_self
      exact⟨fun q=>absurd q hy0,fun q=>absurd ((evc _).mpr (.inr this)) q⟩
    ·cases w with
     |head e=>cases h2
     |step n2 w2=>
      have ih:=AQ l w2 t h2 ne
      have hu:=w2.closed t h2
      have a1:t∈bU (z::up us z::l)↔t∈bU l:=(evc t).trans ⟨fun q=>q.resolve_left (ne1 t h2),.inr⟩
      have a2:up us t∈bU (z::up us z::l)↔up us t∈bU l:=(evc _).trans ⟨fun q=>q.resolve_left (ne1 _ hu),.inr⟩
      rw[a1,a2];exact ih
noncomputable def zq (us:List Nat)(x t:Nat):Bool:=decide (t∈way us x)&&!decide (t∈bU (way us x))&&decide (up us t≠t)
theorem Shv_iff {x t:Nat}:zq us x t=true↔t∈way us x/\t∉bU (way us x)/\up us t≠t:=by
 unfold zq
 rw[Bool.and_eq_true,Bool.and_eq_true,decide_eq_true_eq,Bool.not_eq_true',decide_eq_false_iff_not,decide_eq_true_eq,and_assoc]
theorem xr {x t:Nat}(h:t<us.length):up (b0 "halves" us x) t=if t∈bU (way us x) then up us (up us t) else up us t:=by
 rw[mQ h];rfl
theorem wm (f:Frst us){x:Nat}(hx:x<us.length):Skp us (b0 "halves" us x) (way us x) (zq us x):=by
 have w:=aI f.fst hx
 have wh:∀t,t<us.length->up (b0 "halves" us x) t=if t∈bU (way us x) then up us (up us t) else up us t:=fun t ht=>xr ht
 have alt:=AQ (way us x) w
 refine⟨bV ..,⟨x,hx,w⟩,fun t h=>?_,fun y hy e=>?_,fun y hy ne=>?_⟩
 ·obtain⟨h1,h2,h3⟩:=Shv_iff.mp h
  refine⟨h1,h3,w.pred t h1 fun z=>h2 ?_⟩
  obtain⟨m,e⟩:=w.cons
  rw[z,e]
  cases m<;>exact List.mem_cons_self
 ·rw[wh y hy,e,e];split<;>rfl
 ·rw[wh y hy]
  by_cases q:y∈bU (way us x)
  ·rw[if_pos q]
   have qW:=fX _ _ q
   have n1:=(alt y qW ne).mp q
   by_cases e:up us (up us y)=up us y
   ·exact .inr ⟨e,fun z=>(Shv_iff.mp z.2).2.2 e⟩
   ·have uW:=w.closed y qW
    have s1:zq us x (up us y)=true:=Shv_iff.mpr ⟨uW,n1,e⟩
    refine .inl ⟨qW,s1,.over s1 e (.here ?_)⟩
    cases z:zq us x (up us (up us y)) with
    |false=>rfl
    |true=>exact absurd (fun q2=>(Shv_iff.mp z).2.1 q2) fun q2=>n1 ((alt _ uW e).mpr q2)
  ·rw[if_neg q]
   refine .inr ⟨rfl,fun z=>?_⟩
   exact (Shv_iff.mp z.2).2.1 (Decidable.byContradiction fun q2=>q ((alt y z.1 ne).mpr q2))
theorem A2 (S:Nat->Bool):∀(l:List Nat) {z:Nat},Way us z l->(∀t∈l,t∉bU l->up us t≠t->S t=true)->((l.length / 2:Nat):Int)≤(l.map (qv S)).sum+1
 |[],_,w,_=>by cases w
 |[z],_,w,_=>by
  have:0≤qv S z:=by unfold qv;split<;>omega
  rw[List.map_cons,List.sum_cons];rw[List.map_nil,List.sum_nil];have e:(([z].length / 2:Nat):Int)=0:=(by simp);omega
 |z::y::l,_,w,h=>by
  have nd:=w.nd
  obtain⟨nz,nd2⟩:=List.nodup_cons.mp nd
  obtain⟨ny,_⟩:=List.nodup_cons.mp nd2
  have zy:z≠y:=fun e=>nz (e▸List.mem_cons_self)
  have evc:∀u,u∈bU (z::y::l)↔u=z\/u∈bU l:=fun u=>List.mem_cons
  have p:∀t,0≤qv S t:=fun t=>by unfold qv;split<;>omega
  have pz:=p z
  have py:=p y
  rw[List.map_cons,List.map_cons,List.sum_cons,List.sum_cons]
  cases w with
  |step n1 w=>cases w with
   |head e=>rw[List.map_nil,List.sum_nil];have e:(([z,up us z].length / 2:Nat):Int)=1:=(by simp);omega
   |step n2 w2=>
    have ih:=A2 S l w2 fun t ht ne nu=>h t (List.mem_cons_of_mem _ (List.mem_cons_of_mem _ ht)) (fun q=>by
     rcases (evc t).mp q with q|q
     ·exact nz (q▸List.mem_cons_of_mem _ ht)
     ·exact ne q) nu
    have sy:S (up us z)=true:=h (up us z) (List.mem_cons_of_mem _ List.mem_cons_self) (fun q=>by
     rcases (evc (up us z)).mp q with q|q
     ·exact zy q.symm
     ·exact ny (fX _ _ q)) n2
    have iy:qv S (up us z)=1:=if_pos sy
    have el:(z::up us z::l).length / 2=l.length / 2+1:=by simp only[List.length_cons];omega
    rw[el];omega
theorem wb (f:Frst us){x:Nat}(hx:x<us.length):(((way us x).length / 2:Nat):Int)≤((way us x).tail.map (qv (zq us x))).sum+1:=by
 have w:=aI f.fst hx
 have:=A2 (zq us x) (way us x) w fun t h1 h2 h3=>Shv_iff.mpr ⟨h1,h2,h3⟩
 obtain⟨m,e⟩:=w.cons
 have sx:zq us x x=false:=by
  cases z:zq us x x with
  |false=>rfl
  |true=>
   refine absurd ?_ (Shv_iff.mp z).2.1
   rw[e]
   cases m<;>exact List.mem_cons_self
 have ix:qv (zq us x) x=0:=by unfold qv;rw[sx];rfl
 have et:((way us x).map (qv (zq us x))).sum=qv (zq us x) x+((way us x).tail.map (qv (zq us x))).sum:=by
  rw[e,List.map_cons,List.sum_cons];rfl
 omega
theorem B5 (f:Frst us){x:Nat}(hx:x<us.length){y:Str}(hy:y = "whole"\/y = "halves"):ky (b0 y us x)+(jJ y us x:Nat)≤ky us+1+jh us (hd us x):=by
 have w:=aI f.fst hx
 rcases hy with rfl|rfl
 ·have f':=fJ f hx (y:="whole") (by decide)
  have c:=(zT f hx).cost f.fst f'.fst hx w
  have n:=zN f hx
  have st:jJ "whole" us x=(way us x).length - 1:=by unfold jJ;rw[if_neg (by decide)];rfl
  have pos:=w.pos
  rw[st]
  show _≤_+jh us (bp (way us x))
  omega
 ·have f':=fJ f hx (y:="halves") (by decide)
  have c:=(wm f hx).cost f.fst f'.fst hx w
  have n:=wb f hx
  have st:jJ "halves" us x=(way us x).length / 2:=by unfold jJ;rw[if_pos rfl]
  rw[st]
  show _≤_+jh us (bp (way us x))
  omega
theorem CI (f:Fst us){h:Nat}(hh:h<us.length)(e:up us h=h):j6 us h=(cl us.length (hd us) h).length:=by
 unfold j6 cl cn
 rw[←List.countP_eq_length_filter]
 refine List.countP_congr fun y hy=>?_
 have hy:=List.mem_range.mp hy
 rw[decide_eq_true_eq,decide_eq_true_eq,gy f hh e]
 exact⟨fun q=>(nQ f hy q e).symm,fun q=>by rw[←q];exact lV (aI f hy).ne⟩
theorem ID (f:Frst us){u t:Nat}(hu:u<us.length)(ht:t<us.length)(eu:up us u=u)(et:up us t=t)(ne:u≠t):ky (us.set u t)≤ky us+(((cl us.length (hd us) u).length+(cl us.length (hd us) t).length).log2:Nat):=by
 have nh:hd us t≠u:=by rw[gy f.fst ht et];exact fun e=>ne e.symm
 have h:=yt (g:=jh (us.set u t)) (h:=jh us) (t:=t) (f:=((cl us.length (hd us) u).length+(cl us.length (hd us) t).length).log2) (l:=List.range us.length) (fun x hx=>?_) List.nodup_range
 ·rw[if_pos (List.mem_range.mpr ht)] at h
  unfold ky
  rw[List.length_set];exact h
 ·have s:=F8 f hu eu ht nh (x:=x)
  rw[lL f.fst ht et] at s
  unfold jh
  by_cases q:x=t
  ·subst q
   rw[if_pos (List.mem_singleton.mpr rfl),CI f.fst ht et] at s
   rw[if_pos rfl,s,Nat.add_comm]
   omega
  ·rw[if_neg (fun z=>q (List.mem_singleton.mp z))] at s
   rw[if_neg q,s];simp
end
end Fo
end
section
namespace K25
open PySem L2 Fo Pu Dp
noncomputable def iV (ρ:ak):Out:=(bC (ah aN (ao aW (aa (fV 0) (aa (fV 1) ae))) (mT (fC (.int 1))))) ρ
noncomputable def dQ:List PV->Option PR:=run 2 2 iV
theorem qm {a0 a1:PV}:dQ [a0,a1]=(iV [some (.val a0),some (.val a1)]).res:=Eq.trans rfl rfl
noncomputable def eT (ρ:ak):Option Bool:=(fT (ah eD (ao dQ (aa (fV 1) (aa (fV 0) ae))) (ao dQ (aa (fV 1) (aa (fV 2) ae))))) ρ
noncomputable def eM (ρ:ak):Option RV:=(fV 0) ρ
noncomputable def fL (ρ:ak):Out:=(bC (fB gJ (aa (gH [none,some 0,some 1] (lX lF (aa (fB gJ (aa (fV 0) ae)) ae)) (gN 0) eT eM) ae))) ρ
noncomputable def b5:List PV->Option PR:=run 2 2 fL
theorem lZ {a0 a1:PV}:b5 [a0,a1]=(fL [some (.val a0),some (.val a1)]).res:=Eq.trans rfl rfl
noncomputable def bR (ρ:ak):Option RV:=(ao b5 (aa (ah aN (fV 1) (fC (.int 2))) (aa (fV 0) ae))) ρ
noncomputable def dX (ρ:ak):Option RV:=(ah bO (fC (.int 1)) (ao ax (aa (fV 0) ae))) ρ
noncomputable def eC (ρ:ak):Out:=(aq (bh 3 (gH [none,some 0] (tz (Es (fV 1) (Gn (fC (.int 1))) GF)) (gN 0) jA bR))
  (aq (bh 4 (fB r6 (aa (gH [none] (tz (fV 3)) (gN 0) jA dX) ae)))
  (aq (i9 (ip (fT (ah eD (ah aN (fV 1) (fC (.int 0))) (fC (.str "join")))) (fT (fV 2))) (bh 4 (ah bO (fV 4) (ao ax (aa (fB r6 (aa (fV 3) ae)) ae)))) aK)
  (il 4)))) ρ
noncomputable def fw:List PV->Option PR:=run 3 5 eC
theorem iU {a0 a1 a2:PV}:fw [a0,a1,a2]=(eC [some (.val a0),some (.val a1),some (.val a2),none,none]).res:=Eq.trans rfl rfl
noncomputable def gS (ρ:ak):Option RV:=(ao ax (aa (fV 0) ae)) ρ
noncomputable def im (ρ:ak):Out:=(bC (fB r6 (aa (gH [none] (tz (ao ce (aa (fV 0) ae))) (gN 0) jA gS) ae))) ρ
noncomputable def cS:List PV->Option PR:=run 1 1 im
theorem ox {a0:PV}:cS [a0]=(im [some (.val a0)]).res:=Eq.trans rfl rfl
noncomputable def iS (ρ:ak):Out:=(bC (ah sr (vG (fV 0)) (fC (.int 1)))) ρ
noncomputable def aL:List PV->Option PR:=run 1 1 iS
theorem qe {a0:PV}:aL [a0]=(iS [some (.val a0)]).res:=Eq.trans rfl rfl
noncomputable def gi (ρ:ak):Out:=(bC (ah bO (fC (.int 1)) (ao aL (aa (fB gJ (aa (ao bw (aa (fV 0) (aa (fV 1) ae))) ae)) ae)))) ρ
noncomputable def bt:List PV->Option PR:=run 2 2 gi
theorem mF {a0 a1:PV}:bt [a0,a1]=(gi [some (.val a0),some (.val a1)]).res:=Eq.trans rfl rfl
noncomputable def cz (ρ:ak):Out:=(aq (i9 (fT (ah eD (ah aN (fV 1) (fC (.int 0))) (fC (.str "find")))) (bC (ao bt (aa (fV 0) (aa (ah aN (fV 1) (fC (.int 1))) ae)))) aK)
  (aq (bh 2 (ao bw (aa (fV 0) (aa (ah aN (fV 1) (fC (.int 1))) ae))))
  (aq (bh 3 (ao bw (aa (fV 0) (aa (ah aN (fV 1) (fC (.int 2))) ae))))
  (aq (bh 4 (ah bO (ao bt (aa (fV 0) (aa (ah aN (fV 1) (fC (.int 1))) ae))) (ao bt (aa (fV 0) (aa (ah aN (fV 1) (fC (.int 2))) ae)))))
  (aq (i9 (fT (ah iW (fV 2) (fV 3))) (wA (fun a b=>a+b) 4 (ao aL (aa (ah bO (fB gJ (aa (fV 2) ae)) (fB gJ (aa (fV 3) ae))) ae))) aK)
  (il 4)))))) ρ
noncomputable def cF:List PV->Option PR:=run 2 5 cz
theorem fZ {a0 a1:PV}:cF [a0,a1]=(cz [some (.val a0),some (.val a1),none,none,none]).res:=Eq.trans rfl rfl
noncomputable def iM (ρ:ak):Option RV:=(ao aL (aa (fV 0) ae)) ρ
noncomputable def jt (ρ:ak):Out:=(bC (fB r6 (aa (gH [none] (tz (ao dJ (aa (fV 0) ae))) (gN 0) jA iM) ae))) ρ
noncomputable def eU:List PV->Option PR:=run 1 1 jt
theorem tQ {a0:PV}:eU [a0]=(jt [some (.val a0)]).res:=Eq.trans rfl rfl
noncomputable def pO (ρ:ak):Out:=(aq (i9 (fT (ah oq (ah aN (fV 0) (fC (.int 1))) (eA (aa (fC (.str "whole")) (aa (fC (.str "halves")) ae))))) bZ aK)
  (aq (iw (ao jr (aa (fV 0) (aa (fV 1) ae))) (mZ 3 (gC (gN 2) (gC (gN 3) (gC (gN 4) g0)))))
  (bC (eA (aa (fV 4) (aa (ao cF (aa (ah aN (fV 0) (fC (.int 2))) (aa (fV 1) ae))) (aa (ao eU (aa (ah aN (fV 0) (fC (.int 2))) ae)) (aa (ao eU (aa (ah aN (fV 2) (fC (.int 2))) ae)) ae)))))))) ρ
noncomputable def kX:List PV->Option PR:=run 2 5 pO
theorem BV {a0 a1:PV}:kX [a0,a1]=(pO [some (.val a0),some (.val a1),none,none,none]).res:=Eq.trans rfl rfl
noncomputable def uo (ρ:ak):Option RV:=(fB t8 (aa (fV 0) (aa (fC (.ty "bool")) ae))) ρ
noncomputable def pB (ρ:ak):Out:=(aq (bh 12 (ao kX (aa (fV 5) (aa (fV 6) ae))))
  (i9 (o4 (kM (fT (fB t8 (aa (fV 12) (aa (fC (.ty "tuple")) ae))))) (o4 (fT (ah iW (fV 12) (fV 10))) (fT (fB BJ (aa (gH [none] (tz (fV 12)) (gN 0) jA uo) ae))))) (bC (fC (.bl false))) aK)) ρ
noncomputable def li (ρ:ak):Out:=(aq (iw (ao cb (aa (fV 5) (aa (fV 6) ae))) (mZ 3 (gC (gN 7) (gC (gN 8) (gC (gN 9) g0)))))
  (aq (bh 10 (eA (aa (fV 9) (aa (ao fw (aa (fV 5) (aa (fV 6) (aa (fV 8) ae)))) (aa (ao cS (aa (ah aN (fV 5) (fC (.int 2))) ae)) (aa (ao cS (aa (ah aN (fV 7) (fC (.int 2))) ae)) ae))))))
  (aq (jV (lX lF (aa (fC (.int 2)) ae)) (gN 11) pB)
  (aq (i9 (fT (ah A9 (ah bO (ah aN (fV 10) (fC (.int 0))) (ah aN (fV 10) (fC (.int 3)))) (ah bO (ah aN (fV 10) (fC (.int 1))) (ah aN (fV 10) (fC (.int 2)))))) (bC (fC (.bl false))) aK)
  (bh 5 (fV 7)))))) ρ
noncomputable def jc (ρ:ak):Out:=(aq (iw (ao bq (aa (fV 0) (aa (fV 1) ae))) (mZ 3 (gC (gN 2) (gC (gN 3) (gC (gN 4) g0)))))
  (aq (bh 4 (ah aN (gP (aa (fC (.str "whole")) (aa (fC (.str "halves")) ae))) (ah bn (ah aN (ao al (aa (ao av (aa (fV 0) (aa (ah bO (fC (.int 16)) (ah gB (fC (.int 30)) (fV 1))) ae))) (aa (fC (.int 1)) ae))) (fC (.int 0))) (fC (.int 2)))))
  (aq (bh 5 (ao cQ (aa (fV 2) (aa (fV 3) (aa (fV 4) ae)))))
  (jV (tz (ao bD (aa (fV 0) (aa (ah bO (fC (.int 3)) (ah gB (fC (.int 30)) (fV 1))) (aa (fV 2) (aa (ah aN (gP (aa (fC (.int 40)) (aa (fC (.int 20)) ae))) (fB uD (aa (ah A9 (fV 2) (fC (.int 12))) ae))) ae)))))) (gN 6) li)))) ρ
noncomputable def mo (ρ:ak):Out:=(aq (jV (tz (gP (aa (fC (.int 0)) (aa (fC (.int 1)) ae)))) (gN 1) jc)
  (bC (fC (.bl true)))) ρ
noncomputable def Ia:List PV->Option PR:=run 1 13 mo
theorem ES {a0:PV}:Ia [a0]=(mo [some (.val a0),none,none,none,none,none,none,none,none,none,none,none,none]).res:=Eq.trans rfl rfl
end K25
end
section
namespace K25
open PySem L2 Fo Pu Dp Pt
theorem zY {n:Nat}(h:2≤n):n.log2=(n / 2).log2+1:=by rw[Nat.log2_def,if_pos h]
theorem Co {n:Nat}(h:n<2):n.log2=0:=by rw[Nat.log2_def,if_neg (by omega)]
theorem PF:∀(fuel n t:Nat),n<fuel->∃m:Int,cB bB cy fuel [some (.val (.int n)),some (.val (.int t))]=.nx [some (.val (.int m)),some (.val (.int (t+n.log2:Nat)))]
 |0,n,t,h=>absurd h (Nat.not_lt_zero _)
 |fuel+1,n,t,h=>by
  rw[g9]
  by_cases q:2≤n
  ·obtain⟨m,e⟩:=PF fuel (n / 2) (t+1) (by omega)
   refine⟨m,?_⟩
   have d:decide ((1:Int)<(n:Int))=true:=decide_eq_true (by omega)
   have e2:(n:Int) / 2=((n / 2:Nat):Int):=by omega
   have e3:(t:Int)+1=((t+1:Nat):Int):=by omega
   rw[zY q,show t+((n / 2).log2+1)=t+1+(n / 2).log2 by omega,←e]
   simp![bB,cy,d,e2,e3]
  ·have d:decide ((1:Int)<(n:Int))=false:=decide_eq_false (by omega)
   refine⟨n,?_⟩
   rw[Co (by omega),Nat.add_zero]
   simp![bB,d]
theorem wK {n:Nat}(hn:n≤1000):ax [.int n]=some (.v (.int (n.log2:Nat))):=by
 obtain⟨m,e⟩:=PF 10000 n 0 (by omega)
 rw[Nat.zero_add] at e
 have e:cB bB cy 10000 [some (.val (.int n)),some (.val (.int 0))]=_:=e
 simp![la,eQ,e]
theorem Cn {n:Nat}(h1:1≤n):aL [.int n]=some (.v (.int (n.log2:Nat))):=by
 have b:Builtin.Int.intBits (n:Int)=n.log2+1:=by
  unfold Builtin.Int.intBits
  rw[if_neg (by simp;omega),Int.natAbs_natCast]
 have e:((n.log2+1:Nat):Int) - 1=(n.log2:Nat):=by omega
 have e0:vG (fV 0) [some (.val (.int n))]=some (.fz (.int (Builtin.Int.intBits n:Nat))):=rfl
 simp![qe,iS,e0,b,e]
theorem NC {us:List Nat}(f:Fst us):sz us=(List.range us.length).map (j6 us):=by
 apply List.ext_getElem
 ·rw[wC,List.length_map,List.length_range]
 ·intro i h1 h2
  have e:=NY f (x:=i)
  rw[List.getElem_map,List.getElem_range,←e]
  simp[up,h1]
theorem Md {us:List Nat}(x:Nat):j6 us x≤us.length:=by
 unfold j6 cn
 have:=List.countP_le_length (p:=fun y=>decide (x∈way us y)) (l:=List.range us.length)
 rwa [List.length_range] at this
theorem BU {us:List Nat}(f:Frst us){e:FE}(he:∀n:Nat,1≤n->n≤40->(e [some (.val (.int n))]).bind RV.fr=some (.int (n.log2:Nat))):qj (gN 0) jA e [none] (nums (sz us))=some ((List.range us.length).map fun x=>.int (jh us x)):=by
 rw[NC f.fst]
 have:=nZ (t:=gN 0) (f:=e) (ρ:=[none]) (fun n=>PV.int (n.log2:Nat)) (us:=(List.range us.length).map (j6 us)) fun n hn=>by
  obtain⟨x,hx,rfl⟩:=List.mem_map.mp hn
  have h1:=tR f.fst (List.mem_range.mp hx)
  have h2:=Md (us:=us) x
  have:=f.most
  exact he _ h1 (by omega)
 rw[this,List.map_map];rfl
theorem yp {us:List Nat}:eY ((List.range us.length).map fun x=>PV.int (jh us x))=some ((List.range us.length).map (jh us)):=by
 have:=xw ((List.range us.length).map (jh us))
 rwa [List.map_map] at this
theorem Dy {us:List Nat}(f:Frst us):eU [.tup (nums us)]=some (.v (.int (ky us))):=by
 have hm:=f.most
 have e:=BU f (e:=iM) fun n h1 h2=>by simp![iM,Cn h1]
 have hl:(sz us).length<1000:=by rw[wC];omega
 simp![tQ,jt,Fy f,Dp.d8,hl,e,yp]
 rfl
theorem yF {us:List Nat}(f:Frst us):cS [.tup (nums us)]=some (.v (.int (ky us))):=by
 have hm:=f.most
 have e:=BU f (e:=gS) fun n h1 h2=>by simp![gS,wK (show n≤1000 by omega)]
 have hl:(sz us).length<1000:=by rw[wC];omega
 simp![ox,im,Bt f,Dp.d8,hl,e,yp]
 rfl
noncomputable def ay (us:List Nat)(x:Nat):Nat:=(cl us.length (hd us) x).length
noncomputable def mj (us:List Nat):Deed->Nat
 |.find x=>1+(ay us x).log2
 |.join x z=>(1+(ay us x).log2)+(1+(ay us z).log2)+if hd us x=hd us z then 0 else (ay us x+ay us z).log2
theorem uQ {us:List Nat}{x:Nat}(hx:x<us.length):1≤ay us x:=List.length_pos_of_mem (mem_cl.mpr ⟨hx,rfl⟩)
theorem so {us:List Nat}{x:Nat}:ay us x≤us.length:=Je ..
theorem vF {us:List Nat}(f:Frst us){x:Nat}(hx:x<us.length):bt [.tup (nums us),.int x]=some (.v (.int (1+(ay us x).log2:Nat))):=by
 have e1:=Cn (uQ hx)
 have e:(1:Int)+((ay us x).log2:Nat)=((1+(ay us x).log2:Nat):Int):=by omega
 have e1:aL [.int ((cl us.length (hd us) x).length:Nat)]=_:=e1
 simp![mF,gi,ic f hx,Dp.d8,e1,e]
theorem OQ {us:List Nat}(f:Frst us){d:Deed}(h:d.ok us.length):cF [.tup (nums us),d.pv]=some (.v (.int (mj us d:Nat))):=by
 cases d with
 |find x=>
  have hx:x<us.length:=h
  have g0:aN (Deed.find x).pv (.int 0)=some (.fz (.str "find")):=rfl
  have g1:aN (Deed.find x).pv (.int 1)=some (.fz (.int x)):=rfl
  have d1:decide (("find" : Str) = "find")=true:=by decide
  simp![fZ,cz,g0,g1,d1,vF f hx]
  rfl
 |join x z=>
  have hx:x<us.length:=h.1
  have hz:z<us.length:=h.2
  have g0:aN (Deed.join x z).pv (.int 0)=some (.fz (.str "join")):=rfl
  have g1:aN (Deed.join x z).pv (.int 1)=some (.fz (.int x)):=rfl
  have g2:aN (Deed.join x z).pv (.int 2)=some (.fz (.int z)):=rfl
  have d1:decide (("join" : Str) = "find")=false:=by decide
  have e1:=Cn (n:=ay us x+ay us z) (by have:=uQ hx;omega)
  have e1:aL [.int (((cl us.length (hd us) x).length:Int)+((cl us.length (hd us) z).length:Int))]=some (.v (.int ((ay us x+ay us z).log2:Nat))):=by
   rw[←e1];congr 2
  by_cases q:hd us x=hd us z
  ·have dq:decide (cl us.length (hd us) x=cl us.length (hd us) z)=true:=decide_eq_true ((CV hx).mpr q)
   have e:((1+(ay us x).log2:Nat):Int)+((1+(ay us z).log2:Nat):Int)=(mj us (.join x z):Nat):=by
    show _=(((1+(ay us x).log2)+(1+(ay us z).log2)+(if hd us x=hd us z then 0 else (ay us x+ay us z).log2):Nat):Int)
    rw[if_pos q];omega
   simp![fZ,cz,g0,g1,g2,d1,ic f hx,ic f hz,vF f hx,vF f hz,gM,i7,mK,dq,e]
  ·have dq:decide (cl us.length (hd us) x=cl us.length (hd us) z)=false:=decide_eq_false fun z=>q ((CV hx).mp z)
   have e:((1+(ay us x).log2:Nat):Int)+((1+(ay us z).log2:Nat):Int)+((ay us x+ay us z).log2:Nat)=(mj us (.join x z):Nat):=by
    show _=(((1+(ay us x).log2)+(1+(ay us z).log2)+(if hd us x=hd us z then 0 else (ay us x+ay us z).log2):Nat):Int)
    rw[if_neg q];omega
   simp![fZ,cz,g0,g1,g2,d1,ic f hx,ic f hz,vF f hx,vF f hz,gM,i7,mK,dq,Dp.d8,e1,e]
theorem yK {us:List Nat}(f:Frst us){x:Nat}(hx:x<us.length):dQ [.tup (nums us),.int x]=some (.v (.int (hd us x:Nat))):=by
 simp![qm,iV,wp (.inl rfl) f hx,jP f hx]
theorem Fm (a b:Nat):decide ((a:Int)=(b:Int))=decide (a=b):=decide_eq_decide.mpr (by omega)
theorem zc {us:List Nat}(f:Frst us){x:Nat}(hx:x<us.length):b5 [.tup (nums us),.int x]=some (.v (.int (ay us x:Nat))):=by
 have hm:=f.most
 have e:=rQ (t:=gN 0) (c:=eT) (f:=eM) (ρ:=[none,some (.val (.tup (nums us))),some (.val (.int x))]) (fun p=>match p with|.int i=>decide (hd us i.toNat=hd us x)|_=>false) id (its:=nums (List.range us.length)) (fun p hp=>by
  obtain⟨y,hy,rfl⟩:=pI hp
  have hy:=List.mem_range.mp hy
  refine⟨_,rfl,?_,fun _=>?_⟩
  ·simp![eT,yK f hy,yK f hx,Fm,Int.toNat_natCast]
  ·simp![eM,id])
 have e2:(nums (List.range us.length)).filter (fun p=>match p with|.int i=>decide (hd us i.toNat=hd us x)|_=>false)=nums (cl us.length (hd us) x):=by
  unfold nums cl
  rw[List.filter_map];rfl
 rw[List.map_id,e2] at e
 have hn:us.length<1000:=by omega
 simp![lZ,fL,K1 (show us.length≤100000 by omega),List.length_range,hn,e,Dp.d8]
 rfl
theorem GI {j y:Str}{us ms:List Nat}(f:Frst us){d:Deed}(h:d.ok us.length):fw [hJ j y us ms,d.pv,dA us d]=some (.v (.int (mj us d:Nat))):=by
 have hm:=f.most
 have AK:aN (hJ j y us ms) (.int 2)=some (.fz (.tup (nums us))):=rfl
 have one:∀x,x<us.length->qj (gN 0) jA bR [none,some (.val (hJ j y us ms))] [.int x]=some [.int (ay us x:Nat)]:=fun x hx=>by
  have:=nZ (t:=gN 0) (f:=bR) (ρ:=[none,some (.val (hJ j y us ms))]) (fun x=>PV.int (ay us x:Nat)) (us:=[x]) fun x' hx'=>by
   rw[List.mem_singleton.mp hx']
   simp![bR,AK,zc f hx]
  exact this
 have two:∀x z,x<us.length->z<us.length->qj (gN 0) jA bR [none,some (.val (hJ j y us ms))] [.int x,.int z]=some [.int (ay us x:Nat),.int (ay us z:Nat)]:=fun x z hx hz=>by
  have:=nZ (t:=gN 0) (f:=bR) (ρ:=[none,some (.val (hJ j y us ms))]) (fun x=>PV.int (ay us x:Nat)) (us:=[x,z]) fun x' hx'=>by
   have hx':x'<us.length:=by
    simp only[List.mem_cons,List.mem_nil_iff,or_false] at hx'
    rcases hx' with rfl|rfl<;>assumption
   simp![bR,AK,zc f hx']
  exact this
 have dbl:∀ns:List Nat,(∀n∈ns,n≤40)->qj (gN 0) jA dX [none] (nums ns)=some (nums (ns.map fun n=>1+n.log2)):=fun ns hn=>by
  rw[nZ (fun n=>PV.int ((1+n.log2:Nat):Int)) fun n hn'=>by
   have e:(1:Int)+(n.log2:Nat)=((1+n.log2:Nat):Int):=by omega
   simp![dX,wK (show n≤1000 by have:=hn n hn';omega),e]]
  unfold nums;rw[List.map_map];rfl
 cases d with
 |find x=>
  have hx:x<us.length:=h
  have g0:aN (Deed.find x).pv (.int 0)=some (.fz (.str "find")):=rfl
  have s1:Hv (Deed.find x).pv (some 1) none=some (.fz (.tup [.int x])):=rfl
  have d1:decide (("find" : Str) = "join")=false:=by decide
  have b:=dbl [ay us x] fun n hn=>by rw[List.mem_singleton.mp hn];have:=so (us:=us) (x:=x);omega
  have b:qj (gN 0) jA dX [none] [.int (ay us x:Nat)]=some [.int ((1+(ay us x).log2:Nat):Int)]:=b
  have ei:eY [PV.int ((1+(ay us x).log2:Nat):Int)]=some [((1+(ay us x).log2:Nat):Int)]:=rfl
  have es:([((1+(ay us x).log2:Nat):Int)]:List Int).sum=(mj us (.find x):Nat):=by
   rw[List.sum_cons,List.sum_nil];show _=((1+(ay us x).log2:Nat):Int);omega
  simp![iU,eC,s1,one x hx,b,ei,es,g0,d1]
 |join x z=>
  have hx:x<us.length:=h.1
  have hz:z<us.length:=h.2
  have g0:aN (Deed.join x z).pv (.int 0)=some (.fz (.str "join")):=rfl
  have s1:Hv (Deed.join x z).pv (some 1) none=some (.fz (.tup [.int x,.int z])):=rfl
  have d1:decide (("join" : Str) = "join")=true:=by decide
  have lx:=so (us:=us) (x:=x)
  have lz:=so (us:=us) (x:=z)
  have b:=dbl [ay us x,ay us z] fun n hn=>by
   simp only[List.mem_cons,List.mem_nil_iff,or_false] at hn
   rcases hn with rfl|rfl<;>omega
  have b:qj (gN 0) jA dX [none] [.int (ay us x:Nat),.int (ay us z:Nat)]=some [.int ((1+(ay us x).log2:Nat):Int),.int ((1+(ay us z).log2:Nat):Int)]:=b
  have ei (a b:Int):eY [PV.int a,.int b]=some [a,b]:=rfl
  have es:([((1+(ay us x).log2:Nat):Int),((1+(ay us z).log2:Nat):Int)]:List Int).sum=(((1+(ay us x).log2)+(1+(ay us z).log2):Nat):Int):=by
   rw[List.sum_cons,List.sum_cons,List.sum_nil];omega
  have es2:([((ay us x:Nat):Int),((ay us z:Nat):Int)]:List Int).sum=((ay us x+ay us z:Nat):Int):=by
   rw[List.sum_cons,List.sum_cons,List.sum_nil];omega
  have e1:=wK (n:=ay us x+ay us z) (by omega)
  by_cases q:hd us x=hd us z
  ·have a:dA us (.join x z)=.bl false:=by show PV.bl (!decide (hd us x=hd us z))=_;rw[decide_eq_true q];rfl
   have e:mj us (.join x z)=(1+(ay us x).log2)+(1+(ay us z).log2):=by
    show (1+(ay us x).log2)+(1+(ay us z).log2)+(if hd us x=hd us z then 0 else (ay us x+ay us z).log2)=_
    rw[if_pos q];omega
   simp![iU,eC,s1,two x z hx hz,b,ei,es,g0,d1,a,e]
  ·have a:dA us (.join x z)=.bl true:=by show PV.bl (!decide (hd us x=hd us z))=_;rw[decide_eq_false q];rfl
   have e:(((1+(ay us x).log2)+(1+(ay us z).log2):Nat):Int)+((ay us x+ay us z).log2:Nat)=(mj us (.join x z):Nat):=by
    show _=(((1+(ay us x).log2)+(1+(ay us z).log2)+(if hd us x=hd us z then 0 else (ay us x+ay us z).log2):Nat):Int)
    rw[if_neg q];omega
   simp![iU,eC,s1,two x z hx hz,b,ei,es,g0,d1,a,es2,e1,e]
theorem vP {y:Str}(hy:y = "whole"\/y = "halves"):y∈manners:=by rcases hy with rfl|rfl<;>decide
theorem wD {us:List Nat}(f:Frst us){x:Nat}(hx:x<us.length):jh us (hd us x)=((ay us x).log2:Nat):=by
 have hh:=kG f.fst hx
 unfold jh ay
 rw[CI f.fst hh (oy f.fst hx),(CV hh).mpr (gy f.fst hh (oy f.fst hx))]
theorem cost {n:Nat}{us ms:List Nat}(S:Sto n us ms){j y:Str}(hy:y = "whole"\/y = "halves"){d:Deed}(h:d.ok n):(dS y us d:Nat)+ky (dU j y us ms d)≤(mj us d:Nat)+ky us:=by
 have f:=S.f
 have lu:=S.lu
 have hm:=vP hy
 cases d with
 |find x=>
  have hx:x<us.length:=by rw[lu];exact h
  have c:=B5 f hx hy
  rw[wD f hx] at c
  show ((jJ y us x:Nat):Int)+ky (b0 y us x)≤((1+(ay us x).log2:Nat):Int)+ky us
  omega
 |join x z=>
  have hx:x<us.length:=by rw[lu];exact h.1
  have hz:z<us.length:=by rw[lu];exact h.2
  have f1:=fJ f hx hm
  have l1:=bV y us x
  have hz1:z<(b0 y us x).length:=by omega
  have f2:=fJ f1 hz1 hm
  have l2:=bV y (b0 y us x) z
  have c1:=B5 f hx hy
  have c2:=B5 f1 hz1 hy
  rw[wD f hx] at c1
  rw[wD f1 hz1] at c2
  have hd1:∀t,t<us.length->hd (b0 y us x) t=hd us t:=fun t ht=>mE f hx hm ht
  have hd2:∀t,t<us.length->hd (b0 y (b0 y us x) z) t=hd us t:=fun t ht=>by rw[mE f1 hz1 hm (by omega),hd1 t ht]
  have n1:ay (b0 y us x) z=ay us z:=by
   unfold ay
   rw[l1,oW fun t ht=>by rw[hd1 t ht,hd1 z hz]]
  rw[n1] at c2
  show ((jJ y us x+jJ y (b0 y us x) z:Nat):Int)+ky (if hd us x=hd us z then _ else _)≤(((1+(ay us x).log2)+(1+(ay us z).log2)+(if hd us x=hd us z then 0 else (ay us x+ay us z).log2):Nat):Int)+ky us
  by_cases e:hd us x=hd us z
  ·rw[if_pos e,if_pos e];omega
  ·rw[if_neg e,if_neg e]
   have a1:=kG f.fst hx
   have a2:=kG f.fst hz
   have top:∀t,t<us.length->up (b0 y (b0 y us x) z) (hd us t)=hd us t:=fun t ht=>by
    have:=oy f2.fst (show t<(b0 y (b0 y us x) z).length by omega)
    rwa [hd2 t ht] at this
   have hx2:hd us x<(b0 y (b0 y us x) z).length:=by omega
   have hz2:hd us z<(b0 y (b0 y us x) z).length:=by omega
   have DN:∀t,t<us.length->(cl (b0 y (b0 y us x) z).length (hd (b0 y (b0 y us x) z)) (hd us t)).length=ay us t:=fun t ht=>by
    have:=kG f.fst ht
    unfold ay
    rw[show (b0 y (b0 y us x) z).length=us.length by omega,oW (c':=hd us) (x':=t) fun s hs=>by rw[hd2 s hs,hd2 _ this,gy f.fst this (oy f.fst ht)]]
   unfold oh
   have key:ky ((b0 y (b0 y us x) z).set (un j ms (hd us x) (hd us z)) (tp j ms (hd us x) (hd us z)))≤ky (b0 y (b0 y us x) z)+((ay us x+ay us z).log2:Nat):=by
    by_cases q:stay j ms (hd us x) (hd us z)=true
    ·have e1:tp j ms (hd us x) (hd us z)=hd us x:=by unfold tp;rw[q];rfl
     have e2:un j ms (hd us x) (hd us z)=hd us z:=by unfold un;rw[q];rfl
     rw[e1,e2]
     have c3:=ID f2 hz2 hx2 (top z hz) (top x hx) (fun z=>e z.symm)
     rw[DN z hz,DN x hx,Nat.add_comm] at c3
     exact c3
    ·have q:stay j ms (hd us x) (hd us z)=false:=by simpa using q
     have e1:tp j ms (hd us x) (hd us z)=hd us z:=by unfold tp;rw[q];rfl
     have e2:un j ms (hd us x) (hd us z)=hd us x:=by unfold un;rw[q];rfl
     rw[e1,e2]
     have c3:=ID f2 hx2 hz2 (top x hx) (top z hz) e
     rw[DN x hx,DN z hz] at c3
     exact c3
   omega
section
variable {n:Nat}{us ms:List Nat}{j y:Str}(S:Sto n us ms)(hj:j∈jws)(hy:y = "whole"\/y = "halves"){d:Deed}(h:d.ok n)
include S hj hy h
theorem Jp:kX [hJ j y us ms,d.pv]=some (.v (.tup [.int (dS y us d:Nat),.int (mj us d:Nat),.int (ky us),.int (ky (dU j y us ms d))])):=by
 have hm:=vP hy
 have S':=o6 S (j:=j) hm h
 have e0:jr [hJ j y us ms,d.pv]=some (.v (.tup [hJ j y (dU j y us ms d) (dM j us ms d),dA us d,.int (dS y us d:Nat)])):=Lq S hj hm h
 have g1:aN (hJ j y us ms) (.int 1)=some (.fz (.str y)):=rfl
 have g2:∀us ms,aN (hJ j y us ms) (.int 2)=some (.fz (.tup (nums us))):=fun _ _=>rfl
 have i:pin (.str y) [.str "whole",.str "halves"]=true:=by rcases hy with rfl|rfl<;>kernel_rfl
 simp![BV,pO,g1,i,e0,g2,OQ S.f (show d.ok us.length by rw[S.lu];exact h),Dy S.f,Dy S'.f]
noncomputable def p9 (j y:Str)(us ms:List Nat)(d:Deed):PV:=.tup [.int (dS y us d:Nat),.int (mj us d:Nat),.int (ky us),.int (ky (dU j y us ms d))]
theorem NF {s0 s1 s2 s3 s4 s7 s8 s9 s11 z12:Option Sl}:pB [s0,s1,s2,s3,s4,some (.val (hJ j y us ms)),some (.val d.pv),s7,s8,s9,some (.val (p9 j y us ms d)),s11,z12]=.nx [s0,s1,s2,s3,s4,some (.val (hJ j y us ms)),some (.val d.pv),s7,s8,s9,some (.val (p9 j y us ms d)),s11,some (.val (p9 j y us ms d))]:=by
 have e1:kX [hJ j y us ms,d.pv]=some (.v (p9 j y us ms d)):=Jp S hj hy h
 have p0 (a b:Nat) (i k:Int):Pu.plain (.tup [.int a,.int b,.int i,.int k])=true/\decide (lv (.tup [.int a,.int b,.int i,.int k])≤50)=true/\iQ (.tup [.int a,.int b,.int i,.int k]) (.tup [.int a,.int b,.int i,.int k])=true/\t8 [.tup [.int a,.int b,.int i,.int k],.ty "tuple"]=some (.fz (.bl true)):=⟨rfl,rfl,oY rfl,rfl⟩
 have p:Pu.plain (p9 j y us ms d)=true/\decide (lv (p9 j y us ms d)≤50)=true/\iQ (p9 j y us ms d) (p9 j y us ms d)=true/\t8 [p9 j y us ms d,.ty "tuple"]=some (.fz (.bl true)):=p0 _ _ _ _
 have g (a b:Nat) (i k:Int):qj (gN 0) jA uo [none] [.int a,.int b,.int i,.int k]=some [.bl false,.bl false,.bl false,.bl false]:=rfl
 have it:∀ρ:ak,sl ρ 12=some (.val (p9 j y us ms d))->tz (fV 12) ρ=some [.int (dS y us d:Nat),.int (mj us d:Nat),.int (ky us),.int (ky (dU j y us ms d))]:=fun ρ hρ=>by
  simp![hρ,p9]
 have b4:Hl [PV.bl false,.bl false,.bl false,.bl false]=some [false,false,false,false]:=rfl
 have a4:[false,false,false,false].any id=false:=rfl
 simp![pB,e1,p]
 simp![p9,g,b4,a4]
theorem O3 {s0 s1 s2 s3 s4 z7 z8 z9 z10 z11 z12:Option Sl}:li [s0,s1,s2,s3,s4,some (.val (hJ j y us ms)),some (.val d.pv),z7,z8,z9,z10,z11,z12]=.nx [s0,s1,s2,s3,s4,some (.val (hJ j y (dU j y us ms d) (dM j us ms d))),some (.val d.pv),some (.val (hJ j y (dU j y us ms d) (dM j us ms d))),some (.val (dA us d)),some (.val (.int (dS y us d:Nat))),some (.val (p9 j y us ms d)),some (.val (.int 1)),some (.val (p9 j y us ms d))]:=by
 have hm:=vP hy
 have S':=o6 S (j:=j) hm h
 have e0:cb [hJ j y us ms,d.pv]=some (.v (.tup [hJ j y (dU j y us ms d) (dM j us ms d),dA us d,.int (dS y us d:Nat)])):=Ey S hj hm h
 have g2:∀us ms,aN (hJ j y us ms) (.int 2)=some (.fz (.tup (nums us))):=fun _ _=>rfl
 have e1:=GI S.f (j:=j) (y:=y) (ms:=ms) (show d.ok us.length by rw[S.lu];exact h)
 have r2:lF [.int 2]=some [.int 0,.int 1]:=(K1 (n:=2) (by decide)).1
 have b2:=fun (s7 s8 s9 s11 z12:Option Sl)=>NF S hj hy h (s0:=s0) (s1:=s1) (s2:=s2) (s3:=s3) (s4:=s4) (s7:=s7) (s8:=s8) (s9:=s9) (s11:=s11) (z12:=z12)
 have ed:PV.tup [.int (dS y us d:Nat),.int (mj us d:Nat),.int (ky us),.int (ky (dU j y us ms d))]=p9 j y us ms d:=rfl
 have q0:aN (p9 j y us ms d) (.int 0)=some (.fz (.int (dS y us d:Nat))):=rfl
 have q1:aN (p9 j y us ms d) (.int 1)=some (.fz (.int (mj us d:Nat))):=rfl
 have q2:aN (p9 j y us ms d) (.int 2)=some (.fz (.int (ky us))):=rfl
 have q3:aN (p9 j y us ms d) (.int 3)=some (.fz (.int (ky (dU j y us ms d)))):=rfl
 have c:=cost S (j:=j) hy h
 have dc:decide ((mj us d:Int)+ky us<(dS y us d:Int)+ky (dU j y us ms d))=false:=decide_eq_false (by omega)
 simp![li,e0,e1,g2,yF S.f,yF S'.f,r2,ed,iz,b2,q0,q1,q2,q3,dc]
end
theorem p6 {n:Nat}{j y:Str}(hj:j∈jws)(hy:y = "whole"\/y = "halves"){s0 s1 s2 s3 s4:Option Sl}:∀(ds:List Deed) (us ms:List Nat) (z6 z7 z8 z9 z10 z11 z12:Option Sl),Sto n us ms->(∀d∈ds,d.ok n)->∃w5 w6 w7 w8 w9 w10 w11 w12,df (gN 6) li (ds.map Deed.pv) [s0,s1,s2,s3,s4,some (.val (hJ j y us ms)),z6,z7,z8,z9,z10,z11,z12]=.nx [s0,s1,s2,s3,s4,w5,w6,w7,w8,w9,w10,w11,w12]
 |[],us,ms,z6,z7,z8,z9,z10,z11,z12,_,_=>⟨_,z6,z7,z8,z9,z10,z11,z12,rfl⟩
 |d::ds,us,ms,z6,z7,z8,z9,z10,z11,z12,S,h=>by
  have hd:=h d List.mem_cons_self
  have e1:=O3 S hj hy hd (s0:=s0) (s1:=s1) (s2:=s2) (s3:=s3) (s4:=s4) (z7:=z7) (z8:=z8) (z9:=z9) (z10:=z10) (z11:=z11) (z12:=z12)
  obtain⟨w5,w6,w7,w8,w9,w10,w11,w12,e⟩:=p6 hj hy (s0:=s0) (s1:=s1) (s2:=s2) (s3:=s3) (s4:=s4) ds _ _ (some (.val d.pv)) (some (.val (hJ j y (dU j y us ms d) (dM j us ms d)))) (some (.val (dA us d))) (some (.val (.int (dS y us d:Nat)))) (some (.val (p9 j y us ms d))) (some (.val (.int 1))) (some (.val (p9 j y us ms d))) (o6 S (j:=j) (vP hy) hd) fun u hu=>h u (List.mem_cons_of_mem _ hu)
  refine⟨w5,w6,w7,w8,w9,w10,w11,w12,?_⟩
  rw[List.map_cons,iz,←e]
  simp![e1]
theorem uI {ns:List Int}{k:Nat}(hk:k≤1){z2 z3 z4 z5 z6 z7 z8 z9 z10 z11 z12:Option Sl}:∃w2 w3 w4 w5 w6 w7 w8 w9 w10 w11 w12,jc [some (.val (.src (iL ns))),some (.val (.int k)),z2,z3,z4,z5,z6,z7,z8,z9,z10,z11,z12]=.nx [some (.val (.src (iL ns))),some (.val (.int k)),w2,w3,w4,w5,w6,w7,w8,w9,w10,w11,w12]:=by
 obtain⟨n,j,y0,n1,n2,hj,_,es⟩:=AC ns (at':=k) (by omega)
 obtain⟨c,ec⟩:=oQ ns (16+30 * k:Nat) (by omega) (by omega)
 have ec:av [.src (iL ns),.int (16+30 * (k:Int))]=some (.v (.int c)):=ec
 obtain⟨xs,hx,ex⟩:=jk c 1 (by decide) (by decide)
 have hx:xs.length=1:=hx
 have i0:L2.atI (nums xs) 0=some (.int (up xs 0:Nat)):=ai (x:=0) (by omega)
 have cm:((30:Int).natAbs<2 ^ 64\/(k:Int).natAbs<2 ^ 64)=True:=eq_true (.inl (by decide))
 obtain⟨y,hy,ey⟩:∃y:Str,(y = "whole"\/y = "halves")/\L2.atI [PV.str "whole",.str "halves"] ((up xs 0:Int) % 2)=some (.str y):=by
  have:(up xs 0:Int) % 2=0\/(up xs 0:Int) % 2=1:=by omega
  rcases this with q|q<;>rw[q]
  ·exact⟨"whole",.inl rfl,rfl⟩
  ·exact⟨"halves",.inr rfl,rfl⟩
 have hm:=vP hy
 obtain⟨m,hm60,em⟩:∃m:Nat,m≤60/\L2.atI [PV.int 40,.int 20] (if decide ((12:Int)<(n:Int))=true then 1 else 0)=some (.int m):=by
  by_cases q:(12:Int)<(n:Int)
  ·rw[decide_eq_true q];exact⟨20,by decide,rfl⟩
  ·rw[decide_eq_false q];exact⟨40,by decide,rfl⟩
 obtain⟨ds,h,hl,ed⟩:=B2 ns (at':=3+30 * k) (n:=n) (m:=m) n1 n2 (by omega) hm60
 have ed:bD [.src (iL ns),.int (3+30 * (k:Int)),.int n,.int m]=some (.v (.tup (ds.map Deed.pv))):=ed
 have eN:=Nz n1 n2 hj hm
 have S0:Sto n (List.range n) (List.replicate n (PY j)):=⟨xq n1 n2,List.length_range ..,List.length_replicate ..⟩
 obtain⟨w5,w6,w7,w8,w9,w10,w11,w12,ef⟩:=p6 hj hy (s0:=some (.val (.src (iL ns)))) (s1:=some (.val (.int k))) (s2:=some (.val (.int n))) (s3:=some (.val (.str j))) (s4:=some (.val (.str y))) ds _ _ z6 z7 z8 z9 z10 z11 z12 S0 h
 refine⟨some (.val (.int n)),some (.val (.str j)),some (.val (.str y)),w5,w6,w7,w8,w9,w10,w11,w12,?_⟩
 rw[←ef]
 simp![jc,es,cm,ec,ex,i0,ey,eN,em,ed]
theorem Cj:∀ns:List Int,ns.length≤63->run 1 13 mo [.src (ns.map PV.int)]=some (.v (.bl true)):=fun ns hn=>by
 obtain⟨v2,v3,v4,v5,v6,v7,v8,v9,v10,v11,v12,e1⟩:=uI (ns:=ns) (k:=0) (by decide) (z2:=none) (z3:=none) (z4:=none) (z5:=none) (z6:=none) (z7:=none) (z8:=none) (z9:=none) (z10:=none) (z11:=none) (z12:=none)
 obtain⟨w2,w3,w4,w5,w6,w7,w8,w9,w10,w11,w12,e2⟩:=uI (ns:=ns) (k:=1) (by decide) (z2:=v2) (z3:=v3) (z4:=v4) (z5:=v5) (z6:=v6) (z7:=v7) (z8:=v8) (z9:=v9) (z10:=v10) (z11:=v11) (z12:=v12)
 have e:df (gN 1) jc [.int 0,.int 1] [some (.val (.src (iL ns))),none,none,none,none,none,none,none,none,none,none,none,none]=.nx [some (.val (.src (iL ns))),some (.val (.int ((1:Nat):Int))),w2,w3,w4,w5,w6,w7,w8,w9,w10,w11,w12]:=by
  have e1:jc [some (.val (.src (iL ns))),some (.val (.int 0)),none,none,none,none,none,none,none,none,none,none,none]=_:=e1
  have e2:jc [some (.val (.src (iL ns))),some (.val (.int 1)),v2,v3,v4,v5,v6,v7,v8,v9,v10,v11,v12]=_:=e2
  rw[iz]
  simp![e1,iz,e2]
 show Ia [.src (iL ns)]=_
 simp![ES,mo,e]
end K25
end
section
section
namespace O25
open PySem L2
noncomputable def top (i:Nat):Stmt:=PySem.Challenge.pw_lotheads_k25_deeds_paid.main.body.getD i (.Pass ⟨0,0,0,0⟩)
structure Txt (mg:Str->Option Value):Prop where
 n_abs:mg "abs" = none
 n_all:mg "all" = none
 n_any:mg "any" = none
 n_bool:mg "bool" = none
 n_enumerate:mg "enumerate" = none
 n_int:mg "int" = none
 n_isinstance:mg "isinstance" = none
 n_len:mg "len" = none
 n_list:mg "list" = none
 n_min:mg "min" = none
 n_range:mg "range" = none
 n_str:mg "str" = none
 n_sum:mg "sum" = none
 n_tuple:mg "tuple" = none
 c_MOST_THINGS:∃t,mg "MOST_THINGS" = some (.int 40 t)
section
variable {P:Program}{w:World}{K:PySem.W.Frag}{mg:Str->Option Value}{base:Heap}
noncomputable abbrev nV (n:Nat):V:=.int (n:Int)
theorem eI {us:List Nat}{x:Nat}(hx:x<us.length):atI (us.map nV) (x:Int)=some (nV (us.getD x 0)):=by
 refine gt ?_
 rw[List.getElem?_map,List.getElem?_eq_getElem hx]
 simp[hx]
end
end O25
end
section
namespace O25
open PySem L2
end O25
end
section
namespace O25
open PySem L2
theorem sO {n k:Nat}(h:k<n):qh n (k:Int)=some k:=by
 unfold qh
 rw[if_pos (by omega),if_pos (by omega),Int.toNat_natCast]
section
variable {P:Program}{w:World}{K:PySem.W.Frag}{mg:Str->Option Value}{base:Heap}
end
end O25
end
section
namespace O25
open PySem L2 Fo
noncomputable def SB (a:Addr)(H H':Hp):Prop:=∀b o,b≠a->H b=some o->H' b=some o
theorem SB.refl {a:Addr}{H:Hp}:SB a H H:=fun _ _ _ h=>h
theorem SB.upd {a:Addr}{H H':Hp}(s:SB a H H')(o:HO):SB a H (upd H' a o):=fun b q n h=>by rw[au n];exact s b q n h
theorem SB.new {a p:Addr}{H H':Hp}(s:SB a H H')(hp:H' p=none)(o:HO):SB a H (L2.upd H' p o):=fun b q n h=>by
 rw[au (aS (s b q n h) hp)];exact s b q n h
noncomputable def ez (R:List Nat->Nat->Nat->List Nat->Nat->Prop):Sp:=fun vs H Q _=>∃(a:Addr) (us:List Nat) (x:Nat),vs=[.ref a,.int x]/\H a=some (.lst (us.map nV))/\us.length≤40/\Fst us/\x<us.length ∧
 ∀h us' n p H',R us x h us' n->SB a H H'->H' a=some (.lst (us'.map nV))->H' p=some (.tup [nV h,nV n])->Q (.ref p) H'
theorem Eb {u y:Nat}:decide (nV u=nV y)=decide (u=y):=by
 rw[yu,Bool.eq_iff_iff,beq_iff_eq,decide_eq_true_iff]
 omega
theorem kn {vs:List Nat}{y v:Nat}:(vs.map nV).set y (nV v)=(vs.set y v).map nV:=by rw[List.map_set]
theorem yj {vs:List Nat}{y v:Nat}(hb:∀z,z<vs.length->up vs z<vs.length)(hy:y<vs.length)(hv:v<vs.length):∀z,z<(vs.set y v).length->up (vs.set y v) z<(vs.set y v).length:=fun z hz=>by
 rw[List.length_set] at hz ⊢
 rw[aT hy]
 split
 ·exact hv
 ·exact hb z hz
theorem uB {p l:List Nat}{y:Nat}(h:l≠[]):bp (p++y::l)=bp l:=by
 induction p with
 |nil=>exact bc h
 |cons z p ih=>rw[List.cons_append,bc (by simp)];exact ih
structure WInv (a:Addr)(x:Nat)(us l:List Nat)(n:Nat)(H:Hp)(m:Nat)(σ:St)(H':Hp):Prop where
 mk' ::
 it:∃vs y pre l2 z,σ=[some (.ref a),some (nV x),some (nV (bp l)),some (nV n),some (nV y),z]/\H' a=some (.lst (vs.map nV))/\SB a H H'/\vs.length=us.length/\(∀t,up vs t=if t∈pre then bp l else up us t)/\l=pre++l2/\Way us y l2/\l2.length=m
structure HInv (a:Addr)(x:Nat)(us':List Nat)(h N len:Nat)(H:Hp)(Rl:List Nat->Nat->Nat->List Nat->Nat->Prop)(m:Nat)(σ:St)(H':Hp):Prop where
 mk' ::
 it:∃vs y k,σ=[some (.ref a),some (nV x),some (nV y),some (nV k)]/\H' a=some (.lst (vs.map nV))/\SB a H H'/\y<len/\vs.length=len/\(∀z,z<vs.length->up vs z<vs.length)/\Rl vs y h us' m/\k+m=N
section
variable {P:Program}{w:World}{K:PySem.W.Frag}{mg:Str->Option Value}{base:Heap}
noncomputable abbrev cK:Stmt:=top 17
theorem sc_find_none:FnScope ["ups","x","at","steps"] ["ups","x"] (ad cK):=⟨rfl,rfl,rfl,by decide +kernel,rfl,by decide +kernel,by decide +kernel⟩
theorem t7 (T:Txt mg)(F:FunD K mg "find_none" cK ["ups","x"]):Def P w K mg base 1 "find_none" ["ups","x"] (ez vy):=by
 refine F.ok sc_find_none (fun vs H Q E h=>by obtain⟨m,v,x,rfl,_⟩:=h;rfl) (fun f cdv A outer s H vs Q E hr h=>?_)
 obtain⟨a,us,x,rfl,ha,h40,hf,hx,q⟩:=h
 refine⟨_,(aA (dm (i:=2) sc_find_none.nd rfl (by first|exact Or.inl rfl|exact Or.inr rfl) (pv 1))
  (aA (dm (i:=3) sc_find_none.nd rfl (by first|exact Or.inl rfl|exact Or.inr rfl) kh)
  (aA (ki PassesOwn.never (lq xG (iC (jF (K:=K) rfl) (pv 0) (pv 2) (fun _ _=>rfl)) (pv 2) (tI _)) (aA (dm (i:=2) sc_find_none.nd rfl (by first|exact Or.inl rfl|exact Or.inr rfl) (iC (jF (K:=K) rfl) (pv 0) (pv 2) (fun _ _=>rfl)))
  (eG (sv (i:=3) sc_find_none.nd rfl (by first|exact Or.inl rfl|exact Or.inr rfl) kh tX))))
  (eG (iI (ld (az aD (pv 2) (az aD (pv 3) eP)))))))),?_⟩
 (try dsimp only[ga,cM,cH,fY,cA,gj,mz,gn,bf,bE,cR,fg,aX,kW,mC,jl,rI,rU,tC,tB,cx,mw,gq,fS,cj,cv,aO,fW,gc,km,mB,cI,aF,bA,ma,fK,kJ,eL,bX,fD,eV,cc,fO,eD,iW,fF,fP,b7,gh,gm,cJ,gl,ca,cg,bm,eW,L2.aQ,List.map_cons,List.map_nil,List.length_cons,List.length_nil,List.replicate,List.cons_append,List.nil_append,List.append_nil,List.getElem?_cons_zero,List.getElem?_cons_succ,List.set_cons_zero,List.set_cons_succ,List.getElem?_nil,Option.bind_some,Option.bind_none,Option.join_some,Option.join_none,Nat.add_one_sub_one,Nat.reduceSub,Nat.reduceAdd]);simp only[ga,cM,cH,fY,cA,gj,mz,gn,bf,bE,cR,fg,aX,kW,mC,jl,rI,rU,tC,tB,cx,mw,gq,fS,cj,cv,aO,fW,gc,km,mB,cI,aF,bA,ma,fK,kJ,eL,bX,fD,eV,cc,fO,eD,iW,fF,fP,b7,gh,gm,cJ,gl,ca,cg,bm,eW,L2.aQ,List.map_cons,List.map_nil,List.length_cons,List.length_nil,List.replicate,List.cons_append,List.nil_append,List.append_nil,List.getElem?_cons_zero,List.getElem?_cons_succ,List.set_cons_zero,List.set_cons_succ,List.getElem?_nil,Option.bind_some,Option.bind_none,Option.join_some,Option.join_none,Option.some.injEq,V.int.injEq,V.bl.injEq,V.ref.injEq,List.cons.injEq,and_true,true_and,exists_eq_left,exists_eq_left',exists_eq_right,exists_and_left,Nat.add_one_sub_one,Nat.reduceSub,Nat.sub_self,Nat.reduceAdd,Nat.zero_add,Int.toNat_natCast,List.length_map,V.ty.injEq,V.str.injEq,and_assoc,gp,jg,Bool.not_true,Bool.not_false,Bool.false_eq_true,if_true,if_false]
 obtain⟨l,wl,hl⟩:=hf.way hx
 refine⟨fun m σ H'=>H'=H/\∃y k l2,σ=[some (.ref a),some (nV x),some (nV y),some (nV k)]/\Way us y l2/\y<us.length/\l2.length=m/\k+l2.length=l.length/\bp l2=bp l,⟨l.length,rfl,x,0,l,rfl,wl,hx,rfl,by omega,rfl⟩,?_⟩
 rintro m σ H' ⟨rfl,y,k,l2,rfl,w2,hy,rfl,e1,e2⟩
 (try dsimp only[ga,cM,cH,fY,cA,gj,mz,gn,bf,bE,cR,fg,aX,kW,mC,jl,rI,rU,tC,tB,cx,mw,gq,fS,cj,cv,aO,fW,gc,km,mB,cI,aF,bA,ma,fK,kJ,eL,bX,fD,eV,cc,fO,eD,iW,fF,fP,b7,gh,gm,cJ,gl,ca,cg,bm,eW,L2.aQ,List.map_cons,List.map_nil,List.length_cons,List.length_nil,List.replicate,List.cons_append,List.nil_append,List.append_nil,List.getElem?_cons_zero,List.getElem?_cons_succ,List.set_cons_zero,List.set_cons_succ,List.getElem?_nil,Option.bind_some,Option.bind_none,Option.join_some,Option.join_none,Nat.add_one_sub_one,Nat.reduceSub,Nat.reduceAdd]);simp only[ga,cM,cH,fY,cA,gj,mz,gn,bf,bE,cR,fg,aX,kW,mC,jl,rI,rU,tC,tB,cx,mw,gq,fS,cj,cv,aO,fW,gc,km,mB,cI,aF,bA,ma,fK,kJ,eL,bX,fD,eV,cc,fO,eD,iW,fF,fP,b7,gh,gm,cJ,gl,ca,cg,bm,eW,L2.aQ,List.map_cons,List.map_nil,List.length_cons,List.length_nil,List.replicate,List.cons_append,List.nil_append,List.append_nil,List.getElem?_cons_zero,List.getElem?_cons_succ,List.set_cons_zero,List.set_cons_succ,List.getElem?_nil,Option.bind_some,Option.bind_none,Option.join_some,Option.join_none,Option.some.injEq,V.int.injEq,V.bl.injEq,V.ref.injEq,List.cons.injEq,and_true,true_and,exists_eq_left,exists_eq_left',exists_eq_right,exists_and_left,Nat.add_one_sub_one,Nat.reduceSub,Nat.sub_self,Nat.reduceAdd,Nat.zero_add,Int.toNat_natCast,List.length_map,V.ty.injEq,V.str.injEq,and_assoc,gp,jg,Bool.not_true,Bool.not_false,Bool.false_eq_true,if_true,if_false]
 refine⟨us.map nV,SqL.of ha,_,eI hy,rfl,?_⟩
 rw[show decide (nV (us.getD y 0)=nV y)=decide (up us y=y) from Eb]
 cases w2 with
 |head e=>
  rw[decide_eq_true e]
  refine⟨by decide,fun p hp=>q _ us k p _ ⟨rfl,l,wl,?_,by simpa using e1⟩ (SB.refl.new hp _) (by rw[au (aS ha hp)];exact ha) af⟩
  exact e2
 | @step _ l3 n w3=>
  rw[decide_eq_false n]
  refine⟨fun σ' H''=>H''=H'/\σ'=[some (.ref a),some (nV x),some (nV (up us y)),some (.int (k+1))],fun σ' H'' e=>?_,us.map nV,SqL.of ha,_,eI hy,rfl,rfl⟩
  obtain⟨rfl,rfl⟩:=e
  exact⟨l3.length,by simp,rfl,up us y,k+1,rfl,l3,w3,hf.bnd y hy,rfl,by rw[←e1];simp;omega,by rw[←e2,bc w3.ne]⟩
noncomputable abbrev bJ:Stmt:=top 19
theorem sc_find_halves:FnScope ["ups","x","at","steps"] ["ups","x"] (ad bJ):=⟨rfl,rfl,rfl,by decide +kernel,rfl,by decide +kernel,by decide +kernel⟩
theorem pD (T:Txt mg)(F:FunD K mg "find_halves" bJ ["ups","x"]):Def P w K mg base 1 "find_halves" ["ups","x"] (ez sg):=by
 refine F.ok sc_find_halves (fun vs H Q E h=>by obtain⟨m,v,x,rfl,_⟩:=h;rfl) (fun f cdv A outer s H vs Q E hr h=>?_)
 obtain⟨a,us,x,rfl,ha,h40,hf,hx,q⟩:=h
 refine⟨_,(aA (dm (i:=2) sc_find_halves.nd rfl (by first|exact Or.inl rfl|exact Or.inr rfl) (pv 1))
  (aA (dm (i:=3) sc_find_halves.nd rfl (by first|exact Or.inl rfl|exact Or.inr rfl) kh)
  (aA (ki PassesOwn.never (lq xG (iC (jF (K:=K) rfl) (pv 0) (pv 2) (fun _ _=>rfl)) (pv 2) (tI _)) (aA (ju (iC (jF (K:=K) rfl) (pv 0) (iC (jF (K:=K) rfl) (pv 0) (pv 2) (fun _ _=>rfl)) (fun _ _=>rfl)) (pc (pv 0) (pv 2) jf))
  (aA (dm (i:=2) sc_find_halves.nd rfl (by first|exact Or.inl rfl|exact Or.inr rfl) (iC (jF (K:=K) rfl) (pv 0) (pv 2) (fun _ _=>rfl)))
  (eG (sv (i:=3) sc_find_halves.nd rfl (by first|exact Or.inl rfl|exact Or.inr rfl) kh tX)))))
  (eG (iI (ld (az aD (pv 2) (az aD (pv 3) eP)))))))),?_⟩
 (try dsimp only[ga,cM,cH,fY,cA,gj,mz,gn,bf,bE,cR,fg,aX,kW,mC,jl,rI,rU,tC,tB,cx,mw,gq,fS,cj,cv,aO,fW,gc,km,mB,cI,aF,bA,ma,fK,kJ,eL,bX,fD,eV,cc,fO,eD,iW,fF,fP,b7,gh,gm,cJ,gl,ca,cg,bm,eW,L2.aQ,List.map_cons,List.map_nil,List.length_cons,List.length_nil,List.replicate,List.cons_append,List.nil_append,List.append_nil,List.getElem?_cons_zero,List.getElem?_cons_succ,List.set_cons_zero,List.set_cons_succ,List.getElem?_nil,Option.bind_some,Option.bind_none,Option.join_some,Option.join_none,Nat.add_one_sub_one,Nat.reduceSub,Nat.reduceAdd]);simp only[ga,cM,cH,fY,cA,gj,mz,gn,bf,bE,cR,fg,aX,kW,mC,jl,rI,rU,tC,tB,cx,mw,gq,fS,cj,cv,aO,fW,gc,km,mB,cI,aF,bA,ma,fK,kJ,eL,bX,fD,eV,cc,fO,eD,iW,fF,fP,b7,gh,gm,cJ,gl,ca,cg,bm,eW,L2.aQ,List.map_cons,List.map_nil,List.length_cons,List.length_nil,List.replicate,List.cons_append,List.nil_append,List.append_nil,List.getElem?_cons_zero,List.getElem?_cons_succ,List.set_cons_zero,List.set_cons_succ,List.getElem?_nil,Option.bind_some,Option.bind_none,Option.join_some,Option.join_none,Option.some.injEq,V.int.injEq,V.bl.injEq,V.ref.injEq,List.cons.injEq,and_true,true_and,exists_eq_left,exists_eq_left',exists_eq_right,exists_and_left,Nat.add_one_sub_one,Nat.reduceSub,Nat.sub_self,Nat.reduceAdd,Nat.zero_add,Int.toNat_natCast,List.length_map,V.ty.injEq,V.str.injEq,and_assoc,gp,jg,Bool.not_true,Bool.not_false,Bool.false_eq_true,if_true,if_false]
 obtain⟨l,wl,hl⟩:=hf.way hx
 obtain⟨us',hv,g1,g2⟩:=tW l wl (wl.nodup hf hx) (wl.lt hf.bnd hx)
 refine⟨fun m σ H'=>HInv a x us' (bp l) (l.length / 2) us.length H Halv m σ H',⟨l.length / 2,⟨us,x,0,rfl,ha,SB.refl,hx,rfl,hf.bnd,hv,by omega⟩⟩,?_⟩
 rintro m σ H' ⟨⟨vs,y,k,rfl,hv',sb,hy,hlen,hb,w2,e1⟩⟩
 (try dsimp only[ga,cM,cH,fY,cA,gj,mz,gn,bf,bE,cR,fg,aX,kW,mC,jl,rI,rU,tC,tB,cx,mw,gq,fS,cj,cv,aO,fW,gc,km,mB,cI,aF,bA,ma,fK,kJ,eL,bX,fD,eV,cc,fO,eD,iW,fF,fP,b7,gh,gm,cJ,gl,ca,cg,bm,eW,L2.aQ,List.map_cons,List.map_nil,List.length_cons,List.length_nil,List.replicate,List.cons_append,List.nil_append,List.append_nil,List.getElem?_cons_zero,List.getElem?_cons_succ,List.set_cons_zero,List.set_cons_succ,List.getElem?_nil,Option.bind_some,Option.bind_none,Option.join_some,Option.join_none,Nat.add_one_sub_one,Nat.reduceSub,Nat.reduceAdd]);simp only[ga,cM,cH,fY,cA,gj,mz,gn,bf,bE,cR,fg,aX,kW,mC,jl,rI,rU,tC,tB,cx,mw,gq,fS,cj,cv,aO,fW,gc,km,mB,cI,aF,bA,ma,fK,kJ,eL,bX,fD,eV,cc,fO,eD,iW,fF,fP,b7,gh,gm,cJ,gl,ca,cg,bm,eW,L2.aQ,List.map_cons,List.map_nil,List.length_cons,List.length_nil,List.replicate,List.cons_append,List.nil_append,List.append_nil,List.getElem?_cons_zero,List.getElem?_cons_succ,List.set_cons_zero,List.set_cons_succ,List.getElem?_nil,Option.bind_some,Option.bind_none,Option.join_some,Option.join_none,Option.some.injEq,V.int.injEq,V.bl.injEq,V.ref.injEq,List.cons.injEq,and_true,true_and,exists_eq_left,exists_eq_left',exists_eq_right,exists_and_left,Nat.add_one_sub_one,Nat.reduceSub,Nat.sub_self,Nat.reduceAdd,Nat.zero_add,Int.toNat_natCast,List.length_map,V.ty.injEq,V.str.injEq,and_assoc,gp,jg,Bool.not_true,Bool.not_false,Bool.false_eq_true,if_true,if_false]
 refine⟨vs.map nV,SqL.of hv',_,eI (by omega),rfl,?_⟩
 rw[show decide (nV (vs.getD y 0)=nV y)=decide (up vs y=y) from Eb]
 cases w2 with
 |stop e=>
  rw[decide_eq_true e]
  refine⟨by decide,fun p hp=>q _ us' k p _ ⟨l,wl,rfl,by omega,g1,g2⟩ (sb.new hp _) (by rw[au (aS hv' hp)];exact hv') af⟩
 | @step _ _ _ m _ n w3=>
  rw[decide_eq_false n]
  refine⟨fun σ' H''=>H''=upd H' a (.lst ((vs.set y (up vs (up vs y))).map nV))/\σ'=[some (.ref a),some (nV x),some (nV (up vs (up vs y))),some (.int (k+1))],fun σ' H'' e=>?_,vs.map nV,SqL.of hv',_,eI (by omega),vs.map nV,_,rfl,SqL.of hv',_,eI (hb y (by omega)),vs.map nV,hv',y,sO (by rw[List.length_map];omega),_,SqL.of af,nV (up vs (up vs y)),?_,?_⟩
  ·obtain⟨rfl,rfl⟩:=e
   exact⟨m,by omega,⟨⟨_,up vs (up vs y),k+1,rfl,af,sb.upd _,by have:=hb y (by omega);have:=hb _ this;omega,by rw[List.length_set];exact hlen,yj hb (by omega) (hb _ (hb _ (by omega))),w3,by omega⟩⟩⟩
  ·rw[kn,eI (by rw[List.length_set];omega)]
   show some (nV (up (vs.set y _) y))=_
   rw[aT (by omega),if_pos rfl]
  ·rw[kn];exact⟨rfl,rfl⟩
noncomputable abbrev bK:Stmt:=top 20
theorem sc_find_splits:FnScope ["ups","x","at","steps","above"] ["ups","x"] (ad bK):=⟨rfl,rfl,rfl,by decide +kernel,rfl,by decide +kernel,by decide +kernel⟩
theorem pr (T:Txt mg)(F:FunD K mg "find_splits" bK ["ups","x"]):Def P w K mg base 1 "find_splits" ["ups","x"] (ez sq):=by
 refine F.ok sc_find_splits (fun vs H Q E h=>by obtain⟨m,v,x,rfl,_⟩:=h;rfl) (fun f cdv A outer s H vs Q E hr h=>?_)
 obtain⟨a,us,x,rfl,ha,h40,hf,hx,q⟩:=h
 refine⟨_,(aA (dm (i:=2) sc_find_splits.nd rfl (by first|exact Or.inl rfl|exact Or.inr rfl) (pv 1))
  (aA (dm (i:=3) sc_find_splits.nd rfl (by first|exact Or.inl rfl|exact Or.inr rfl) kh)
  (aA (ki PassesOwn.never (lq xG (iC (jF (K:=K) rfl) (pv 0) (pv 2) (fun _ _=>rfl)) (pv 2) (tI _)) (aA (dm (i:=4) sc_find_splits.nd rfl (by first|exact Or.inl rfl|exact Or.inr rfl) (iC (jF (K:=K) rfl) (pv 0) (pv 2) (fun _ _=>rfl)))
  (aA (ju (iC (jF (K:=K) rfl) (pv 0) (pv 4) (fun _ _=>rfl)) (pc (pv 0) (pv 2) jf))
  (aA (dm (i:=2) sc_find_splits.nd rfl (by first|exact Or.inl rfl|exact Or.inr rfl) (pv 4))
  (eG (sv (i:=3) sc_find_splits.nd rfl (by first|exact Or.inl rfl|exact Or.inr rfl) kh tX))))))
  (eG (iI (ld (az aD (pv 2) (az aD (pv 3) eP)))))))),?_⟩
 (try dsimp only[ga,cM,cH,fY,cA,gj,mz,gn,bf,bE,cR,fg,aX,kW,mC,jl,rI,rU,tC,tB,cx,mw,gq,fS,cj,cv,aO,fW,gc,km,mB,cI,aF,bA,ma,fK,kJ,eL,bX,fD,eV,cc,fO,eD,iW,fF,fP,b7,gh,gm,cJ,gl,ca,cg,bm,eW,L2.aQ,List.map_cons,List.map_nil,List.length_cons,List.length_nil,List.replicate,List.cons_append,List.nil_append,List.append_nil,List.getElem?_cons_zero,List.getElem?_cons_succ,List.set_cons_zero,List.set_cons_succ,List.getElem?_nil,Option.bind_some,Option.bind_none,Option.join_some,Option.join_none,Nat.add_one_sub_one,Nat.reduceSub,Nat.reduceAdd]);simp only[ga,cM,cH,fY,cA,gj,mz,gn,bf,bE,cR,fg,aX,kW,mC,jl,rI,rU,tC,tB,cx,mw,gq,fS,cj,cv,aO,fW,gc,km,mB,cI,aF,bA,ma,fK,kJ,eL,bX,fD,eV,cc,fO,eD,iW,fF,fP,b7,gh,gm,cJ,gl,ca,cg,bm,eW,L2.aQ,List.map_cons,List.map_nil,List.length_cons,List.length_nil,List.replicate,List.cons_append,List.nil_append,List.append_nil,List.getElem?_cons_zero,List.getElem?_cons_succ,List.set_cons_zero,List.set_cons_succ,List.getElem?_nil,Option.bind_some,Option.bind_none,Option.join_some,Option.join_none,Option.some.injEq,V.int.injEq,V.bl.injEq,V.ref.injEq,List.cons.injEq,and_true,true_and,exists_eq_left,exists_eq_left',exists_eq_right,exists_and_left,Nat.add_one_sub_one,Nat.reduceSub,Nat.sub_self,Nat.reduceAdd,Nat.zero_add,Int.toNat_natCast,List.length_map,V.ty.injEq,V.str.injEq,and_assoc,gp,jg,Bool.not_true,Bool.not_false,Bool.false_eq_true,if_true,if_false]
 obtain⟨l,wl,hl⟩:=hf.way hx
 obtain⟨us',hv,g1,g2⟩:=yC wl (wl.nodup hf hx) (wl.lt hf.bnd hx)
 have lp:=wl.pos
 refine⟨fun m σ H'=>∃z,HInv a x us' (bp l) (l.length - 1) us.length H Splt m (σ.take 4) H'/\σ=σ.take 4++[z],⟨l.length - 1,none,⟨us,x,0,rfl,ha,SB.refl,hx,rfl,hf.bnd,hv,by omega⟩,rfl⟩,?_⟩
 rintro m σ H' ⟨z,⟨vs,y,k,eσ,hv',sb,hy,hlen,hb,w2,e1⟩,eσ'⟩
 rw[eσ] at eσ'
 subst eσ'
 (try dsimp only[ga,cM,cH,fY,cA,gj,mz,gn,bf,bE,cR,fg,aX,kW,mC,jl,rI,rU,tC,tB,cx,mw,gq,fS,cj,cv,aO,fW,gc,km,mB,cI,aF,bA,ma,fK,kJ,eL,bX,fD,eV,cc,fO,eD,iW,fF,fP,b7,gh,gm,cJ,gl,ca,cg,bm,eW,L2.aQ,List.map_cons,List.map_nil,List.length_cons,List.length_nil,List.replicate,List.cons_append,List.nil_append,List.append_nil,List.getElem?_cons_zero,List.getElem?_cons_succ,List.set_cons_zero,List.set_cons_succ,List.getElem?_nil,Option.bind_some,Option.bind_none,Option.join_some,Option.join_none,Nat.add_one_sub_one,Nat.reduceSub,Nat.reduceAdd]);simp only[ga,cM,cH,fY,cA,gj,mz,gn,bf,bE,cR,fg,aX,kW,mC,jl,rI,rU,tC,tB,cx,mw,gq,fS,cj,cv,aO,fW,gc,km,mB,cI,aF,bA,ma,fK,kJ,eL,bX,fD,eV,cc,fO,eD,iW,fF,fP,b7,gh,gm,cJ,gl,ca,cg,bm,eW,L2.aQ,List.map_cons,List.map_nil,List.length_cons,List.length_nil,List.replicate,List.cons_append,List.nil_append,List.append_nil,List.getElem?_cons_zero,List.getElem?_cons_succ,List.set_cons_zero,List.set_cons_succ,List.getElem?_nil,Option.bind_some,Option.bind_none,Option.join_some,Option.join_none,Option.some.injEq,V.int.injEq,V.bl.injEq,V.ref.injEq,List.cons.injEq,and_true,true_and,exists_eq_left,exists_eq_left',exists_eq_right,exists_and_left,Nat.add_one_sub_one,Nat.reduceSub,Nat.sub_self,Nat.reduceAdd,Nat.zero_add,Int.toNat_natCast,List.length_map,V.ty.injEq,V.str.injEq,and_assoc,gp,jg,Bool.not_true,Bool.not_false,Bool.false_eq_true,if_true,if_false]
 refine⟨vs.map nV,SqL.of hv',_,eI (by omega),rfl,?_⟩
 rw[show decide (nV (vs.getD y 0)=nV y)=decide (up vs y=y) from Eb]
 cases w2 with
 |stop e=>
  rw[decide_eq_true e]
  refine⟨by decide,fun p hp=>q _ us' k p _ ⟨l,wl,rfl,by omega,g1,g2⟩ (sb.new hp _) (by rw[au (aS hv' hp)];exact hv') af⟩
 | @step _ _ _ m _ n w3=>
  rw[decide_eq_false n]
  refine⟨fun σ' H''=>H''=upd H' a (.lst ((vs.set y (up vs (up vs y))).map nV))/\σ'=[some (.ref a),some (nV x),some (nV (up vs y)),some (.int (k+1)),some (nV (up vs y))],fun σ' H'' e=>?_,vs.map nV,SqL.of hv',_,eI (by omega),vs.map nV,_,rfl,SqL.of hv',_,eI (hb y (by omega)),vs.map nV,hv',y,sO (by rw[List.length_map];omega),?_⟩
  ·obtain⟨rfl,rfl⟩:=e
   exact⟨m,by omega,⟨⟨_,up vs y,k+1,rfl,af,sb.upd _,by have:=hb y (by omega);omega,by rw[List.length_set];exact hlen,yj hb (by omega) (hb _ (hb _ (by omega))),w3,by omega⟩⟩,_,rfl⟩
  ·rw[kn];exact⟨rfl,rfl⟩
noncomputable abbrev d5:Stmt:=top 21
theorem sc_find_one:FnScope ["ups","x","head","steps"] ["ups","x"] (ad d5):=⟨rfl,rfl,rfl,by decide +kernel,rfl,by decide +kernel,by decide +kernel⟩
theorem vd (T:Txt mg)(F:FunD K mg "find_one" d5 ["ups","x"])(d_find_none:Def P w K mg base 1 "find_none" ["ups","x"] (ez vy)):Def P w K mg base 2 "find_one" ["ups","x"] (ez KY):=by
 refine F.ok sc_find_one (fun vs H Q E h=>by obtain⟨m,v,x,rfl,_⟩:=h;rfl) (fun f cdv A outer s H vs Q E hr h=>?_)
 obtain⟨a,us,x,rfl,ha,h40,hf,hx,q⟩:=h
 refine⟨_,(aA (ju (lg d_find_none hr (az aD (pv 0) (az aD (pv 1) eP)) (he:=aD _ _)) (wV (K:=K) (n:=2) rfl rfl (ig (jx (i:=2) sc_find_one.nd rfl (by first|exact Or.inl rfl|exact Or.inr rfl)) (ig (jx (i:=3) sc_find_one.nd rfl (by first|exact Or.inl rfl|exact Or.inr rfl)) nR))))
  (aA (ju (iC (jF (K:=K) rfl) (pv 0) (iC (jF (K:=K) rfl) (pv 0) (pv 1) (fun _ _=>rfl)) (fun _ _=>rfl)) (pc (pv 0) (pv 1) jf))
  (eG (iI (ld (az aD (pv 2) (az aD (pv 3) eP))))))),?_⟩
 (try dsimp only[ga,cM,cH,fY,cA,gj,mz,gn,bf,bE,cR,fg,aX,kW,mC,jl,rI,rU,tC,tB,cx,mw,gq,fS,cj,cv,aO,fW,gc,km,mB,cI,aF,bA,ma,fK,kJ,eL,bX,fD,eV,cc,fO,eD,iW,fF,fP,b7,gh,gm,cJ,gl,ca,cg,bm,eW,L2.aQ,List.map_cons,List.map_nil,List.length_cons,List.length_nil,List.replicate,List.cons_append,List.nil_append,List.append_nil,List.getElem?_cons_zero,List.getElem?_cons_succ,List.set_cons_zero,List.set_cons_succ,List.getElem?_nil,Option.bind_some,Option.bind_none,Option.join_some,Option.join_none,Nat.add_one_sub_one,Nat.reduceSub,Nat.reduceAdd]);simp only[ga,cM,cH,fY,cA,gj,mz,gn,bf,bE,cR,fg,aX,kW,mC,jl,rI,rU,tC,tB,cx,mw,gq,fS,cj,cv,aO,fW,gc,km,mB,cI,aF,bA,ma,fK,kJ,eL,bX,fD,eV,cc,fO,eD,iW,fF,fP,b7,gh,gm,cJ,gl,ca,cg,bm,eW,L2.aQ,List.map_cons,List.map_nil,List.length_cons,List.length_nil,List.replicate,List.cons_append,List.nil_append,List.append_nil,List.getElem?_cons_zero,List.getElem?_cons_succ,List.set_cons_zero,List.set_cons_succ,List.getElem?_nil,Option.bind_some,Option.bind_none,Option.join_some,Option.join_none,Option.some.injEq,V.int.injEq,V.bl.injEq,V.ref.injEq,List.cons.injEq,and_true,true_and,exists_eq_left,exists_eq_left',exists_eq_right,exists_and_left,Nat.add_one_sub_one,Nat.reduceSub,Nat.sub_self,Nat.reduceAdd,Nat.zero_add,Int.toNat_natCast,List.length_map,V.ty.injEq,V.str.injEq,and_assoc,gp,jg,Bool.not_true,Bool.not_false,Bool.false_eq_true,if_true,if_false]
 refine⟨a,us,x,rfl,ha,h40,hf,hx,?_⟩
 rintro h us2 n p H' ⟨e,l,wl,rfl,hn⟩ sb h1 h2
 rw[e] at h1
 clear e
 (try dsimp only[ga,cM,cH,fY,cA,gj,mz,gn,bf,bE,cR,fg,aX,kW,mC,jl,rI,rU,tC,tB,cx,mw,gq,fS,cj,cv,aO,fW,gc,km,mB,cI,aF,bA,ma,fK,kJ,eL,bX,fD,eV,cc,fO,eD,iW,fF,fP,b7,gh,gm,cJ,gl,ca,cg,bm,eW,L2.aQ,List.map_cons,List.map_nil,List.length_cons,List.length_nil,List.replicate,List.cons_append,List.nil_append,List.append_nil,List.getElem?_cons_zero,List.getElem?_cons_succ,List.set_cons_zero,List.set_cons_succ,List.getElem?_nil,Option.bind_some,Option.bind_none,Option.join_some,Option.join_none,Nat.add_one_sub_one,Nat.reduceSub,Nat.reduceAdd]);simp only[ga,cM,cH,fY,cA,gj,mz,gn,bf,bE,cR,fg,aX,kW,mC,jl,rI,rU,tC,tB,cx,mw,gq,fS,cj,cv,aO,fW,gc,km,mB,cI,aF,bA,ma,fK,kJ,eL,bX,fD,eV,cc,fO,eD,iW,fF,fP,b7,gh,gm,cJ,gl,ca,cg,bm,eW,L2.aQ,List.map_cons,List.map_nil,List.length_cons,List.length_nil,List.replicate,List.cons_append,List.nil_append,List.append_nil,List.getElem?_cons_zero,List.getElem?_cons_succ,List.set_cons_zero,List.set_cons_succ,List.getElem?_nil,Option.bind_some,Option.bind_none,Option.join_some,Option.join_none,Option.some.injEq,V.int.injEq,V.bl.injEq,V.ref.injEq,List.cons.injEq,and_true,true_and,exists_eq_left,exists_eq_left',exists_eq_right,exists_and_left,Nat.add_one_sub_one,Nat.reduceSub,Nat.sub_self,Nat.reduceAdd,Nat.zero_add,Int.toNat_natCast,List.length_map,V.ty.injEq,V.str.injEq,and_assoc,gp,jg,Bool.not_true,Bool.not_false,Bool.false_eq_true,if_true,if_false]
 refine⟨[nV (bp l),nV n],SqT.of h2,rfl,_,_,rfl,_,_,rfl,rfl,us.map nV,SqL.of h1,_,eI hx,us.map nV,_,rfl,SqL.of h1,_,eI (hf.bnd x hx),us.map nV,h1,x,sO (by rw[List.length_map];omega),by decide,fun p2 hp2=>?_⟩
 rw[kn] at hp2 ⊢
 exact q _ _ n p2 _ ⟨rfl,l,wl,rfl,hn⟩ ((sb.upd _).new hp2 _) (by rw[au (aS af hp2),af]) af
noncomputable abbrev cf:Stmt:=top 18
theorem sc_find_whole:FnScope ["ups","x","head","steps","at","above"] ["ups","x"] (ad cf):=⟨rfl,rfl,rfl,by decide +kernel,rfl,by decide +kernel,by decide +kernel⟩
theorem qw (T:Txt mg)(F:FunD K mg "find_whole" cf ["ups","x"])(d_find_none:Def P w K mg base 1 "find_none" ["ups","x"] (ez vy)):Def P w K mg base 2 "find_whole" ["ups","x"] (ez vZ):=by
 refine F.ok sc_find_whole (fun vs H Q E h=>by obtain⟨m,v,x,rfl,_⟩:=h;rfl) (fun f cdv A outer s H vs Q E hr h=>?_)
 obtain⟨a,us,x,rfl,ha,h40,hf,hx,q⟩:=h
 refine⟨_,(aA (ju (lg d_find_none hr (az aD (pv 0) (az aD (pv 1) eP)) (he:=aD _ _)) (wV (K:=K) (n:=2) rfl rfl (ig (jx (i:=2) sc_find_whole.nd rfl (by first|exact Or.inl rfl|exact Or.inr rfl)) (ig (jx (i:=3) sc_find_whole.nd rfl (by first|exact Or.inl rfl|exact Or.inr rfl)) nR))))
  (aA (dm (i:=4) sc_find_whole.nd rfl (by first|exact Or.inl rfl|exact Or.inr rfl) (pv 1))
  (aA (ki PassesOwn.never (lq xG (pv 4) (pv 2) (tI _)) (aA (dm (i:=5) sc_find_whole.nd rfl (by first|exact Or.inl rfl|exact Or.inr rfl) (iC (jF (K:=K) rfl) (pv 0) (pv 4) (fun _ _=>rfl)))
  (aA (ju (pv 2) (pc (pv 0) (pv 4) jf))
  (eG (dm (i:=4) sc_find_whole.nd rfl (by first|exact Or.inl rfl|exact Or.inr rfl) (pv 5))))))
  (eG (iI (ld (az aD (pv 2) (az aD (pv 3) eP)))))))),?_⟩
 (try dsimp only[ga,cM,cH,fY,cA,gj,mz,gn,bf,bE,cR,fg,aX,kW,mC,jl,rI,rU,tC,tB,cx,mw,gq,fS,cj,cv,aO,fW,gc,km,mB,cI,aF,bA,ma,fK,kJ,eL,bX,fD,eV,cc,fO,eD,iW,fF,fP,b7,gh,gm,cJ,gl,ca,cg,bm,eW,L2.aQ,List.map_cons,List.map_nil,List.length_cons,List.length_nil,List.replicate,List.cons_append,List.nil_append,List.append_nil,List.getElem?_cons_zero,List.getElem?_cons_succ,List.set_cons_zero,List.set_cons_succ,List.getElem?_nil,Option.bind_some,Option.bind_none,Option.join_some,Option.join_none,Nat.add_one_sub_one,Nat.reduceSub,Nat.reduceAdd]);simp only[ga,cM,cH,fY,cA,gj,mz,gn,bf,bE,cR,fg,aX,kW,mC,jl,rI,rU,tC,tB,cx,mw,gq,fS,cj,cv,aO,fW,gc,km,mB,cI,aF,bA,ma,fK,kJ,eL,bX,fD,eV,cc,fO,eD,iW,fF,fP,b7,gh,gm,cJ,gl,ca,cg,bm,eW,L2.aQ,List.map_cons,List.map_nil,List.length_cons,List.length_nil,List.replicate,List.cons_append,List.nil_append,List.append_nil,List.getElem?_cons_zero,List.getElem?_cons_succ,List.set_cons_zero,List.set_cons_succ,List.getElem?_nil,Option.bind_some,Option.bind_none,Option.join_some,Option.join_none,Option.some.injEq,V.int.injEq,V.bl.injEq,V.ref.injEq,List.cons.injEq,and_true,true_and,exists_eq_left,exists_eq_left',exists_eq_right,exists_and_left,Nat.add_one_sub_one,Nat.reduceSub,Nat.sub_self,Nat.reduceAdd,Nat.zero_add,Int.toNat_natCast,List.length_map,V.ty.injEq,V.str.injEq,and_assoc,gp,jg,Bool.not_true,Bool.not_false,Bool.false_eq_true,if_true,if_false]
 refine⟨a,us,x,rfl,ha,h40,hf,hx,?_⟩
 rintro h us2 n p H' ⟨e,l,wl,rfl,hn⟩ sb h1 h2
 rw[e] at h1
 clear e
 (try dsimp only[ga,cM,cH,fY,cA,gj,mz,gn,bf,bE,cR,fg,aX,kW,mC,jl,rI,rU,tC,tB,cx,mw,gq,fS,cj,cv,aO,fW,gc,km,mB,cI,aF,bA,ma,fK,kJ,eL,bX,fD,eV,cc,fO,eD,iW,fF,fP,b7,gh,gm,cJ,gl,ca,cg,bm,eW,L2.aQ,List.map_cons,List.map_nil,List.length_cons,List.length_nil,List.replicate,List.cons_append,List.nil_append,List.append_nil,List.getElem?_cons_zero,List.getElem?_cons_succ,List.set_cons_zero,List.set_cons_succ,List.getElem?_nil,Option.bind_some,Option.bind_none,Option.join_some,Option.join_none,Nat.add_one_sub_one,Nat.reduceSub,Nat.reduceAdd]);simp only[ga,cM,cH,fY,cA,gj,mz,gn,bf,bE,cR,fg,aX,kW,mC,jl,rI,rU,tC,tB,cx,mw,gq,fS,cj,cv,aO,fW,gc,km,mB,cI,aF,bA,ma,fK,kJ,eL,bX,fD,eV,cc,fO,eD,iW,fF,fP,b7,gh,gm,cJ,gl,ca,cg,bm,eW,L2.aQ,List.map_cons,List.map_nil,List.length_cons,List.length_nil,List.replicate,List.cons_append,List.nil_append,List.append_nil,List.getElem?_cons_zero,List.getElem?_cons_succ,List.set_cons_zero,List.set_cons_succ,List.getElem?_nil,Option.bind_some,Option.bind_none,Option.join_some,Option.join_none,Option.some.injEq,V.int.injEq,V.bl.injEq,V.ref.injEq,List.cons.injEq,and_true,true_and,exists_eq_left,exists_eq_left',exists_eq_right,exists_and_left,Nat.add_one_sub_one,Nat.reduceSub,Nat.sub_self,Nat.reduceAdd,Nat.zero_add,Int.toNat_natCast,List.length_map,V.ty.injEq,V.str.injEq,and_assoc,gp,jg,Bool.not_true,Bool.not_false,Bool.false_eq_true,if_true,if_false]
 refine⟨[nV (bp l),nV n],SqT.of h2,rfl,_,_,rfl,_,_,rfl,rfl,?_⟩
 have nd:=wl.nodup hf hx
 have inl:=wl.lt hf.bnd hx
 refine⟨fun m σ H''=>WInv a x us l n H m σ H'',⟨l.length,⟨us,x,[],l,none,rfl,h1,sb,rfl,fun t=>by simp,rfl,wl,rfl⟩⟩,?_⟩
 rintro m σ H'' ⟨⟨vs,y,pre,l2,z,rfl,hv',sb',hlen,hup,el,w2,rfl⟩⟩
 have hy:y<us.length:=inl y (by rw[el];exact List.mem_append_right _ w2.mem_self)
 have np:y∉pre:=fun hm=>by
  rw[el] at nd
  exact (List.nodup_append.mp nd).2.2 y hm y w2.mem_self rfl
 have uy:up vs y=up us y:=by rw[hup,if_neg np]
 (try dsimp only[ga,cM,cH,fY,cA,gj,mz,gn,bf,bE,cR,fg,aX,kW,mC,jl,rI,rU,tC,tB,cx,mw,gq,fS,cj,cv,aO,fW,gc,km,mB,cI,aF,bA,ma,fK,kJ,eL,bX,fD,eV,cc,fO,eD,iW,fF,fP,b7,gh,gm,cJ,gl,ca,cg,bm,eW,L2.aQ,List.map_cons,List.map_nil,List.length_cons,List.length_nil,List.replicate,List.cons_append,List.nil_append,List.append_nil,List.getElem?_cons_zero,List.getElem?_cons_succ,List.set_cons_zero,List.set_cons_succ,List.getElem?_nil,Option.bind_some,Option.bind_none,Option.join_some,Option.join_none,Nat.add_one_sub_one,Nat.reduceSub,Nat.reduceAdd]);simp only[ga,cM,cH,fY,cA,gj,mz,gn,bf,bE,cR,fg,aX,kW,mC,jl,rI,rU,tC,tB,cx,mw,gq,fS,cj,cv,aO,fW,gc,km,mB,cI,aF,bA,ma,fK,kJ,eL,bX,fD,eV,cc,fO,eD,iW,fF,fP,b7,gh,gm,cJ,gl,ca,cg,bm,eW,L2.aQ,List.map_cons,List.map_nil,List.length_cons,List.length_nil,List.replicate,List.cons_append,List.nil_append,List.append_nil,List.getElem?_cons_zero,List.getElem?_cons_succ,List.set_cons_zero,List.set_cons_succ,List.getElem?_nil,Option.bind_some,Option.bind_none,Option.join_some,Option.join_none,Option.some.injEq,V.int.injEq,V.bl.injEq,V.ref.injEq,List.cons.injEq,and_true,true_and,exists_eq_left,exists_eq_left',exists_eq_right,exists_and_left,Nat.add_one_sub_one,Nat.reduceSub,Nat.sub_self,Nat.reduceAdd,Nat.zero_add,Int.toNat_natCast,List.length_map,V.ty.injEq,V.str.injEq,and_assoc,gp,jg,Bool.not_true,Bool.not_false,Bool.false_eq_true,if_true,if_false]
 refine⟨rfl,?_⟩
 rw[show decide ((y:Int)=(bp l:Int))=decide (y=bp l) by rw[Bool.eq_iff_iff,decide_eq_true_iff,decide_eq_true_iff];omega]
 cases w2 with
 |head e=>
  have ey:y=bp l:=by rw[el];simp[bp]
  rw[decide_eq_true ey]
  refine⟨by decide,fun p hp=>q _ vs n p _ ⟨l,wl,rfl,hn,hlen,fun t=>?_⟩ (sb'.new hp _) (by rw[au (aS hv' hp)];exact hv') af⟩
  rw[hup]
  by_cases h3:t∈pre
  ·rw[if_pos h3,if_pos (by rw[el];exact List.mem_append_left _ h3)]
  ·rw[if_neg h3]
   by_cases h4:t=y
   ·rw[h4,if_pos (by rw[el];simp),e];exact ey
   ·rw[if_neg (by rw[el];simp[h3,h4])]
 | @step _ l3 n2 w3=>
  have el3:bp l=bp l3:=by rw[el];exact uB w3.ne
  have ny:y∉l3:=fun hm=>by
   rw[el] at nd
   exact (List.nodup_cons.mp (List.nodup_append.mp nd).2.1).1 hm
  have hne:¬y=bp l:=fun e=>ny (by rw[e,el3];exact lV w3.ne)
  rw[decide_eq_false hne]
  refine⟨fun σ' H3=>H3=upd H'' a (.lst ((vs.set y (bp l)).map nV))/\σ'=[some (.ref a),some (nV x),some (nV (bp l)),some (nV n),some (nV (up us y)),some (nV (up us y))],fun σ' H3 e=>?_,vs.map nV,SqL.of hv',_,eI (by omega),vs.map nV,hv',y,sO (by rw[List.length_map];omega),?_⟩
  ·obtain⟨rfl,rfl⟩:=e
   refine⟨l3.length,by simp,⟨⟨_,up us y,pre++[y],l3,_,rfl,af,sb'.upd _,by rw[List.length_set];exact hlen,fun t=>?_,by rw[el];simp,w3,rfl⟩⟩⟩
   rw[aT (by omega),hup]
   by_cases h4:t=y
   ·simp[h4]
   ·simp[h4]
  ·rw[kn]
   show _/\[_,_,_,_,some (nV (up vs y)),some (nV (up vs y))]=_
   rw[uy]
   exact⟨rfl,rfl⟩
end
end O25
end
section
namespace O25
open PySem L2 Fo
structure Tabs (w:World)(K:PySem.W.Frag)(mg:Str->Option Value)(aM:Addr)(kvs:List (Str×Addr)):Prop where
 m:mg "MANNERS" = some (.ref aM)
 tab:Tab w K aM kvs
structure Tr (H:Hp)(a:Addr)(us:List Nat):Prop where
 it:H a=some (.tup (us.map nV))
 one:1≤us.length
 most:us.length≤40
 fst:Fst us
section
variable {P:Program}{w:World}{K:PySem.W.Frag}{mg:Str->Option Value}{base:Heap}{aM:Addr}{kvs:List (Str×Addr)}
noncomputable abbrev dz:Stmt:=top 23
theorem m3:FnScope ["thing"] ["thing"] (ad dz):=⟨rfl,rfl,rfl,by decide +kernel,rfl,by decide +kernel,by decide +kernel⟩
theorem ug (T:Txt mg)(TM:Tabs w K mg aM kvs)(F:FunD K mg "is_short" dz ["thing"]):Def P w K mg base 1 "is_short" ["thing"] (fun vs H Q _=>∃x:Str,vs=[.str x]/\Q (.bl (dn kvs x).isSome) H):=by
 refine F.ok m3 (fun vs H Q E h=>by obtain⟨m,rfl,_⟩:=h;rfl) (fun f cdv A outer s H vs Q E hr h=>?_)
 obtain⟨x,rfl,q⟩:=h
 refine⟨_,(eG (iI (AZ (cG (Bg (K:=K) rfl) rfl T.n_isinstance kI (az aD (pv 0) (az aD (IE T.n_str CP) eP)) (he:=aD _ _)) (Dw (J2 (KJ TM.tab (pv 0) (ku (v:=.ref aM) rfl TM.m rfl)) (by with_unfolding_all rfl)))))),?_⟩
 (try dsimp only[ga,cM,cH,fY,cA,gj,mz,gn,bf,bE,cR,fg,aX,kW,mC,jl,rI,rU,tC,tB,cx,mw,gq,fS,cj,cv,aO,fW,gc,km,mB,cI,aF,bA,ma,fK,kJ,eL,bX,fD,eV,cc,fO,eD,iW,fF,fP,b7,gh,gm,cJ,gl,ca,cg,bm,eW,L2.aQ,List.map_cons,List.map_nil,List.length_cons,List.length_nil,List.replicate,List.cons_append,List.nil_append,List.append_nil,List.getElem?_cons_zero,List.getElem?_cons_succ,List.set_cons_zero,List.set_cons_succ,List.getElem?_nil,Option.bind_some,Option.bind_none,Option.join_some,Option.join_none,Nat.add_one_sub_one,Nat.reduceSub,Nat.reduceAdd]);simp only[ga,cM,cH,fY,cA,gj,mz,gn,bf,bE,cR,fg,aX,kW,mC,jl,rI,rU,tC,tB,cx,mw,gq,fS,cj,cv,aO,fW,gc,km,mB,cI,aF,bA,ma,fK,kJ,eL,bX,fD,eV,cc,fO,eD,iW,fF,fP,b7,gh,gm,cJ,gl,ca,cg,bm,eW,L2.aQ,List.map_cons,List.map_nil,List.length_cons,List.length_nil,List.replicate,List.cons_append,List.nil_append,List.append_nil,List.getElem?_cons_zero,List.getElem?_cons_succ,List.set_cons_zero,List.set_cons_succ,List.getElem?_nil,Option.bind_some,Option.bind_none,Option.join_some,Option.join_none,Option.some.injEq,V.int.injEq,V.bl.injEq,V.ref.injEq,List.cons.injEq,and_true,true_and,exists_eq_left,exists_eq_left',exists_eq_right,exists_and_left,Nat.add_one_sub_one,Nat.reduceSub,Nat.sub_self,Nat.reduceAdd,Nat.zero_add,Int.toNat_natCast,List.length_map,V.ty.injEq,V.str.injEq,and_assoc,gp,jg,Bool.not_true,Bool.not_false,Bool.false_eq_true,if_true,if_false]
 refine⟨_,.str x,true,rfl,?_⟩
 rw[if_pos rfl]
 exact⟨_,rfl,x,rfl,rfl,q⟩
noncomputable abbrev fA:Stmt:=top 25
theorem sc_find_in:FnScope ["ups","short","x","behind","manner","head","steps"] ["ups","short","x"] (ad fA):=⟨rfl,rfl,rfl,by decide +kernel,rfl,by decide +kernel,by decide +kernel⟩
noncomputable def yL (kvs:List (Str×Addr)):Sp:=fun vs H Q _=>∃a us y x,vs=[.ref a,.str y,nV x]/\Tr H a us/\(dn kvs y).isSome=true/\x<us.length/\∀h us' n p b H',RM y us x h us' n->Same H H'->H' p=some (.tup [nV h,.ref b,nV n])->H' b=some (.tup (us'.map nV))->Q (.ref p) H'
theorem wo (T:Txt mg)(TM:Tabs w K mg aM kvs)(F:FunD K mg "find_in" fA ["ups","short","x"])(dL:∀f sp,(∃y,dn kvs y=some f/\sp=ez (RM y))->DefA P w K mg base 2 f ["ups","x"] sp):Def P w K mg base 3 "find_in" ["ups","short","x"] (yL kvs):=by
 refine F.ok sc_find_in (fun vs H Q E h=>by obtain⟨m,v,x,y,rfl,_⟩:=h;rfl) (fun f cdv A outer s H vs Q E hr h=>?_)
 obtain⟨a,us,y,x,rfl,t,hy,hx,q⟩:=h
 refine⟨_,(aA (dm (i:=3) sc_find_in.nd rfl (by first|exact Or.inl rfl|exact Or.inr rfl) (fq (zr (K:=K) rfl) rfl T.n_list nS (az aD (pv 0) eP) (he:=aD _ _)))
  (aA (dm (i:=4) sc_find_in.nd rfl (by first|exact Or.inl rfl|exact Or.inr rfl) (KW TM.tab (ku (v:=.ref aM) rfl TM.m rfl) (pv 1) (fun _ _=>rfl)))
  (aA (ju (ub dL hr (i:=4) rfl (by first|exact Or.inl rfl|exact Or.inr (Or.inl rfl)) (az aD (pv 3) (az aD (pv 2) eP)) (he:=aD _ _)) (wV (K:=K) (n:=2) rfl rfl (ig (jx (i:=5) sc_find_in.nd rfl (by first|exact Or.inl rfl|exact Or.inr rfl)) (ig (jx (i:=6) sc_find_in.nd rfl (by first|exact Or.inl rfl|exact Or.inr rfl)) nR))))
  (eG (iI (ld (az aD (pv 5) (az He (fq (wj (K:=K) rfl) rfl T.n_tuple lD (az aD (pv 3) eP) (he:=aD _ _)) (az aD (pv 6) eP))))))))),?_⟩
 (try dsimp only[ga,cM,cH,fY,cA,gj,mz,gn,bf,bE,cR,fg,aX,kW,mC,jl,rI,rU,tC,tB,cx,mw,gq,fS,cj,cv,aO,fW,gc,km,mB,cI,aF,bA,ma,fK,kJ,eL,bX,fD,eV,cc,fO,eD,iW,fF,fP,b7,gh,gm,cJ,gl,ca,cg,bm,eW,L2.aQ,List.map_cons,List.map_nil,List.length_cons,List.length_nil,List.replicate,List.cons_append,List.nil_append,List.append_nil,List.getElem?_cons_zero,List.getElem?_cons_succ,List.set_cons_zero,List.set_cons_succ,List.getElem?_nil,Option.bind_some,Option.bind_none,Option.join_some,Option.join_none,Nat.add_one_sub_one,Nat.reduceSub,Nat.reduceAdd]);simp only[ga,cM,cH,fY,cA,gj,mz,gn,bf,bE,cR,fg,aX,kW,mC,jl,rI,rU,tC,tB,cx,mw,gq,fS,cj,cv,aO,fW,gc,km,mB,cI,aF,bA,ma,fK,kJ,eL,bX,fD,eV,cc,fO,eD,iW,fF,fP,b7,gh,gm,cJ,gl,ca,cg,bm,eW,L2.aQ,List.map_cons,List.map_nil,List.length_cons,List.length_nil,List.replicate,List.cons_append,List.nil_append,List.append_nil,List.getElem?_cons_zero,List.getElem?_cons_succ,List.set_cons_zero,List.set_cons_succ,List.getElem?_nil,Option.bind_some,Option.bind_none,Option.join_some,Option.join_none,Option.some.injEq,V.int.injEq,V.bl.injEq,V.ref.injEq,List.cons.injEq,and_true,true_and,exists_eq_left,exists_eq_left',exists_eq_right,exists_and_left,Nat.add_one_sub_one,Nat.reduceSub,Nat.sub_self,Nat.reduceAdd,Nat.zero_add,Int.toNat_natCast,List.length_map,V.ty.injEq,V.str.injEq,and_assoc,gp,jg,Bool.not_true,Bool.not_false,Bool.false_eq_true,if_true,if_false]
 refine⟨us.map nV,.inr (SqT.of t.it),fun l hl=>?_⟩
 obtain⟨f0,hf0⟩:=Option.isSome_iff_exists.mp hy
 refine⟨_,rfl,y,f0,rfl,rfl,hf0,?_⟩
 refine⟨f0,_,rfl,⟨y,hf0,rfl⟩,_,rfl,_,rfl,?_⟩
 refine⟨l,us,x,rfl,af,t.most,t.fst,hx,fun h us' n p H1 r sb h1 h2=>?_⟩
 refine⟨p,rfl,[nV h,nV n],SqT.of h2,rfl,_,_,rfl,_,_,rfl,rfl,us'.map nV,.inl ⟨SqL.of h1,fun b hb=>⟨by decide,fun p2 hp2=>?_⟩⟩⟩
 have s1:Same H H1:=fun c o hc=>sb c o (aS hc hl) (by rw[au (aS hc hl)];exact hc)
 exact q h us' n p2 b _ r ((s1.upd hb _).upd hp2 _) af (by rw[au (aS af hp2)];exact af)
end
end O25
end
section
namespace O25
open PySem L2 Fo Pu
section
variable {P:Program}{w:World}{K:PySem.W.Frag}{mg:Str->Option Value}{base:Heap}
theorem FnOk.up {CX:y7}{j k:Nat}{f:Addr}{fd:FuncData}{ps:List Str}{sp:Sp}(F:FnOk P w K mg base CX j f fd ps sp)(h:j≤k):FnOk P w K mg base CX k f fd ps sp:=
 ⟨F.len,fun A outer s H args us vs Q E hr=>F.run A outer s H args us vs Q E (hr.mono h)⟩
theorem DefA.up {j k:Nat}{f:Addr}{ps:List Str}{sp:Sp}(d:DefA P w K mg base j f ps sp)(h:j≤k):DefA P w K mg base k f ps sp:=by
 obtain⟨fd,F,r⟩:=d
 exact⟨fd,FnOk.up F h,r⟩
theorem jM {R R':List Nat->Nat->Nat->List Nat->Nat->Prop}(i:∀us x h us' n,R us x h us' n->R' us x h us' n)(vs:List V)(H:Hp)(Q:VK)(E:XK)(h:ez R' vs H Q E):ez R vs H Q E:=by
 obtain⟨a,us,x,rfl,h1,h2,h3,h4,q⟩:=h
 exact⟨a,us,x,rfl,h1,h2,h3,h4,fun h us' n p H' r=>q h us' n p H' (i _ _ _ _ _ r)⟩
theorem uV (k:Str)(v:Addr)(t:List (Str×Addr))(y:Str):dn ((k,v)::t) y=if k=y then some v else dn t y:=by
 by_cases h:k=y
 ·simp[dn,h]
 ·simp only[dn,List.find?_cons,decide_eq_false h,if_neg h]
theorem vM {f0 f1 f2 f3 f4:Addr}(d0:DefA P w K mg base 1 f0 ["ups","x"] (ez vy))(d1:DefA P w K mg base 2 f1 ["ups","x"] (ez vZ))(d2:DefA P w K mg base 1 f2 ["ups","x"] (ez sg))(d3:DefA P w K mg base 1 f3 ["ups","x"] (ez sq))(d4:DefA P w K mg base 2 f4 ["ups","x"] (ez KY)) :
  ∀f sp,(∃y,dn [("none",f0),("whole",f1),("halves",f2),("splits",f3),("one",f4)] y=some f/\sp=ez (RM y))->DefA P w K mg base 2 f ["ups","x"] sp:=by
 rintro f sp ⟨y,hy,rfl⟩
 simp only[uV] at hy
 split at hy
 ·rename_i e;subst e;cases hy;exact DefA.up (d0.imp (jM fun _ _ _ _ _=>RM.none)) (by decide)
 split at hy
 ·rename_i e;subst e;cases hy;exact d1.imp (jM fun _ _ _ _ _=>RM.whole)
 split at hy
 ·rename_i e;subst e;cases hy;exact DefA.up (d2.imp (jM fun _ _ _ _ _=>RM.halves)) (by decide)
 split at hy
 ·rename_i e;subst e;cases hy;exact DefA.up (d3.imp (jM fun _ _ _ _ _=>RM.splits)) (by decide)
 split at hy
 ·rename_i e;subst e;cases hy;exact d4.imp (jM fun _ _ _ _ _=>RM.one)
 ·cases hy
end
theorem ni (f0 f1 f2 f3 f4:Addr)(y:Str):(dn [("none",f0),("whole",f1),("halves",f2),("splits",f3),("one",f4)] y).isSome=decide (y∈manners):=by
 rw[Bool.eq_iff_iff,decide_eq_true_iff]
 unfold dn manners
 rw[Option.isSome_map,List.find?_isSome]
 simp[eq_comm]
theorem vb {P:Program}{w:World}{K:PySem.W.Frag}{mg:Str->Option Value}{base:Heap}{kvs:List (Str×Addr)}(hk:∀y,(dn kvs y).isSome=decide (y∈manners))(d:Def P w K mg base 1 "is_short" ["thing"] (fun vs H Q _=>∃x:Str,vs=[.str x]/\Q (.bl (dn kvs x).isSome) H)):Def P w K mg base 1 "is_short" ["thing"] (aP K oX):=Pu.Def.imp d fun vs H Q E ⟨F,ps,Qp,sF,rs,hW,k⟩=>by
 obtain⟨y,rfl,hq⟩:=hW
 obtain⟨v1,t1,rfl,r1,e⟩:=rs
 cases (show t1=[] from e)
 cases (show v1=.str y from r1)
 exact⟨y,rfl,by rw[hk];exact k (.v (.bl _)) _ F H hq (.refl sF) rfl⟩
theorem wJ {P:Program}{w:World}{K:PySem.W.Frag}{mg:Str->Option Value}{base:Heap}{kvs:List (Str×Addr)}(hk:∀y,(dn kvs y).isSome=decide (y∈manners))(d:Def P w K mg base 3 "find_in" ["ups","short","x"] (yL kvs)):Def P w K mg base 3 "find_in" ["ups","short","x"] (aP K rH):=Pu.Def.imp d fun vs H Q E ⟨F,ps,Qp,sF,rs,hW,k⟩=>by
 obtain⟨us,y,x,rfl,f,hy,hx,hq⟩:=hW
 obtain⟨v1,t1,rfl,r1,v2,t2,e2,r2,v3,t3,e3,r3,e4⟩:=rs
 subst e2
 subst e3
 cases (show t3=[] from e4)
 obtain⟨a,ws,rfl,hF,rw1⟩:=r1
 cases (show v2=.str y from r2)
 cases (show v3=.int x from r3)
 have ew:=lP rw1
 subst ew
 refine⟨a,us,y,x,rfl,⟨sF _ _ hF,f.one,f.most,f.fst⟩,by rw[hk];exact decide_eq_true hy,hx,fun h us' n p b H' r s hp hb=>?_⟩
 have g0:Grow F H F H':=⟨s,Same.refl _,sF.trans s,fun _ _ e=>.inl e⟩
 obtain⟨g1,s1⟩:=g0.tup hb
 obtain⟨g2,s2⟩:=g1.tup hp
 exact k (.v (.tup [nI h,.tup (nums us'),nI n])) (.ref p) _ H' (hq h us' n r) g2 ⟨p,_,rfl,af,_,_,rfl,rfl,_,_,rfl,⟨b,_,rfl,s2 _ _ af,rR us'⟩,_,_,rfl,rfl,rfl⟩
end O25
end
end
section
namespace K25
open PySem L2 Fo Pu Dp
open O25 (Txt top Tabs)
structure Kon (w:World)(K:PySem.W.Frag)(mg:Str->Option Value):Prop where
 k_JOINS:∃a,mg "JOINS" = some (.ref a)/\KTup K a [.str "size",.str "rank",.str "told",.str "names"]
 k_LENGTHS:∃a,mg "LENGTHS" = some (.ref a)/\NumTab w K a [("find",2),("join",3)]
noncomputable abbrev cK:Stmt:=top 17
theorem sc_find_none:FnScope ["ups","x","at","steps"] ["ups","x"] (ad cK):=⟨rfl,rfl,rfl,by decide +kernel,rfl,by decide +kernel,by decide +kernel⟩
noncomputable abbrev cf:Stmt:=top 18
theorem sc_find_whole:FnScope ["ups","x","head","steps","at","above"] ["ups","x"] (ad cf):=⟨rfl,rfl,rfl,by decide +kernel,rfl,by decide +kernel,by decide +kernel⟩
noncomputable abbrev bJ:Stmt:=top 19
theorem sc_find_halves:FnScope ["ups","x","at","steps"] ["ups","x"] (ad bJ):=⟨rfl,rfl,rfl,by decide +kernel,rfl,by decide +kernel,by decide +kernel⟩
noncomputable abbrev bK:Stmt:=top 20
theorem sc_find_splits:FnScope ["ups","x","at","steps","above"] ["ups","x"] (ad bK):=⟨rfl,rfl,rfl,by decide +kernel,rfl,by decide +kernel,by decide +kernel⟩
noncomputable abbrev d5:Stmt:=top 21
theorem sc_find_one:FnScope ["ups","x","head","steps"] ["ups","x"] (ad d5):=⟨rfl,rfl,rfl,by decide +kernel,rfl,by decide +kernel,by decide +kernel⟩
noncomputable abbrev bQ:Stmt:=top 50
theorem nH:FnScope ["_law_cell_here","_law_many_here","_law_some","_law_state","_law_digits","_law_k"] ["_law_cell_here","_law_many_here"] (ad bQ):=⟨rfl,rfl,rfl,by decide +kernel,rfl,by decide +kernel,by decide +kernel⟩
noncomputable abbrev dY:Stmt:=top 51
theorem sM:FnScope ["_law_x"] ["_law_x"] (ad dY):=⟨rfl,rfl,rfl,by decide +kernel,rfl,by decide +kernel,by decide +kernel⟩
noncomputable abbrev dO:Stmt:=top 49
theorem td:FnScope ["_law_script","_law_k","_law_state","_law_cell_here"] ["_law_script","_law_k"] (ad dO):=⟨rfl,rfl,rfl,by decide +kernel,rfl,by decide +kernel,by decide +kernel⟩
noncomputable abbrev bS:Stmt:=top 61
theorem nA:FnScope ["_law_script","_law_at","_law_xs","_law_many_here","_law_join","_law_short"] ["_law_script","_law_at"] (ad bS):=⟨rfl,rfl,rfl,by decide +kernel,rfl,by decide +kernel,by decide +kernel⟩
noncomputable abbrev eS:Stmt:=top 9
theorem uz:FnScope ["thing"] ["thing"] (ad eS):=⟨rfl,rfl,rfl,by decide +kernel,rfl,by decide +kernel,by decide +kernel⟩
noncomputable abbrev fU:Stmt:=top 10
theorem wF:FnScope ["thing"] ["thing"] (ad fU):=⟨rfl,rfl,rfl,by decide +kernel,rfl,by decide +kernel,by decide +kernel⟩
noncomputable abbrev cV:Stmt:=top 12
theorem qG:FnScope ["many"] ["many"] (ad cV):=⟨rfl,rfl,rfl,by decide +kernel,rfl,by decide +kernel,by decide +kernel⟩
noncomputable abbrev aJ:Stmt:=top 39
theorem j7:FnScope ["thing"] ["thing"] (ad aJ):=⟨rfl,rfl,rfl,by decide +kernel,rfl,by decide +kernel,by decide +kernel⟩
noncomputable abbrev cX:Stmt:=top 40
theorem qC:FnScope ["join"] ["join"] (ad cX):=⟨rfl,rfl,rfl,by decide +kernel,rfl,by decide +kernel,by decide +kernel⟩
noncomputable abbrev dz:Stmt:=top 23
theorem m3:FnScope ["thing"] ["thing"] (ad dz):=⟨rfl,rfl,rfl,by decide +kernel,rfl,by decide +kernel,by decide +kernel⟩
noncomputable abbrev cs:Stmt:=top 24
theorem ph:FnScope ["short"] ["short"] (ad cs):=⟨rfl,rfl,rfl,by decide +kernel,rfl,by decide +kernel,by decide +kernel⟩
noncomputable abbrev dB:Stmt:=top 41
theorem su:FnScope ["many","join","short","mark"] ["many","join","short"] (ad dB):=⟨rfl,rfl,rfl,by decide +kernel,rfl,by decide +kernel,by decide +kernel⟩
noncomputable abbrev da:Stmt:=top 52
theorem ql:FnScope ["_law_script","_law_at","_law_many_here","_law_most_here","_law_head_here","_law_row","_law_k","_law_xs","_law_x","_law_y"] ["_law_script","_law_at","_law_many_here","_law_most_here"] (ad da):=⟨rfl,rfl,rfl,by decide +kernel,rfl,by decide +kernel,by decide +kernel⟩
noncomputable abbrev cY:Stmt:=top 53
theorem qF:FnScope ["_law_script","_law_at","_law_many_here","_law_most_here","_law_row","_law_k","_law_x","_law_y","_law_xs"] ["_law_script","_law_at","_law_many_here","_law_most_here"] (ad cY):=⟨rfl,rfl,rfl,by decide +kernel,rfl,by decide +kernel,by decide +kernel⟩
noncomputable abbrev eO:Stmt:=top 54
theorem ut:FnScope ["_law_ups","_law_x","_law_way_here"] ["_law_ups","_law_x"] (ad eO):=⟨rfl,rfl,rfl,by decide +kernel,rfl,by decide +kernel,by decide +kernel⟩
noncomputable abbrev dC:Stmt:=top 58
theorem r9:FnScope ["_law_ups","_law_short","_law_x","_law_way_here","_law_head_here","_law_thing","_law_steps","_law_here","_law_up"] ["_law_ups","_law_short","_law_x"] (ad dC):=⟨rfl,rfl,rfl,by decide +kernel,rfl,by decide +kernel,by decide +kernel⟩
noncomputable abbrev cr:Stmt:=top 59
theorem oF:FnScope ["_law_join","_law_ups","_law_marks","_law_one","_law_other","_law_stays","_law_goes"] ["_law_join","_law_ups","_law_marks","_law_one","_law_other"] (ad cr):=⟨rfl,rfl,rfl,by decide +kernel,rfl,by decide +kernel,by decide +kernel⟩
noncomputable abbrev dZ:Stmt:=top 60
theorem sK:FnScope ["_law_store","_law_deed_here","_law_join","_law_short","_law_ups","_law_marks","_law_one","_law_steps","_law_other","_law_more"] ["_law_store","_law_deed_here"] (ad dZ):=⟨rfl,rfl,rfl,by decide +kernel,rfl,by decide +kernel,by decide +kernel⟩
noncomputable abbrev dG:Stmt:=top 55
theorem sI:FnScope ["_law_ups","_law_x"] ["_law_ups","_law_x"] (ad dG):=⟨rfl,rfl,rfl,by decide +kernel,rfl,by decide +kernel,by decide +kernel⟩
noncomputable abbrev bv:Stmt:=top 63
theorem mH:FnScope ["_law_ups","_law_x"] ["_law_ups","_law_x"] (ad bv):=⟨rfl,rfl,rfl,by decide +kernel,rfl,by decide +kernel,by decide +kernel⟩
noncomputable abbrev bo:Stmt:=top 57
theorem lU:FnScope ["_law_number","_law_times"] ["_law_number"] (ad bo):=⟨rfl,rfl,rfl,by decide +kernel,rfl,by decide +kernel,by decide +kernel⟩
noncomputable abbrev d9:Stmt:=top 64
theorem rZ:FnScope ["_law_store","_law_deed_here","_law_answer","_law_sizes_here","_law_most_here"] ["_law_store","_law_deed_here","_law_answer"] (ad d9):=⟨rfl,rfl,rfl,by decide +kernel,rfl,by decide +kernel,by decide +kernel⟩
noncomputable abbrev cZ:Stmt:=top 56
theorem qH:FnScope ["_law_ups","_law_sizes_here","_law_x","_law_thing"] ["_law_ups"] (ad cZ):=⟨rfl,rfl,rfl,by decide +kernel,rfl,by decide +kernel,by decide +kernel⟩
noncomputable abbrev cU:Stmt:=top 62
theorem qx:FnScope ["_law_ups"] ["_law_ups"] (ad cU):=⟨rfl,rfl,rfl,by decide +kernel,rfl,by decide +kernel,by decide +kernel⟩
noncomputable abbrev fA:Stmt:=top 25
theorem sc_find_in:FnScope ["ups","short","x","behind","manner","head","steps"] ["ups","short","x"] (ad fA):=⟨rfl,rfl,rfl,by decide +kernel,rfl,by decide +kernel,by decide +kernel⟩
noncomputable abbrev ia:Stmt:=top 32
theorem Aq:FnScope ["numbers"] ["numbers"] (ad ia):=⟨rfl,rfl,rfl,by decide +kernel,rfl,by decide +kernel,by decide +kernel⟩
noncomputable abbrev d6:Stmt:=top 33
theorem sA:FnScope ["store","x","join","short","ups","marks","head","behind","steps"] ["store","x"] (ad d6):=⟨rfl,rfl,rfl,by decide +kernel,rfl,by decide +kernel,by decide +kernel⟩
noncomputable abbrev cu:Stmt:=top 29
theorem oT:FnScope ["join","marks","first","second"] ["join","marks","first","second"] (ad cu):=⟨rfl,rfl,rfl,by decide +kernel,rfl,by decide +kernel,by decide +kernel⟩
noncomputable abbrev cq:Stmt:=top 30
theorem pM:FnScope ["join","top","under"] ["join","top","under"] (ad cq):=⟨rfl,rfl,rfl,by decide +kernel,rfl,by decide +kernel,by decide +kernel⟩
noncomputable abbrev aH:Stmt:=top 31
theorem jO:FnScope ["store","first","second","join","short","ups","marks","stays","top","under","new_ups","new_marks"] ["store","first","second"] (ad aH):=⟨rfl,rfl,rfl,by decide +kernel,rfl,by decide +kernel,by decide +kernel⟩
noncomputable abbrev dD:Stmt:=top 34
theorem sE:FnScope ["store","x","y","after_x","first","steps_x","after_y","second","steps_y","steps"] ["store","x","y"] (ad dD):=⟨rfl,rfl,rfl,by decide +kernel,rfl,by decide +kernel,by decide +kernel⟩
noncomputable abbrev dW:Stmt:=top 35
theorem tV:FnScope ["store","deed"] ["store","deed"] (ad dW):=⟨rfl,rfl,rfl,by decide +kernel,rfl,by decide +kernel,by decide +kernel⟩
noncomputable abbrev eK:Stmt:=top 11
theorem vq:FnScope ["many","thing"] ["many","thing"] (ad eK):=⟨rfl,rfl,rfl,by decide +kernel,rfl,by decide +kernel,by decide +kernel⟩
noncomputable abbrev ge:Stmt:=top 28
theorem xb:FnScope ["many","thing","word"] ["many","thing"] (ad ge):=⟨rfl,rfl,rfl,by decide +kernel,rfl,by decide +kernel,by decide +kernel⟩
noncomputable abbrev kY:Stmt:=top 36
theorem Fp:FnScope ["store","deed"] ["store","deed"] (ad kY):=⟨rfl,rfl,rfl,by decide +kernel,rfl,by decide +kernel,by decide +kernel⟩
noncomputable abbrev iq:Stmt:=top 13
theorem zU:FnScope ["ups","x","way"] ["ups","x"] (ad iq):=⟨rfl,rfl,rfl,by decide +kernel,rfl,by decide +kernel,by decide +kernel⟩
noncomputable abbrev eX:Stmt:=top 15
theorem va:FnScope ["ups","x","head"] ["ups","x"] (ad eX):=⟨rfl,rfl,rfl,by decide +kernel,rfl,by decide +kernel,by decide +kernel⟩
noncomputable abbrev dR:Stmt:=top 42
theorem tu:FnScope ["number"] ["number"] (ad dR):=⟨rfl,rfl,rfl,by decide +kernel,rfl,by decide +kernel,by decide +kernel⟩
noncomputable abbrev bT:Stmt:=top 45
theorem nG:FnScope ["ups","x"] ["ups","x"] (ad bT):=⟨rfl,rfl,rfl,by decide +kernel,rfl,by decide +kernel,by decide +kernel⟩
noncomputable abbrev bM:Stmt:=top 46
theorem nC:FnScope ["ups","deed","one","other","most"] ["ups","deed"] (ad bM):=⟨rfl,rfl,rfl,by decide +kernel,rfl,by decide +kernel,by decide +kernel⟩
noncomputable abbrev eR:Stmt:=top 14
theorem vC:FnScope ["ups","sizes","x","above"] ["ups"] (ad eR):=⟨rfl,rfl,rfl,by decide +kernel,rfl,by decide +kernel,by decide +kernel⟩
noncomputable abbrev eZ:Stmt:=top 44
theorem vn:FnScope ["ups"] ["ups"] (ad eZ):=⟨rfl,rfl,rfl,by decide +kernel,rfl,by decide +kernel,by decide +kernel⟩
noncomputable abbrev kU:Stmt:=top 47
theorem EO:FnScope ["store","deed","behind","answer","steps"] ["store","deed"] (ad kU):=⟨rfl,rfl,rfl,by decide +kernel,rfl,by decide +kernel,by decide +kernel⟩
noncomputable abbrev kN:Stmt:=top 65
theorem DM:FnScope ["_law_script","_law_at","_law_many_here","_law_join","_law_short","_law_store","_law_deed_here","_law_behind","_law_answer","_law_steps","_law_due","_law_turn","_law_told"] ["_law_script"] (ad kN):=⟨rfl,rfl,rfl,by decide +kernel,rfl,by decide +kernel,by decide +kernel⟩
end K25
end
section
namespace K25
open PySem L2 Fo Pu Dp
open O25 (Txt top Tabs)
section
variable {P:Program}{w:World}{K:PySem.W.Frag}{mg:Str->Option Value}{base:Heap}
noncomputable def G0:Gc:={ bi:=["abs","all","any","bool","enumerate","int","isinstance","len","list","min","range","str","sum","tuple"],nis:=[("MOST_THINGS",40)],tups:=[("JOINS",[.str "size",.str "rank",.str "told",.str "names"])],nums:=[("LENGTHS",[("find",2),("join",3)])] }
theorem gb (T:Txt mg)(TK:Kon w K mg):GB w K mg G0.bi G0.nis G0.tups G0.nums:=⟨⟨T.n_abs,⟨T.n_all,⟨T.n_any,⟨T.n_bool,⟨T.n_enumerate,⟨T.n_int,⟨T.n_isinstance,⟨T.n_len,⟨T.n_list,⟨T.n_min,⟨T.n_range,⟨T.n_str,⟨T.n_sum,⟨T.n_tuple,trivial⟩⟩⟩⟩⟩⟩⟩⟩⟩⟩⟩⟩⟩⟩,⟨T.c_MOST_THINGS,trivial⟩,⟨TK.k_JOINS,trivial⟩,⟨TK.k_LENGTHS,trivial⟩⟩
theorem nL (T:Txt mg)(TK:Kon w K mg)(F:FunD K mg "_law_numbers" bQ ["_law_cell_here","_law_many_here"]):Def P w K mg base 1 "_law_numbers" ["_law_cell_here","_law_many_here"] (aP K (be al)):=
 aU (G:={ G0 with fns:=[] }) { sc:=ad bQ,N:=["_law_cell_here","_law_many_here","_law_some","_law_state","_law_digits","_law_k"],own:=["_law_some"] } F nH (iZ (gb T TK) trivial trivial aR) (by kernel_rfl)
theorem sL (T:Txt mg)(TK:Kon w K mg)(F:FunD K mg "_law_many" dY ["_law_x"]):Def P w K mg base 1 "_law_many" ["_law_x"] (aP K (be cN)):=
 aU (G:={ G0 with fns:=[] }) { sc:=ad dY,N:=["_law_x"] } F sM (iZ (gb T TK) trivial trivial aR) (by kernel_rfl)
theorem tj (T:Txt mg)(TK:Kon w K mg)(F:FunD K mg "_law_cell" dO ["_law_script","_law_k"]):Def P w K mg base 1 "_law_cell" ["_law_script","_law_k"] (aP K (be av)):=
 aU (G:={ G0 with fns:=[] }) { sc:=ad dO,N:=["_law_script","_law_k","_law_state","_law_cell_here"] } F td (iZ (gb T TK) trivial trivial aR) (by kernel_rfl)
theorem nM (T:Txt mg)(TK:Kon w K mg)(F:FunD K mg "_law_started" bS ["_law_script","_law_at"])(d__law_numbers:Def P w K mg base 1 "_law_numbers" ["_law_cell_here","_law_many_here"] (aP K (be al)))(d__law_many:Def P w K mg base 1 "_law_many" ["_law_x"] (aP K (be cN)))(d__law_cell:Def P w K mg base 1 "_law_cell" ["_law_script","_law_k"] (aP K (be av))):Def P w K mg base 2 "_law_started" ["_law_script","_law_at"] (aP K (be bq)):=
 aU (G:={ G0 with fns:=[("_law_numbers",al),("_law_many",cN),("_law_cell",av)] }) { sc:=ad bS,N:=["_law_script","_law_at","_law_xs","_law_many_here","_law_join","_law_short"] } F nA (iZ (gb T TK) ⟨⟨_,_,by decide,d__law_numbers⟩,⟨⟨_,_,by decide,d__law_many⟩,⟨⟨_,_,by decide,d__law_cell⟩,trivial⟩⟩⟩ trivial aR) (by kernel_rfl)
theorem vN (T:Txt mg)(TK:Kon w K mg)(F:FunD K mg "is_whole" eS ["thing"]):Def P w K mg base 1 "is_whole" ["thing"] (aP K (be bN)):=
 aU (G:={ G0 with fns:=[] }) { sc:=ad eS,N:=["thing"] } F uz (iZ (gb T TK) trivial trivial aR) (by kernel_rfl)
theorem wW (T:Txt mg)(TK:Kon w K mg)(F:FunD K mg "is_many" fU ["thing"])(d_is_whole:Def P w K mg base 1 "is_whole" ["thing"] (aP K (be bN))):Def P w K mg base 2 "is_many" ["thing"] (aP K (be eg)):=
 aU (G:={ G0 with fns:=[("is_whole",bN)] }) { sc:=ad fU,N:=["thing"] } F wF (iZ (gb T TK) ⟨⟨_,_,by decide,d_is_whole⟩,trivial⟩ trivial aR) (by kernel_rfl)
theorem qi (T:Txt mg)(TK:Kon w K mg)(F:FunD K mg "check_many" cV ["many"])(d_is_many:Def P w K mg base 2 "is_many" ["thing"] (aP K (be eg))):Def P w K mg base 3 "check_many" ["many"] (aP K (be cW)):=
 aU (G:={ G0 with fns:=[("is_many",eg)] }) { sc:=ad cV,N:=["many"] } F qG (iZ (gb T TK) ⟨⟨_,_,by decide,d_is_many⟩,trivial⟩ trivial aR) (by kernel_rfl)
theorem ka (T:Txt mg)(TK:Kon w K mg)(F:FunD K mg "is_way_of_joining" aJ ["thing"]):Def P w K mg base 1 "is_way_of_joining" ["thing"] (aP K (be aC)):=
 aU (G:={ G0 with fns:=[] }) { sc:=ad aJ,N:=["thing"] } F j7 (iZ (gb T TK) trivial trivial aR) (by kernel_rfl)
theorem qd (T:Txt mg)(TK:Kon w K mg)(F:FunD K mg "check_join" cX ["join"])(d_is_way_of_joining:Def P w K mg base 1 "is_way_of_joining" ["thing"] (aP K (be aC))):Def P w K mg base 2 "check_join" ["join"] (aP K (be db)):=
 aU (G:={ G0 with fns:=[("is_way_of_joining",aC)] }) { sc:=ad cX,N:=["join"] } F qC (iZ (gb T TK) ⟨⟨_,_,by decide,d_is_way_of_joining⟩,trivial⟩ trivial aR) (by kernel_rfl)
theorem pL (T:Txt mg)(TK:Kon w K mg)(F:FunD K mg "check_short" cs ["short"])(d_is_short:Def P w K mg base 1 "is_short" ["thing"] (aP K (be dI))):Def P w K mg base 2 "check_short" ["short"] (aP K (be bI)):=
 aU (G:={ G0 with fns:=[("is_short",dI)] }) { sc:=ad cs,N:=["short"] } F ph (iZ (gb T TK) ⟨⟨_,_,by decide,d_is_short⟩,trivial⟩ trivial aR) (by kernel_rfl)
theorem se (T:Txt mg)(TK:Kon w K mg)(F:FunD K mg "new_store" dB ["many","join","short"])(d_check_many:Def P w K mg base 3 "check_many" ["many"] (aP K (be cW)))(d_check_join:Def P w K mg base 2 "check_join" ["join"] (aP K (be db)))(d_check_short:Def P w K mg base 2 "check_short" ["short"] (aP K (be bI))):Def P w K mg base 4 "new_store" ["many","join","short"] (aP K (be cQ)):=
 aU (G:={ G0 with fns:=[("check_many",cW),("check_join",db),("check_short",bI)] }) { sc:=ad dB,N:=["many","join","short","mark"],alt:=[(153,25)] } F su (iZ (gb T TK) ⟨⟨_,_,by decide,d_check_many⟩,⟨⟨_,_,by decide,d_check_join⟩,⟨⟨_,_,by decide,d_check_short⟩,trivial⟩⟩⟩ trivial aR) (by kernel_rfl)
theorem qu (T:Txt mg)(TK:Kon w K mg)(F:FunD K mg "_law_joins" da ["_law_script","_law_at","_law_many_here","_law_most_here"])(d__law_numbers:Def P w K mg base 1 "_law_numbers" ["_law_cell_here","_law_many_here"] (aP K (be al)))(d__law_cell:Def P w K mg base 1 "_law_cell" ["_law_script","_law_k"] (aP K (be av))):Def P w K mg base 2 "_law_joins" ["_law_script","_law_at","_law_many_here","_law_most_here"] (aP K (be b9)):=
 aU (G:={ G0 with fns:=[("_law_numbers",al),("_law_cell",av)] }) { sc:=ad da,N:=["_law_script","_law_at","_law_many_here","_law_most_here","_law_head_here","_law_row","_law_k","_law_xs","_law_x","_law_y"],own:=["_law_row"] } F ql (iZ (gb T TK) ⟨⟨_,_,by decide,d__law_numbers⟩,⟨⟨_,_,by decide,d__law_cell⟩,trivial⟩⟩ trivial aR) (by kernel_rfl)
theorem qq (T:Txt mg)(TK:Kon w K mg)(F:FunD K mg "_law_deeds" cY ["_law_script","_law_at","_law_many_here","_law_most_here"])(d__law_joins:Def P w K mg base 2 "_law_joins" ["_law_script","_law_at","_law_many_here","_law_most_here"] (aP K (be b9)))(d__law_numbers:Def P w K mg base 1 "_law_numbers" ["_law_cell_here","_law_many_here"] (aP K (be al)))(d__law_cell:Def P w K mg base 1 "_law_cell" ["_law_script","_law_k"] (aP K (be av))):Def P w K mg base 3 "_law_deeds" ["_law_script","_law_at","_law_many_here","_law_most_here"] (aP K (be bD)):=
 aU (G:={ G0 with fns:=[("_law_joins",b9),("_law_numbers",al),("_law_cell",av)] }) { sc:=ad cY,N:=["_law_script","_law_at","_law_many_here","_law_most_here","_law_row","_law_k","_law_x","_law_y","_law_xs"],own:=["_law_row"],alt:=[(213,36)] } F qF (iZ (gb T TK) ⟨⟨_,_,by decide,d__law_joins⟩,⟨⟨_,_,by decide,d__law_numbers⟩,⟨⟨_,_,by decide,d__law_cell⟩,trivial⟩⟩⟩ trivial aR) (by kernel_rfl)
theorem uY (T:Txt mg)(TK:Kon w K mg)(F:FunD K mg "_law_way" eO ["_law_ups","_law_x"]):Def P w K mg base 1 "_law_way" ["_law_ups","_law_x"] (aP K (be aW)):=
 aU (G:={ G0 with fns:=[] }) { sc:=ad eO,N:=["_law_ups","_law_x","_law_way_here"],own:=["_law_way_here"] } F ut (iZ (gb T TK) trivial trivial aR) (by kernel_rfl)
theorem tD (T:Txt mg)(TK:Kon w K mg)(F:FunD K mg "_law_find" dC ["_law_ups","_law_short","_law_x"])(d__law_way:Def P w K mg base 1 "_law_way" ["_law_ups","_law_x"] (aP K (be aW))):Def P w K mg base 2 "_law_find" ["_law_ups","_law_short","_law_x"] (aP K (be b8)):=
 aU (G:={ G0 with fns:=[("_law_way",aW)] }) { sc:=ad dC,N:=["_law_ups","_law_short","_law_x","_law_way_here","_law_head_here","_law_thing","_law_steps","_law_here","_law_up"],own:=["_law_ups"] } F r9 (iZ (gb T TK) ⟨⟨_,_,by decide,d__law_way⟩,trivial⟩ trivial aR) (by kernel_rfl)
theorem pV (T:Txt mg)(TK:Kon w K mg)(F:FunD K mg "_law_linked" cr ["_law_join","_law_ups","_law_marks","_law_one","_law_other"]):Def P w K mg base 1 "_law_linked" ["_law_join","_law_ups","_law_marks","_law_one","_law_other"] (aP K (be bH)):=
 aU (G:={ G0 with fns:=[] }) { sc:=ad cr,N:=["_law_join","_law_ups","_law_marks","_law_one","_law_other","_law_stays","_law_goes"],own:=["_law_marks","_law_ups"] } F oF (iZ (gb T TK) trivial trivial aR) (by kernel_rfl)
theorem tE (T:Txt mg)(TK:Kon w K mg)(F:FunD K mg "_law_deed" dZ ["_law_store","_law_deed_here"])(d__law_find:Def P w K mg base 2 "_law_find" ["_law_ups","_law_short","_law_x"] (aP K (be b8)))(d__law_linked:Def P w K mg base 1 "_law_linked" ["_law_join","_law_ups","_law_marks","_law_one","_law_other"] (aP K (be bH))):Def P w K mg base 3 "_law_deed" ["_law_store","_law_deed_here"] (aP K (be cb)):=
 aU (G:={ G0 with fns:=[("_law_find",b8),("_law_linked",bH)] }) { sc:=ad dZ,N:=["_law_store","_law_deed_here","_law_join","_law_short","_law_ups","_law_marks","_law_one","_law_steps","_law_other","_law_more"] } F sK (iZ (gb T TK) ⟨⟨_,_,by decide,d__law_find⟩,⟨⟨_,_,by decide,d__law_linked⟩,trivial⟩⟩ trivial aR) (by kernel_rfl)
theorem tS (T:Txt mg)(TK:Kon w K mg)(F:FunD K mg "_law_head" dG ["_law_ups","_law_x"])(d__law_way:Def P w K mg base 1 "_law_way" ["_law_ups","_law_x"] (aP K (be aW))):Def P w K mg base 2 "_law_head" ["_law_ups","_law_x"] (aP K (be dQ)):=
 aU (G:={ G0 with fns:=[("_law_way",aW)] }) { sc:=ad dG,N:=["_law_ups","_law_x"] } F sI (iZ (gb T TK) ⟨⟨_,_,by decide,d__law_way⟩,trivial⟩ trivial aR) (by kernel_rfl)
theorem mG (T:Txt mg)(TK:Kon w K mg)(F:FunD K mg "_law_lot_size" bv ["_law_ups","_law_x"])(d__law_head:Def P w K mg base 2 "_law_head" ["_law_ups","_law_x"] (aP K (be dQ))):Def P w K mg base 3 "_law_lot_size" ["_law_ups","_law_x"] (aP K (be b5)):=
 aU (G:={ G0 with fns:=[("_law_head",dQ)] }) { sc:=ad bv,N:=["_law_ups","_law_x"],cmp:=[((284,15),["_law_thing","_law_ups","_law_x"])] } F mH (iZ (gb T TK) ⟨⟨_,_,by decide,d__law_head⟩,trivial⟩ trivial aR) (by kernel_rfl)
theorem lW (T:Txt mg)(TK:Kon w K mg)(F:FunD K mg "_law_doublings" bo ["_law_number"]):Def P w K mg base 1 "_law_doublings" ["_law_number"] (aP K (be ax)):=
 aU (G:={ G0 with fns:=[] }) { sc:=ad bo,N:=["_law_number","_law_times"] } F lU (iZ (gb T TK) trivial trivial aR) (by kernel_rfl)
theorem rW (T:Txt mg)(TK:Kon w K mg)(F:FunD K mg "_law_most" d9 ["_law_store","_law_deed_here","_law_answer"])(d__law_lot_size:Def P w K mg base 3 "_law_lot_size" ["_law_ups","_law_x"] (aP K (be b5)))(d__law_doublings:Def P w K mg base 1 "_law_doublings" ["_law_number"] (aP K (be ax))):Def P w K mg base 4 "_law_most" ["_law_store","_law_deed_here","_law_answer"] (aP K (be fw)):=
 aU (G:={ G0 with fns:=[("_law_lot_size",b5),("_law_doublings",ax)] }) { sc:=ad d9,N:=["_law_store","_law_deed_here","_law_answer","_law_sizes_here","_law_most_here"],cmp:=[((286,22),["_law_x","_law_store"]),((287,25),["_law_size"])] } F rZ (iZ (gb T TK) ⟨⟨_,_,by decide,d__law_lot_size⟩,⟨⟨_,_,by decide,d__law_doublings⟩,trivial⟩⟩ trivial aR) (by kernel_rfl)
theorem qg (T:Txt mg)(TK:Kon w K mg)(F:FunD K mg "_law_sizes" cZ ["_law_ups"])(d__law_way:Def P w K mg base 1 "_law_way" ["_law_ups","_law_x"] (aP K (be aW))):Def P w K mg base 2 "_law_sizes" ["_law_ups"] (aP K (be ce)):=
 aU (G:={ G0 with fns:=[("_law_way",aW)] }) { sc:=ad cZ,N:=["_law_ups","_law_sizes_here","_law_x","_law_thing"],own:=["_law_sizes_here"] } F qH (iZ (gb T TK) ⟨⟨_,_,by decide,d__law_way⟩,trivial⟩ trivial aR) (by kernel_rfl)
theorem qp (T:Txt mg)(TK:Kon w K mg)(F:FunD K mg "_law_worth" cU ["_law_ups"])(d__law_doublings:Def P w K mg base 1 "_law_doublings" ["_law_number"] (aP K (be ax)))(d__law_sizes:Def P w K mg base 2 "_law_sizes" ["_law_ups"] (aP K (be ce))):Def P w K mg base 3 "_law_worth" ["_law_ups"] (aP K (be cS)):=
 aU (G:={ G0 with fns:=[("_law_doublings",ax),("_law_sizes",ce)] }) { sc:=ad cU,N:=["_law_ups"],cmp:=[((282,15),["_law_size"])] } F qx (iZ (gb T TK) ⟨⟨_,_,by decide,d__law_doublings⟩,⟨⟨_,_,by decide,d__law_sizes⟩,trivial⟩⟩ trivial aR) (by kernel_rfl)
theorem Ax (T:Txt mg)(TK:Kon w K mg)(F:FunD K mg "copied" ia ["numbers"]):Def P w K mg base 1 "copied" ["numbers"] (aP K (be gK)):=
 aU (G:={ G0 with fns:=[] }) { sc:=ad ia,N:=["numbers"] } F Aq (iZ (gb T TK) trivial trivial aR) (by kernel_rfl)
theorem sD (T:Txt mg)(TK:Kon w K mg)(F:FunD K mg "find_done" d6 ["store","x"])(d_find_in:Def P w K mg base 3 "find_in" ["ups","short","x"] (aP K (be fj)))(d_copied:Def P w K mg base 1 "copied" ["numbers"] (aP K (be gK))):Def P w K mg base 4 "find_done" ["store","x"] (aP K (be bd)):=
 aU (G:={ G0 with fns:=[("find_in",fj),("copied",gK)] }) { sc:=ad d6,N:=["store","x","join","short","ups","marks","head","behind","steps"] } F sA (iZ (gb T TK) ⟨⟨_,_,by decide,d_find_in⟩,⟨⟨_,_,by decide,d_copied⟩,trivial⟩⟩ trivial aR) (by kernel_rfl)
theorem oB (T:Txt mg)(TK:Kon w K mg)(F:FunD K mg "first_stays" cu ["join","marks","first","second"]):Def P w K mg base 1 "first_stays" ["join","marks","first","second"] (aP K (be bG)):=
 aU (G:={ G0 with fns:=[] }) { sc:=ad cu,N:=["join","marks","first","second"] } F oT (iZ (gb T TK) trivial trivial aR) (by kernel_rfl)
theorem o8 (T:Txt mg)(TK:Kon w K mg)(F:FunD K mg "mark_behind" cq ["join","top","under"]):Def P w K mg base 1 "mark_behind" ["join","top","under"] (aP K (be bF)):=
 aU (G:={ G0 with fns:=[] }) { sc:=ad cq,N:=["join","top","under"] } F pM (iZ (gb T TK) trivial trivial aR) (by kernel_rfl)
theorem kb (T:Txt mg)(TK:Kon w K mg)(F:FunD K mg "with_heads_joined" aH ["store","first","second"])(d_first_stays:Def P w K mg base 1 "first_stays" ["join","marks","first","second"] (aP K (be bG)))(d_mark_behind:Def P w K mg base 1 "mark_behind" ["join","top","under"] (aP K (be bF))):Def P w K mg base 2 "with_heads_joined" ["store","first","second"] (aP K (be aB)):=
 aU (G:={ G0 with fns:=[("first_stays",bG),("mark_behind",bF)] }) { sc:=ad aH,N:=["store","first","second","join","short","ups","marks","stays","top","under","new_ups","new_marks"],own:=["new_marks","new_ups"] } F jO (iZ (gb T TK) ⟨⟨_,_,by decide,d_first_stays⟩,⟨⟨_,_,by decide,d_mark_behind⟩,trivial⟩⟩ trivial aR) (by kernel_rfl)
theorem sG (T:Txt mg)(TK:Kon w K mg)(F:FunD K mg "join_done" dD ["store","x","y"])(d_find_done:Def P w K mg base 4 "find_done" ["store","x"] (aP K (be bd)))(d_with_heads_joined:Def P w K mg base 2 "with_heads_joined" ["store","first","second"] (aP K (be aB))):Def P w K mg base 5 "join_done" ["store","x","y"] (aP K (be cO)):=
 aU (G:={ G0 with fns:=[("find_done",bd),("with_heads_joined",aB)] }) { sc:=ad dD,N:=["store","x","y","after_x","first","steps_x","after_y","second","steps_y","steps"] } F sE (iZ (gb T TK) ⟨⟨_,_,by decide,d_find_done⟩,⟨⟨_,_,by decide,d_with_heads_joined⟩,trivial⟩⟩ trivial aR) (by kernel_rfl)
theorem sP (T:Txt mg)(TK:Kon w K mg)(F:FunD K mg "deed_done" dW ["store","deed"])(d_join_done:Def P w K mg base 5 "join_done" ["store","x","y"] (aP K (be cO)))(d_find_done:Def P w K mg base 4 "find_done" ["store","x"] (aP K (be bd))):Def P w K mg base 6 "deed_done" ["store","deed"] (aP K (be cP)):=
 aU (G:={ G0 with fns:=[("join_done",cO),("find_done",bd)] }) { sc:=ad dW,N:=["store","deed"] } F tV (iZ (gb T TK) ⟨⟨_,_,by decide,d_join_done⟩,⟨⟨_,_,by decide,d_find_done⟩,trivial⟩⟩ trivial aR) (by kernel_rfl)
theorem vK (T:Txt mg)(TK:Kon w K mg)(F:FunD K mg "is_thing" eK ["many","thing"])(d_is_whole:Def P w K mg base 1 "is_whole" ["thing"] (aP K (be bN))):Def P w K mg base 2 "is_thing" ["many","thing"] (aP K (be dN)):=
 aU (G:={ G0 with fns:=[("is_whole",bN)] }) { sc:=ad eK,N:=["many","thing"] } F vq (iZ (gb T TK) ⟨⟨_,_,by decide,d_is_whole⟩,trivial⟩ trivial aR) (by kernel_rfl)
theorem wr (T:Txt mg)(TK:Kon w K mg)(F:FunD K mg "is_deed" ge ["many","thing"])(d_is_thing:Def P w K mg base 2 "is_thing" ["many","thing"] (aP K (be dN))):Def P w K mg base 3 "is_deed" ["many","thing"] (aP K (be fo)):=
 aU (G:={ G0 with fns:=[("is_thing",dN)] }) { sc:=ad ge,N:=["many","thing","word"],cmp:=[((98,15),["x","many"])] } F xb (iZ (gb T TK) ⟨⟨_,_,by decide,d_is_thing⟩,trivial⟩ trivial aR) (by kernel_rfl)
theorem FG (T:Txt mg)(TK:Kon w K mg)(F:FunD K mg "done" kY ["store","deed"])(d_deed_done:Def P w K mg base 6 "deed_done" ["store","deed"] (aP K (be cP)))(d_is_deed:Def P w K mg base 3 "is_deed" ["many","thing"] (aP K (be fo))):Def P w K mg base 7 "done" ["store","deed"] (aP K (be jr)):=
 aU (G:={ G0 with fns:=[("deed_done",cP),("is_deed",fo)] }) { sc:=ad kY,N:=["store","deed"] } F Fp (iZ (gb T TK) ⟨⟨_,_,by decide,d_deed_done⟩,⟨⟨_,_,by decide,d_is_deed⟩,trivial⟩⟩ trivial aR) (by kernel_rfl)
theorem Aa (T:Txt mg)(TK:Kon w K mg)(F:FunD K mg "way_up" iq ["ups","x"]):Def P w K mg base 1 "way_up" ["ups","x"] (aP K (be di)):=
 aU (G:={ G0 with fns:=[] }) { sc:=ad iq,N:=["ups","x","way"],own:=["way"] } F zU (iZ (gb T TK) trivial trivial aR) (by kernel_rfl)
theorem vQ (T:Txt mg)(TK:Kon w K mg)(F:FunD K mg "lot_with" eX ["ups","x"])(d_way_up:Def P w K mg base 1 "way_up" ["ups","x"] (aP K (be di))):Def P w K mg base 2 "lot_with" ["ups","x"] (aP K (be bw)):=
 aU (G:={ G0 with fns:=[("way_up",di)] }) { sc:=ad eX,N:=["ups","x","head"],cmp:=[((41,17),["y","ups","head"])] } F va (iZ (gb T TK) ⟨⟨_,_,by decide,d_way_up⟩,trivial⟩ trivial aR) (by kernel_rfl)
theorem sN (T:Txt mg)(TK:Kon w K mg)(F:FunD K mg "doublings" dR ["number"]):Def P w K mg base 1 "doublings" ["number"] (aP K (be aL)):=
 aU (G:={ G0 with fns:=[] }) { sc:=ad dR,N:=["number"] } F tu (iZ (gb T TK) trivial trivial aR) (by kernel_rfl)
theorem nK (T:Txt mg)(TK:Kon w K mg)(F:FunD K mg "most_of_find" bT ["ups","x"])(d_doublings:Def P w K mg base 1 "doublings" ["number"] (aP K (be aL)))(d_lot_with:Def P w K mg base 2 "lot_with" ["ups","x"] (aP K (be bw))):Def P w K mg base 3 "most_of_find" ["ups","x"] (aP K (be bt)):=
 aU (G:={ G0 with fns:=[("doublings",aL),("lot_with",bw)] }) { sc:=ad bT,N:=["ups","x"] } F nG (iZ (gb T TK) ⟨⟨_,_,by decide,d_doublings⟩,⟨⟨_,_,by decide,d_lot_with⟩,trivial⟩⟩ trivial aR) (by kernel_rfl)
theorem nE (T:Txt mg)(TK:Kon w K mg)(F:FunD K mg "most_of_deed" bM ["ups","deed"])(d_lot_with:Def P w K mg base 2 "lot_with" ["ups","x"] (aP K (be bw)))(d_most_of_find:Def P w K mg base 3 "most_of_find" ["ups","x"] (aP K (be bt)))(d_doublings:Def P w K mg base 1 "doublings" ["number"] (aP K (be aL))):Def P w K mg base 4 "most_of_deed" ["ups","deed"] (aP K (be cF)):=
 aU (G:={ G0 with fns:=[("lot_with",bw),("most_of_find",bt),("doublings",aL)] }) { sc:=ad bM,N:=["ups","deed","one","other","most"] } F nC (iZ (gb T TK) ⟨⟨_,_,by decide,d_lot_with⟩,⟨⟨_,_,by decide,d_most_of_find⟩,⟨⟨_,_,by decide,d_doublings⟩,trivial⟩⟩⟩ trivial aR) (by kernel_rfl)
theorem ux (T:Txt mg)(TK:Kon w K mg)(F:FunD K mg "sizes_in" eR ["ups"])(d_way_up:Def P w K mg base 1 "way_up" ["ups","x"] (aP K (be di))):Def P w K mg base 2 "sizes_in" ["ups"] (aP K (be dJ)):=
 aU (G:={ G0 with fns:=[("way_up",di)] }) { sc:=ad eR,N:=["ups","sizes","x","above"],own:=["sizes"] } F vC (iZ (gb T TK) ⟨⟨_,_,by decide,d_way_up⟩,trivial⟩ trivial aR) (by kernel_rfl)
theorem uu (T:Txt mg)(TK:Kon w K mg)(F:FunD K mg "worth_in" eZ ["ups"])(d_doublings:Def P w K mg base 1 "doublings" ["number"] (aP K (be aL)))(d_sizes_in:Def P w K mg base 2 "sizes_in" ["ups"] (aP K (be dJ))):Def P w K mg base 3 "worth_in" ["ups"] (aP K (be eU)):=
 aU (G:={ G0 with fns:=[("doublings",aL),("sizes_in",dJ)] }) { sc:=ad eZ,N:=["ups"],cmp:=[((158,15),["size"])] } F vn (iZ (gb T TK) ⟨⟨_,_,by decide,d_doublings⟩,⟨⟨_,_,by decide,d_sizes_in⟩,trivial⟩⟩ trivial aR) (by kernel_rfl)
theorem EQ (T:Txt mg)(TK:Kon w K mg)(F:FunD K mg "paid" kU ["store","deed"])(d_done:Def P w K mg base 7 "done" ["store","deed"] (aP K (be jr)))(d_most_of_deed:Def P w K mg base 4 "most_of_deed" ["ups","deed"] (aP K (be cF)))(d_worth_in:Def P w K mg base 3 "worth_in" ["ups"] (aP K (be eU))):Def P w K mg base 8 "paid" ["store","deed"] (aP K (be kX)):=
 aU (G:={ G0 with fns:=[("done",jr),("most_of_deed",cF),("worth_in",eU)] }) { sc:=ad kU,N:=["store","deed","behind","answer","steps"] } F EO (iZ (gb T TK) ⟨⟨_,_,by decide,d_done⟩,⟨⟨_,_,by decide,d_most_of_deed⟩,⟨⟨_,_,by decide,d_worth_in⟩,trivial⟩⟩⟩ trivial aR) (by kernel_rfl)
end
end K25
end
section
namespace K25
open PySem L2 Fo Pu Dp
open O25 (Txt top Tabs)
section
variable {P:Program}{w:World}{K:PySem.W.Frag}{mg:Str->Option Value}{base:Heap}
theorem CW (T:Txt mg)(TK:Kon w K mg){f:Addr}{cdv:Value}{A:Around}{outer:List Env}{s:Shared}{H:Hp}{vs:List V}{Q:VK}{E:XK}(hr:Room 8 (A.deeper (PyProof.Rows.envOfC "law" (ad kN) s.heap.objs.size f cdv)))(h:ra K vs H Q E)(d__law_started:Def P w K mg base 2 "_law_started" ["_law_script","_law_at"] (aP K (be bq)))(d_new_store:Def P w K mg base 4 "new_store" ["many","join","short"] (aP K (be cQ)))(d__law_deeds:Def P w K mg base 3 "_law_deeds" ["_law_script","_law_at","_law_many_here","_law_most_here"] (aP K (be bD)))(d__law_deed:Def P w K mg base 3 "_law_deed" ["_law_store","_law_deed_here"] (aP K (be cb)))(d__law_most:Def P w K mg base 4 "_law_most" ["_law_store","_law_deed_here","_law_answer"] (aP K (be fw)))(d__law_worth:Def P w K mg base 3 "_law_worth" ["_law_ups"] (aP K (be cS)))(d_paid:Def P w K mg base 8 "paid" ["store","deed"] (aP K (be kX)))(d__law_numbers:Def P w K mg base 1 "_law_numbers" ["_law_cell_here","_law_many_here"] (aP K (be al)))(d__law_cell:Def P w K mg base 1 "_law_cell" ["_law_script","_law_k"] (aP K (be av))) :
  ∃t,PSs (lJ vX P w K mg base ["_law_script","_law_at","_law_many_here","_law_join","_law_short","_law_store","_law_deed_here","_law_behind","_law_answer","_law_steps","_law_due","_law_turn","_law_told"] "law" (ad kN) f cdv A outer s H E).nox (ag kN) t/\t { nx:=fun _ H'=>Q .non H',rt:=Q } (L2.aQ ["_law_script","_law_at","_law_many_here","_law_join","_law_short","_law_store","_law_deed_here","_law_behind","_law_answer","_law_steps","_law_due","_law_turn","_law_told"] vs) H:=
 Jy (N:=["_law_script","_law_at","_law_many_here","_law_join","_law_short","_law_store","_law_deed_here","_law_behind","_law_answer","_law_steps","_law_due","_law_turn","_law_told"]) (X:=(lJ vX P w K mg base ["_law_script","_law_at","_law_many_here","_law_join","_law_short","_law_store","_law_deed_here","_law_behind","_law_answer","_law_steps","_law_due","_law_turn","_law_told"] "law" (ad kN) f cdv A outer s H E).nox) (OJ (s:=mo) (G:={ G0 with fns:=[("_law_started",bq),("new_store",cQ),("_law_deeds",bD),("_law_deed",cb),("_law_most",fw),("_law_worth",cS),("paid",kX),("_law_numbers",al),("_law_cell",av)] }) { sc:=ad kN,N:=["_law_script","_law_at","_law_many_here","_law_join","_law_short","_law_store","_law_deed_here","_law_behind","_law_answer","_law_steps","_law_due","_law_turn","_law_told"],cmp:=[((301,84),["_law_part"])] } DM (iZ (gb T TK) ⟨⟨_,_,by decide,d__law_started⟩,⟨⟨_,_,by decide,d_new_store⟩,⟨⟨_,_,by decide,d__law_deeds⟩,⟨⟨_,_,by decide,d__law_deed⟩,⟨⟨_,_,by decide,d__law_most⟩,⟨⟨_,_,by decide,d__law_worth⟩,⟨⟨_,_,by decide,d_paid⟩,⟨⟨_,_,by decide,d__law_numbers⟩,⟨⟨_,_,by decide,d__law_cell⟩,trivial⟩⟩⟩⟩⟩⟩⟩⟩⟩ trivial aR) (by kernel_rfl) hr) h Cj
end
end K25
end
section
namespace K25
open PySem L2 Fo Pu Dp
open O25 (Txt top Tabs)
@[elab_as_elim] theorem jT {P:List Value->Prop}{us:List Value}(h:us.length=1)(k:∀a,P [a]):P us:=by
 obtain _|⟨_,us⟩:=us
 ·cases h
 obtain _|⟨_,us⟩:=us
 ·exact k _
 ·simp at h
@[elab_as_elim] theorem iB {P:List Value->Prop}{us:List Value}(h:us.length=2)(k:∀a b,P [a,b]):P us:=by
 obtain _|⟨_,us⟩:=us
 ·cases h
 obtain _|⟨_,us⟩:=us
 ·cases h
 obtain _|⟨_,us⟩:=us
 ·exact k _ _
 ·simp at h
@[elab_as_elim] theorem vY {P:List Value->Prop}{us:List Value}(h:us.length=3)(k:∀a b c,P [a,b,c]):P us:=by
 obtain _|⟨_,us⟩:=us
 ·cases h
 obtain _|⟨_,us⟩:=us
 ·cases h
 obtain _|⟨_,us⟩:=us
 ·cases h
 obtain _|⟨_,us⟩:=us
 ·exact k _ _ _
 ·simp at h
@[elab_as_elim] theorem Ju {P:List Value->Prop}{us:List Value}(h:us.length=4)(k:∀a b c d,P [a,b,c,d]):P us:=by
 obtain _|⟨_,us⟩:=us
 ·cases h
 obtain _|⟨_,us⟩:=us
 ·cases h
 obtain _|⟨_,us⟩:=us
 ·cases h
 obtain _|⟨_,us⟩:=us
 ·cases h
 obtain _|⟨_,us⟩:=us
 ·exact k _ _ _ _
 ·simp at h
@[elab_as_elim] theorem Qy {P:List Value->Prop}{us:List Value}(h:us.length=5)(k:∀a b c d e,P [a,b,c,d,e]):P us:=by
 obtain _|⟨_,us⟩:=us
 ·cases h
 obtain _|⟨_,us⟩:=us
 ·cases h
 obtain _|⟨_,us⟩:=us
 ·cases h
 obtain _|⟨_,us⟩:=us
 ·cases h
 obtain _|⟨_,us⟩:=us
 ·cases h
 obtain _|⟨_,us⟩:=us
 ·exact k _ _ _ _ _
 ·simp at h
theorem LS {l:PySem.W.OpenLaw}{w:World}{K:PySem.W.Frag}{h:Heap}{mg:Str->Option Value}{fa f0 f1 f2 f3 f4 f5 f6 f7 f8 f9 f10 f11 f12 f13 f14 f15 f16 f17 f18 f19 f20 f21 f22 f23 f24 f25 f26 f27 f28 f29 f30 f31 f32 f33 f34 f35 f36 f37 f38 f39 f40 f41 f42 f43 f44 f45 f46 f47 f48:Addr}(X:K.In h)(G:h.Ns mainGlobals mg)(hfa:mg "law" = some (.ref fa))
  {od0 an0 od1 an1 od2 an2 od3 an3 od4 an4 od5 an5 od6 an6 od7 an7 od8 an8 od9 an9 od10 an10 od11 an11 od12 an12 od13 an13 od14 an14 od15 an15 od16 an16 od17 an17 od18 an18 od19 an19 od20 an20 od21 an21 od22 an22 od23 an23 od24 an24 od25 an25 od26 an26 od27 an27 od28 an28 od29 an29 od30 an30 od31 an31 od32 an32 od33 an33 od34 an34 od35 an35 od36 an36 od37 an37 od38 an38 od39 an39 od40 an40 od41 an41 od42 an42 od43 an43 od44 an44 od45 an45 od46 an46 od47 an47 od48 an48:Option Addr} {sl0 sl1 sl2 sl3 sl4 sl5 sl6 sl7 sl8 sl9 sl10 sl11 sl12 sl13 sl14 sl15 sl16 sl17 sl18 sl19 sl20 sl21 sl22 sl23 sl24 sl25 sl26 sl27 sl28 sl29 sl30 sl31 sl32 sl33 sl34 sl35 sl36 sl37 sl38 sl39 sl40 sl41 sl42 sl43 sl44 sl45 sl46 sl47 sl48:Array (Option Value)} {oc0 kV0 dc0 pm0 cd0 ct0 oc1 kV1 dc1 pm1 cd1 ct1 oc2 kV2 dc2 pm2 cd2 ct2 oc3 kV3 dc3 pm3 cd3 ct3 oc4 kV4 dc4 pm4 cd4 ct4 oc5 kV5 dc5 pm5 cd5 ct5 oc6 kV6 dc6 pm6 cd6 ct6 oc7 kV7 dc7 pm7 cd7 ct7 oc8 kV8 dc8 pm8 cd8 ct8 oc9 kV9 dc9 pm9 cd9 ct9 oc10 kV10 dc10 pm10 cd10 ct10 oc11 kV11 dc11 pm11 cd11 ct11 oc12 kV12 dc12 pm12 cd12 ct12 oc13 kV13 dc13 pm13 cd13 ct13 oc14 kV14 dc14 pm14 cd14 ct14 oc15 kV15 dc15 pm15 cd15 ct15 oc16 kV16 dc16 pm16 cd16 ct16 oc17 kV17 dc17 pm17 cd17 ct17 oc18 kV18 dc18 pm18 cd18 ct18 oc19 kV19 dc19 pm19 cd19 ct19 oc20 kV20 dc20 pm20 cd20 ct20 oc21 kV21 dc21 pm21 cd21 ct21 oc22 kV22 dc22 pm22 cd22 ct22 oc23 kV23 dc23 pm23 cd23 ct23 oc24 kV24 dc24 pm24 cd24 ct24 oc25 kV25 dc25 pm25 cd25 ct25 oc26 kV26 dc26 pm26 cd26 ct26 oc27 kV27 dc27 pm27 cd27 ct27 oc28 kV28 dc28 pm28 cd28 ct28 oc29 kV29 dc29 pm29 cd29 ct29 oc30 kV30 dc30 pm30 cd30 ct30 oc31 kV31 dc31 pm31 cd31 ct31 oc32 kV32 dc32 pm32 cd32 ct32 oc33 kV33 dc33 pm33 cd33 ct33 oc34 kV34 dc34 pm34 cd34 ct34 oc35 kV35 dc35 pm35 cd35 ct35 oc36 kV36 dc36 pm36 cd36 ct36 oc37 kV37 dc37 pm37 cd37 ct37 oc38 kV38 dc38 pm38 cd38 ct38 oc39 kV39 dc39 pm39 cd39 ct39 oc40 kV40 dc40 pm40 cd40 ct40 oc41 kV41 dc41 pm41 cd41 ct41 oc42 kV42 dc42 pm42 cd42 ct42 oc43 kV43 dc43 pm43 cd43 ct43 oc44 kV44 dc44 pm44 cd44 ct44 oc45 kV45 dc45 pm45 cd45 ct45 oc46 kV46 dc46 pm46 cd46 ct46 oc47 kV47 dc47 pm47 cd47 ct47 oc48 kV48 dc48 pm48 cd48 ct48:Value}
  (a0:PySem.W.nsIn K mainGlobals "find_none" = some (some (.ref f0))) (l0:K.lookup f0=some ⟨oc0,od0,.func (PySem.W.fnOf "find_none" "find_none" (aj cK) (ag cK) (ad cK) .none kV0 dc0 pm0 an0 cd0 ct0),sl0⟩) (c0:PySem.W.codeIn K cd0 "find_none" = true) (k0:PySem.W.keepIn K (.ref f0)=true)
  (a1:PySem.W.nsIn K mainGlobals "find_whole" = some (some (.ref f1))) (l1:K.lookup f1=some ⟨oc1,od1,.func (PySem.W.fnOf "find_whole" "find_whole" (aj cf) (ag cf) (ad cf) .none kV1 dc1 pm1 an1 cd1 ct1),sl1⟩) (c1:PySem.W.codeIn K cd1 "find_whole" = true) (k1:PySem.W.keepIn K (.ref f1)=true)
  (a2:PySem.W.nsIn K mainGlobals "find_halves" = some (some (.ref f2))) (l2:K.lookup f2=some ⟨oc2,od2,.func (PySem.W.fnOf "find_halves" "find_halves" (aj bJ) (ag bJ) (ad bJ) .none kV2 dc2 pm2 an2 cd2 ct2),sl2⟩) (c2:PySem.W.codeIn K cd2 "find_halves" = true) (k2:PySem.W.keepIn K (.ref f2)=true)
  (a3:PySem.W.nsIn K mainGlobals "find_splits" = some (some (.ref f3))) (l3:K.lookup f3=some ⟨oc3,od3,.func (PySem.W.fnOf "find_splits" "find_splits" (aj bK) (ag bK) (ad bK) .none kV3 dc3 pm3 an3 cd3 ct3),sl3⟩) (c3:PySem.W.codeIn K cd3 "find_splits" = true) (k3:PySem.W.keepIn K (.ref f3)=true)
  (a4:PySem.W.nsIn K mainGlobals "find_one" = some (some (.ref f4))) (l4:K.lookup f4=some ⟨oc4,od4,.func (PySem.W.fnOf "find_one" "find_one" (aj d5) (ag d5) (ad d5) .none kV4 dc4 pm4 an4 cd4 ct4),sl4⟩) (c4:PySem.W.codeIn K cd4 "find_one" = true) (k4:PySem.W.keepIn K (.ref f4)=true)
  (a5:PySem.W.nsIn K mainGlobals "_law_numbers" = some (some (.ref f5))) (l5:K.lookup f5=some ⟨oc5,od5,.func (PySem.W.fnOf "_law_numbers" "_law_numbers" (aj bQ) (ag bQ) (ad bQ) .none kV5 dc5 pm5 an5 cd5 ct5),sl5⟩) (c5:PySem.W.codeIn K cd5 "_law_numbers" = true) (k5:PySem.W.keepIn K (.ref f5)=true)
  (a6:PySem.W.nsIn K mainGlobals "_law_many" = some (some (.ref f6))) (l6:K.lookup f6=some ⟨oc6,od6,.func (PySem.W.fnOf "_law_many" "_law_many" (aj dY) (ag dY) (ad dY) .none kV6 dc6 pm6 an6 cd6 ct6),sl6⟩) (c6:PySem.W.codeIn K cd6 "_law_many" = true) (k6:PySem.W.keepIn K (.ref f6)=true)
  (a7:PySem.W.nsIn K mainGlobals "_law_cell" = some (some (.ref f7))) (l7:K.lookup f7=some ⟨oc7,od7,.func (PySem.W.fnOf "_law_cell" "_law_cell" (aj dO) (ag dO) (ad dO) .none kV7 dc7 pm7 an7 cd7 ct7),sl7⟩) (c7:PySem.W.codeIn K cd7 "_law_cell" = true) (k7:PySem.W.keepIn K (.ref f7)=true)
  (a8:PySem.W.nsIn K mainGlobals "_law_started" = some (some (.ref f8))) (l8:K.lookup f8=some ⟨oc8,od8,.func (PySem.W.fnOf "_law_started" "_law_started" (aj bS) (ag bS) (ad bS) .none kV8 dc8 pm8 an8 cd8 ct8),sl8⟩) (c8:PySem.W.codeIn K cd8 "_law_started" = true) (k8:PySem.W.keepIn K (.ref f8)=true)
  (a9:PySem.W.nsIn K mainGlobals "is_whole" = some (some (.ref f9))) (l9:K.lookup f9=some ⟨oc9,od9,.func (PySem.W.fnOf "is_whole" "is_whole" (aj eS) (ag eS) (ad eS) .none kV9 dc9 pm9 an9 cd9 ct9),sl9⟩) (c9:PySem.W.codeIn K cd9 "is_whole" = true) (k9:PySem.W.keepIn K (.ref f9)=true)
  (a10:PySem.W.nsIn K mainGlobals "is_many" = some (some (.ref f10))) (l10:K.lookup f10=some ⟨oc10,od10,.func (PySem.W.fnOf "is_many" "is_many" (aj fU) (ag fU) (ad fU) .none kV10 dc10 pm10 an10 cd10 ct10),sl10⟩) (c10:PySem.W.codeIn K cd10 "is_many" = true) (k10:PySem.W.keepIn K (.ref f10)=true)
  (a11:PySem.W.nsIn K mainGlobals "check_many" = some (some (.ref f11))) (l11:K.lookup f11=some ⟨oc11,od11,.func (PySem.W.fnOf "check_many" "check_many" (aj cV) (ag cV) (ad cV) .none kV11 dc11 pm11 an11 cd11 ct11),sl11⟩) (c11:PySem.W.codeIn K cd11 "check_many" = true) (k11:PySem.W.keepIn K (.ref f11)=true)
  (a12:PySem.W.nsIn K mainGlobals "is_way_of_joining" = some (some (.ref f12))) (l12:K.lookup f12=some ⟨oc12,od12,.func (PySem.W.fnOf "is_way_of_joining" "is_way_of_joining" (aj aJ) (ag aJ) (ad aJ) .none kV12 dc12 pm12 an12 cd12 ct12),sl12⟩) (c12:PySem.W.codeIn K cd12 "is_way_of_joining" = true) (k12:PySem.W.keepIn K (.ref f12)=true)
  (a13:PySem.W.nsIn K mainGlobals "check_join" = some (some (.ref f13))) (l13:K.lookup f13=some ⟨oc13,od13,.func (PySem.W.fnOf "check_join" "check_join" (aj cX) (ag cX) (ad cX) .none kV13 dc13 pm13 an13 cd13 ct13),sl13⟩) (c13:PySem.W.codeIn K cd13 "check_join" = true) (k13:PySem.W.keepIn K (.ref f13)=true)
  (a14:PySem.W.nsIn K mainGlobals "is_short" = some (some (.ref f14))) (l14:K.lookup f14=some ⟨oc14,od14,.func (PySem.W.fnOf "is_short" "is_short" (aj dz) (ag dz) (ad dz) .none kV14 dc14 pm14 an14 cd14 ct14),sl14⟩) (c14:PySem.W.codeIn K cd14 "is_short" = true) (k14:PySem.W.keepIn K (.ref f14)=true)
  (a15:PySem.W.nsIn K mainGlobals "check_short" = some (some (.ref f15))) (l15:K.lookup f15=some ⟨oc15,od15,.func (PySem.W.fnOf "check_short" "check_short" (aj cs) (ag cs) (ad cs) .none kV15 dc15 pm15 an15 cd15 ct15),sl15⟩) (c15:PySem.W.codeIn K cd15 "check_short" = true) (k15:PySem.W.keepIn K (.ref f15)=true)
  (a16:PySem.W.nsIn K mainGlobals "new_store" = some (some (.ref f16))) (l16:K.lookup f16=some ⟨oc16,od16,.func (PySem.W.fnOf "new_store" "new_store" (aj dB) (ag dB) (ad dB) .none kV16 dc16 pm16 an16 cd16 ct16),sl16⟩) (c16:PySem.W.codeIn K cd16 "new_store" = true) (k16:PySem.W.keepIn K (.ref f16)=true)
  (a17:PySem.W.nsIn K mainGlobals "_law_joins" = some (some (.ref f17))) (l17:K.lookup f17=some ⟨oc17,od17,.func (PySem.W.fnOf "_law_joins" "_law_joins" (aj da) (ag da) (ad da) .none kV17 dc17 pm17 an17 cd17 ct17),sl17⟩) (c17:PySem.W.codeIn K cd17 "_law_joins" = true) (k17:PySem.W.keepIn K (.ref f17)=true)
  (a18:PySem.W.nsIn K mainGlobals "_law_deeds" = some (some (.ref f18))) (l18:K.lookup f18=some ⟨oc18,od18,.func (PySem.W.fnOf "_law_deeds" "_law_deeds" (aj cY) (ag cY) (ad cY) .none kV18 dc18 pm18 an18 cd18 ct18),sl18⟩) (c18:PySem.W.codeIn K cd18 "_law_deeds" = true) (k18:PySem.W.keepIn K (.ref f18)=true)
  (a19:PySem.W.nsIn K mainGlobals "_law_way" = some (some (.ref f19))) (l19:K.lookup f19=some ⟨oc19,od19,.func (PySem.W.fnOf "_law_way" "_law_way" (aj eO) (ag eO) (ad eO) .none kV19 dc19 pm19 an19 cd19 ct19),sl19⟩) (c19:PySem.W.codeIn K cd19 "_law_way" = true) (k19:PySem.W.keepIn K (.ref f19)=true)
  (a20:PySem.W.nsIn K mainGlobals "_law_find" = some (some (.ref f20))) (l20:K.lookup f20=some ⟨oc20,od20,.func (PySem.W.fnOf "_law_find" "_law_find" (aj dC) (ag dC) (ad dC) .none kV20 dc20 pm20 an20 cd20 ct20),sl20⟩) (c20:PySem.W.codeIn K cd20 "_law_find" = true) (k20:PySem.W.keepIn K (.ref f20)=true)
  (a21:PySem.W.nsIn K mainGlobals "_law_linked" = some (some (.ref f21))) (l21:K.lookup f21=some ⟨oc21,od21,.func (PySem.W.fnOf "_law_linked" "_law_linked" (aj cr) (ag cr) (ad cr) .none kV21 dc21 pm21 an21 cd21 ct21),sl21⟩) (c21:PySem.W.codeIn K cd21 "_law_linked" = true) (k21:PySem.W.keepIn K (.ref f21)=true)
  (a22:PySem.W.nsIn K mainGlobals "_law_deed" = some (some (.ref f22))) (l22:K.lookup f22=some ⟨oc22,od22,.func (PySem.W.fnOf "_law_deed" "_law_deed" (aj dZ) (ag dZ) (ad dZ) .none kV22 dc22 pm22 an22 cd22 ct22),sl22⟩) (c22:PySem.W.codeIn K cd22 "_law_deed" = true) (k22:PySem.W.keepIn K (.ref f22)=true)
  (a23:PySem.W.nsIn K mainGlobals "_law_head" = some (some (.ref f23))) (l23:K.lookup f23=some ⟨oc23,od23,.func (PySem.W.fnOf "_law_head" "_law_head" (aj dG) (ag dG) (ad dG) .none kV23 dc23 pm23 an23 cd23 ct23),sl23⟩) (c23:PySem.W.codeIn K cd23 "_law_head" = true) (k23:PySem.W.keepIn K (.ref f23)=true)
  (a24:PySem.W.nsIn K mainGlobals "_law_lot_size" = some (some (.ref f24))) (l24:K.lookup f24=some ⟨oc24,od24,.func (PySem.W.fnOf "_law_lot_size" "_law_lot_size" (aj bv) (ag bv) (ad bv) .none kV24 dc24 pm24 an24 cd24 ct24),sl24⟩) (c24:PySem.W.codeIn K cd24 "_law_lot_size" = true) (k24:PySem.W.keepIn K (.ref f24)=true)
  (a25:PySem.W.nsIn K mainGlobals "_law_doublings" = some (some (.ref f25))) (l25:K.lookup f25=some ⟨oc25,od25,.func (PySem.W.fnOf "_law_doublings" "_law_doublings" (aj bo) (ag bo) (ad bo) .none kV25 dc25 pm25 an25 cd25 ct25),sl25⟩) (c25:PySem.W.codeIn K cd25 "_law_doublings" = true) (k25:PySem.W.keepIn K (.ref f25)=true)
  (a26:PySem.W.nsIn K mainGlobals "_law_most" = some (some (.ref f26))) (l26:K.lookup f26=some ⟨oc26,od26,.func (PySem.W.fnOf "_law_most" "_law_most" (aj d9) (ag d9) (ad d9) .none kV26 dc26 pm26 an26 cd26 ct26),sl26⟩) (c26:PySem.W.codeIn K cd26 "_law_most" = true) (k26:PySem.W.keepIn K (.ref f26)=true)
  (a27:PySem.W.nsIn K mainGlobals "_law_sizes" = some (some (.ref f27))) (l27:K.lookup f27=some ⟨oc27,od27,.func (PySem.W.fnOf "_law_sizes" "_law_sizes" (aj cZ) (ag cZ) (ad cZ) .none kV27 dc27 pm27 an27 cd27 ct27),sl27⟩) (c27:PySem.W.codeIn K cd27 "_law_sizes" = true) (k27:PySem.W.keepIn K (.ref f27)=true)
  (a28:PySem.W.nsIn K mainGlobals "_law_worth" = some (some (.ref f28))) (l28:K.lookup f28=some ⟨oc28,od28,.func (PySem.W.fnOf "_law_worth" "_law_worth" (aj cU) (ag cU) (ad cU) .none kV28 dc28 pm28 an28 cd28 ct28),sl28⟩) (c28:PySem.W.codeIn K cd28 "_law_worth" = true) (k28:PySem.W.keepIn K (.ref f28)=true)
  (a29:PySem.W.nsIn K mainGlobals "find_in" = some (some (.ref f29))) (l29:K.lookup f29=some ⟨oc29,od29,.func (PySem.W.fnOf "find_in" "find_in" (aj fA) (ag fA) (ad fA) .none kV29 dc29 pm29 an29 cd29 ct29),sl29⟩) (c29:PySem.W.codeIn K cd29 "find_in" = true) (k29:PySem.W.keepIn K (.ref f29)=true)
  (a30:PySem.W.nsIn K mainGlobals "copied" = some (some (.ref f30))) (l30:K.lookup f30=some ⟨oc30,od30,.func (PySem.W.fnOf "copied" "copied" (aj ia) (ag ia) (ad ia) .none kV30 dc30 pm30 an30 cd30 ct30),sl30⟩) (c30:PySem.W.codeIn K cd30 "copied" = true) (k30:PySem.W.keepIn K (.ref f30)=true)
  (a31:PySem.W.nsIn K mainGlobals "find_done" = some (some (.ref f31))) (l31:K.lookup f31=some ⟨oc31,od31,.func (PySem.W.fnOf "find_done" "find_done" (aj d6) (ag d6) (ad d6) .none kV31 dc31 pm31 an31 cd31 ct31),sl31⟩) (c31:PySem.W.codeIn K cd31 "find_done" = true) (k31:PySem.W.keepIn K (.ref f31)=true)
  (a32:PySem.W.nsIn K mainGlobals "first_stays" = some (some (.ref f32))) (l32:K.lookup f32=some ⟨oc32,od32,.func (PySem.W.fnOf "first_stays" "first_stays" (aj cu) (ag cu) (ad cu) .none kV32 dc32 pm32 an32 cd32 ct32),sl32⟩) (c32:PySem.W.codeIn K cd32 "first_stays" = true) (k32:PySem.W.keepIn K (.ref f32)=true)
  (a33:PySem.W.nsIn K mainGlobals "mark_behind" = some (some (.ref f33))) (l33:K.lookup f33=some ⟨oc33,od33,.func (PySem.W.fnOf "mark_behind" "mark_behind" (aj cq) (ag cq) (ad cq) .none kV33 dc33 pm33 an33 cd33 ct33),sl33⟩) (c33:PySem.W.codeIn K cd33 "mark_behind" = true) (k33:PySem.W.keepIn K (.ref f33)=true)
  (a34:PySem.W.nsIn K mainGlobals "with_heads_joined" = some (some (.ref f34))) (l34:K.lookup f34=some ⟨oc34,od34,.func (PySem.W.fnOf "with_heads_joined" "with_heads_joined" (aj aH) (ag aH) (ad aH) .none kV34 dc34 pm34 an34 cd34 ct34),sl34⟩) (c34:PySem.W.codeIn K cd34 "with_heads_joined" = true) (k34:PySem.W.keepIn K (.ref f34)=true)
  (a35:PySem.W.nsIn K mainGlobals "join_done" = some (some (.ref f35))) (l35:K.lookup f35=some ⟨oc35,od35,.func (PySem.W.fnOf "join_done" "join_done" (aj dD) (ag dD) (ad dD) .none kV35 dc35 pm35 an35 cd35 ct35),sl35⟩) (c35:PySem.W.codeIn K cd35 "join_done" = true) (k35:PySem.W.keepIn K (.ref f35)=true)
  (a36:PySem.W.nsIn K mainGlobals "deed_done" = some (some (.ref f36))) (l36:K.lookup f36=some ⟨oc36,od36,.func (PySem.W.fnOf "deed_done" "deed_done" (aj dW) (ag dW) (ad dW) .none kV36 dc36 pm36 an36 cd36 ct36),sl36⟩) (c36:PySem.W.codeIn K cd36 "deed_done" = true) (k36:PySem.W.keepIn K (.ref f36)=true)
  (a37:PySem.W.nsIn K mainGlobals "is_thing" = some (some (.ref f37))) (l37:K.lookup f37=some ⟨oc37,od37,.func (PySem.W.fnOf "is_thing" "is_thing" (aj eK) (ag eK) (ad eK) .none kV37 dc37 pm37 an37 cd37 ct37),sl37⟩) (c37:PySem.W.codeIn K cd37 "is_thing" = true) (k37:PySem.W.keepIn K (.ref f37)=true)
  (a38:PySem.W.nsIn K mainGlobals "is_deed" = some (some (.ref f38))) (l38:K.lookup f38=some ⟨oc38,od38,.func (PySem.W.fnOf "is_deed" "is_deed" (aj ge) (ag ge) (ad ge) .none kV38 dc38 pm38 an38 cd38 ct38),sl38⟩) (c38:PySem.W.codeIn K cd38 "is_deed" = true) (k38:PySem.W.keepIn K (.ref f38)=true)
  (a39:PySem.W.nsIn K mainGlobals "done" = some (some (.ref f39))) (l39:K.lookup f39=some ⟨oc39,od39,.func (PySem.W.fnOf "done" "done" (aj kY) (ag kY) (ad kY) .none kV39 dc39 pm39 an39 cd39 ct39),sl39⟩) (c39:PySem.W.codeIn K cd39 "done" = true) (k39:PySem.W.keepIn K (.ref f39)=true)
  (a40:PySem.W.nsIn K mainGlobals "way_up" = some (some (.ref f40))) (l40:K.lookup f40=some ⟨oc40,od40,.func (PySem.W.fnOf "way_up" "way_up" (aj iq) (ag iq) (ad iq) .none kV40 dc40 pm40 an40 cd40 ct40),sl40⟩) (c40:PySem.W.codeIn K cd40 "way_up" = true) (k40:PySem.W.keepIn K (.ref f40)=true)
  (a41:PySem.W.nsIn K mainGlobals "lot_with" = some (some (.ref f41))) (l41:K.lookup f41=some ⟨oc41,od41,.func (PySem.W.fnOf "lot_with" "lot_with" (aj eX) (ag eX) (ad eX) .none kV41 dc41 pm41 an41 cd41 ct41),sl41⟩) (c41:PySem.W.codeIn K cd41 "lot_with" = true) (k41:PySem.W.keepIn K (.ref f41)=true)
  (a42:PySem.W.nsIn K mainGlobals "doublings" = some (some (.ref f42))) (l42:K.lookup f42=some ⟨oc42,od42,.func (PySem.W.fnOf "doublings" "doublings" (aj dR) (ag dR) (ad dR) .none kV42 dc42 pm42 an42 cd42 ct42),sl42⟩) (c42:PySem.W.codeIn K cd42 "doublings" = true) (k42:PySem.W.keepIn K (.ref f42)=true)
  (a43:PySem.W.nsIn K mainGlobals "most_of_find" = some (some (.ref f43))) (l43:K.lookup f43=some ⟨oc43,od43,.func (PySem.W.fnOf "most_of_find" "most_of_find" (aj bT) (ag bT) (ad bT) .none kV43 dc43 pm43 an43 cd43 ct43),sl43⟩) (c43:PySem.W.codeIn K cd43 "most_of_find" = true) (k43:PySem.W.keepIn K (.ref f43)=true)
  (a44:PySem.W.nsIn K mainGlobals "most_of_deed" = some (some (.ref f44))) (l44:K.lookup f44=some ⟨oc44,od44,.func (PySem.W.fnOf "most_of_deed" "most_of_deed" (aj bM) (ag bM) (ad bM) .none kV44 dc44 pm44 an44 cd44 ct44),sl44⟩) (c44:PySem.W.codeIn K cd44 "most_of_deed" = true) (k44:PySem.W.keepIn K (.ref f44)=true)
  (a45:PySem.W.nsIn K mainGlobals "sizes_in" = some (some (.ref f45))) (l45:K.lookup f45=some ⟨oc45,od45,.func (PySem.W.fnOf "sizes_in" "sizes_in" (aj eR) (ag eR) (ad eR) .none kV45 dc45 pm45 an45 cd45 ct45),sl45⟩) (c45:PySem.W.codeIn K cd45 "sizes_in" = true) (k45:PySem.W.keepIn K (.ref f45)=true)
  (a46:PySem.W.nsIn K mainGlobals "worth_in" = some (some (.ref f46))) (l46:K.lookup f46=some ⟨oc46,od46,.func (PySem.W.fnOf "worth_in" "worth_in" (aj eZ) (ag eZ) (ad eZ) .none kV46 dc46 pm46 an46 cd46 ct46),sl46⟩) (c46:PySem.W.codeIn K cd46 "worth_in" = true) (k46:PySem.W.keepIn K (.ref f46)=true)
  (a47:PySem.W.nsIn K mainGlobals "paid" = some (some (.ref f47))) (l47:K.lookup f47=some ⟨oc47,od47,.func (PySem.W.fnOf "paid" "paid" (aj kU) (ag kU) (ad kU) .none kV47 dc47 pm47 an47 cd47 ct47),sl47⟩) (c47:PySem.W.codeIn K cd47 "paid" = true) (k47:PySem.W.keepIn K (.ref f47)=true)
  (a48:PySem.W.nsIn K mainGlobals "law" = some (some (.ref f48))) (l48:K.lookup f48=some ⟨oc48,od48,.func (PySem.W.fnOf "law" "law" (aj kN) (ag kN) (ad kN) .none kV48 dc48 pm48 an48 cd48 ct48),sl48⟩) (c48:PySem.W.codeIn K cd48 "law" = true) (k48:PySem.W.keepIn K (.ref f48)=true)
  (z_abs:PySem.W.nsIn K mainGlobals "abs" = some none)
  (z_all:PySem.W.nsIn K mainGlobals "all" = some none)
  (z_any:PySem.W.nsIn K mainGlobals "any" = some none)
  (z_bool:PySem.W.nsIn K mainGlobals "bool" = some none)
  (z_enumerate:PySem.W.nsIn K mainGlobals "enumerate" = some none)
  (z_int:PySem.W.nsIn K mainGlobals "int" = some none)
  (z_isinstance:PySem.W.nsIn K mainGlobals "isinstance" = some none)
  (z_len:PySem.W.nsIn K mainGlobals "len" = some none)
  (z_list:PySem.W.nsIn K mainGlobals "list" = some none)
  (z_min:PySem.W.nsIn K mainGlobals "min" = some none)
  (z_range:PySem.W.nsIn K mainGlobals "range" = some none)
  (z_str:PySem.W.nsIn K mainGlobals "str" = some none)
  (z_sum:PySem.W.nsIn K mainGlobals "sum" = some none)
  (z_tuple:PySem.W.nsIn K mainGlobals "tuple" = some none)
  {tk_MOST_THINGS:Tok}
  (y_MOST_THINGS:PySem.W.nsIn K mainGlobals "MOST_THINGS" = some (some (.int 40 tk_MOST_THINGS)))
  {aM:Addr} {u0 u1 u2 u3 u4:Tok} (y_tab:PySem.W.nsIn K mainGlobals "MANNERS" = some (some (.ref aM)))
  (y_lay:K.lookup aM=some ⟨.type "dict",none,.dict #[⟨PyData.keyHash w.params "none",.str "none" u0,.ref f0⟩,⟨PyData.keyHash w.params "whole",.str "whole" u1,.ref f1⟩,⟨PyData.keyHash w.params "halves",.str "halves" u2,.ref f2⟩,⟨PyData.keyHash w.params "splits",.str "splits" u3,.ref f3⟩,⟨PyData.keyHash w.params "one",.str "one" u4,.ref f4⟩] 5,#[]⟩) (y_sys:(aM==sysModules)=false)
  {aK0:Addr} {oK0:Option Addr} {nK0:Nat} {sK0:Array (Option Value)} {tK0_0 tK0_1 tK0_2 tK0_3:Tok} (yk0:PySem.W.nsIn K mainGlobals "JOINS" = some (some (.ref aK0)))
  (lk0:K.lookup aK0=some ⟨.type "tuple",oK0,.seq #[.str "size" tK0_0,.str "rank" tK0_1,.str "told" tK0_2,.str "names" tK0_3] nK0,sK0⟩)
  {aK1:Addr} {tK1_0 vK1_0 tK1_1 vK1_1:Tok} (yk1:PySem.W.nsIn K mainGlobals "LENGTHS" = some (some (.ref aK1)))
  (lk1:K.lookup aK1=some ⟨.type "dict",none,.dict #[⟨PyData.keyHash w.params "find",.str "find" tK1_0,.int 2 vK1_0⟩,⟨PyData.keyHash w.params "join",.str "join" tK1_1,.int 3 vK1_1⟩] 2,#[]⟩) (sk1:(aK1==sysModules)=false)
  : ∃fd:FuncData,(∀(s:Shared) (u:Value),BindsTo s fd ⟨[u],[]⟩ [("_law_script",u)])/\∀base:Heap,K.In base/\base.Ns mainGlobals mg->FnOk l.prog w K mg base vX 9 fa fd ["_law_script"] (ra K):=by
 have T:Txt mg:=⟨PySem.W.mg_none_of X G z_abs,PySem.W.mg_none_of X G z_all,PySem.W.mg_none_of X G z_any,PySem.W.mg_none_of X G z_bool,PySem.W.mg_none_of X G z_enumerate,PySem.W.mg_none_of X G z_int,PySem.W.mg_none_of X G z_isinstance,PySem.W.mg_none_of X G z_len,PySem.W.mg_none_of X G z_list,PySem.W.mg_none_of X G z_min,PySem.W.mg_none_of X G z_range,PySem.W.mg_none_of X G z_str,PySem.W.mg_none_of X G z_sum,PySem.W.mg_none_of X G z_tuple,⟨_,PySem.W.mg_of X G y_MOST_THINGS⟩⟩
 have TM:Tabs w K mg aM [("none",f0),("whole",f1),("halves",f2),("splits",f3),("one",f4)]:=⟨PySem.W.mg_of X G y_tab,⟨y_sys,(show List.Nodup (["none","whole","halves","splits","one"]:List Str) by decide +kernel),_,_,y_lay,.cons (.cons (.cons (.cons (.cons (.nil)))))⟩⟩
 have TK:Kon w K mg:=⟨⟨aK0,PySem.W.mg_of X G yk0,Fa lk0 (.str (.str (.str (.str .nil)))) (show 4≤sizeLine by decide)⟩,⟨aK1,PySem.W.mg_of X G yk1,⟨sk1,(show List.Nodup (["find","join"]:List Str) by decide +kernel),_,_,_,lk1,.cons (.cons (.nil))⟩⟩⟩
 have F_find_none:FunD K mg "find_none" cK ["ups","x"]:=am l0 c0 k0 (PySem.W.mg_of X G a0) fun _ _ _ _ _ _ us hl=>iB hl fun _ _=>rfl
 have F_find_whole:FunD K mg "find_whole" cf ["ups","x"]:=am l1 c1 k1 (PySem.W.mg_of X G a1) fun _ _ _ _ _ _ us hl=>iB hl fun _ _=>rfl
 have F_find_halves:FunD K mg "find_halves" bJ ["ups","x"]:=am l2 c2 k2 (PySem.W.mg_of X G a2) fun _ _ _ _ _ _ us hl=>iB hl fun _ _=>rfl
 have F_find_splits:FunD K mg "find_splits" bK ["ups","x"]:=am l3 c3 k3 (PySem.W.mg_of X G a3) fun _ _ _ _ _ _ us hl=>iB hl fun _ _=>rfl
 have F_find_one:FunD K mg "find_one" d5 ["ups","x"]:=am l4 c4 k4 (PySem.W.mg_of X G a4) fun _ _ _ _ _ _ us hl=>iB hl fun _ _=>rfl
 have al:FunD K mg "_law_numbers" bQ ["_law_cell_here","_law_many_here"]:=am l5 c5 k5 (PySem.W.mg_of X G a5) fun _ _ _ _ _ _ us hl=>iB hl fun _ _=>rfl
 have cN:FunD K mg "_law_many" dY ["_law_x"]:=am l6 c6 k6 (PySem.W.mg_of X G a6) fun _ _ _ _ _ _ us hl=>jT hl fun _=>rfl
 have av:FunD K mg "_law_cell" dO ["_law_script","_law_k"]:=am l7 c7 k7 (PySem.W.mg_of X G a7) fun _ _ _ _ _ _ us hl=>iB hl fun _ _=>rfl
 have bq:FunD K mg "_law_started" bS ["_law_script","_law_at"]:=am l8 c8 k8 (PySem.W.mg_of X G a8) fun _ _ _ _ _ _ us hl=>iB hl fun _ _=>rfl
 have bN:FunD K mg "is_whole" eS ["thing"]:=am l9 c9 k9 (PySem.W.mg_of X G a9) fun _ _ _ _ _ _ us hl=>jT hl fun _=>rfl
 have eg:FunD K mg "is_many" fU ["thing"]:=am l10 c10 k10 (PySem.W.mg_of X G a10) fun _ _ _ _ _ _ us hl=>jT hl fun _=>rfl
 have cW:FunD K mg "check_many" cV ["many"]:=am l11 c11 k11 (PySem.W.mg_of X G a11) fun _ _ _ _ _ _ us hl=>jT hl fun _=>rfl
 have aC:FunD K mg "is_way_of_joining" aJ ["thing"]:=am l12 c12 k12 (PySem.W.mg_of X G a12) fun _ _ _ _ _ _ us hl=>jT hl fun _=>rfl
 have db:FunD K mg "check_join" cX ["join"]:=am l13 c13 k13 (PySem.W.mg_of X G a13) fun _ _ _ _ _ _ us hl=>jT hl fun _=>rfl
 have dI:FunD K mg "is_short" dz ["thing"]:=am l14 c14 k14 (PySem.W.mg_of X G a14) fun _ _ _ _ _ _ us hl=>jT hl fun _=>rfl
 have bI:FunD K mg "check_short" cs ["short"]:=am l15 c15 k15 (PySem.W.mg_of X G a15) fun _ _ _ _ _ _ us hl=>jT hl fun _=>rfl
 have cQ:FunD K mg "new_store" dB ["many","join","short"]:=am l16 c16 k16 (PySem.W.mg_of X G a16) fun _ _ _ _ _ _ us hl=>vY hl fun _ _ _=>rfl
 have b9:FunD K mg "_law_joins" da ["_law_script","_law_at","_law_many_here","_law_most_here"]:=am l17 c17 k17 (PySem.W.mg_of X G a17) fun _ _ _ _ _ _ us hl=>Ju hl fun _ _ _ _=>rfl
 have bD:FunD K mg "_law_deeds" cY ["_law_script","_law_at","_law_many_here","_law_most_here"]:=am l18 c18 k18 (PySem.W.mg_of X G a18) fun _ _ _ _ _ _ us hl=>Ju hl fun _ _ _ _=>rfl
 have aW:FunD K mg "_law_way" eO ["_law_ups","_law_x"]:=am l19 c19 k19 (PySem.W.mg_of X G a19) fun _ _ _ _ _ _ us hl=>iB hl fun _ _=>rfl
 have b8:FunD K mg "_law_find" dC ["_law_ups","_law_short","_law_x"]:=am l20 c20 k20 (PySem.W.mg_of X G a20) fun _ _ _ _ _ _ us hl=>vY hl fun _ _ _=>rfl
 have bH:FunD K mg "_law_linked" cr ["_law_join","_law_ups","_law_marks","_law_one","_law_other"]:=am l21 c21 k21 (PySem.W.mg_of X G a21) fun _ _ _ _ _ _ us hl=>Qy hl fun _ _ _ _ _=>rfl
 have cb:FunD K mg "_law_deed" dZ ["_law_store","_law_deed_here"]:=am l22 c22 k22 (PySem.W.mg_of X G a22) fun _ _ _ _ _ _ us hl=>iB hl fun _ _=>rfl
 have F__law_head:FunD K mg "_law_head" dG ["_law_ups","_law_x"]:=am l23 c23 k23 (PySem.W.mg_of X G a23) fun _ _ _ _ _ _ us hl=>iB hl fun _ _=>rfl
 have F__law_lot_size:FunD K mg "_law_lot_size" bv ["_law_ups","_law_x"]:=am l24 c24 k24 (PySem.W.mg_of X G a24) fun _ _ _ _ _ _ us hl=>iB hl fun _ _=>rfl
 have ax:FunD K mg "_law_doublings" bo ["_law_number"]:=am l25 c25 k25 (PySem.W.mg_of X G a25) fun _ _ _ _ _ _ us hl=>jT hl fun _=>rfl
 have F__law_most:FunD K mg "_law_most" d9 ["_law_store","_law_deed_here","_law_answer"]:=am l26 c26 k26 (PySem.W.mg_of X G a26) fun _ _ _ _ _ _ us hl=>vY hl fun _ _ _=>rfl
 have ce:FunD K mg "_law_sizes" cZ ["_law_ups"]:=am l27 c27 k27 (PySem.W.mg_of X G a27) fun _ _ _ _ _ _ us hl=>jT hl fun _=>rfl
 have F__law_worth:FunD K mg "_law_worth" cU ["_law_ups"]:=am l28 c28 k28 (PySem.W.mg_of X G a28) fun _ _ _ _ _ _ us hl=>jT hl fun _=>rfl
 have fj:FunD K mg "find_in" fA ["ups","short","x"]:=am l29 c29 k29 (PySem.W.mg_of X G a29) fun _ _ _ _ _ _ us hl=>vY hl fun _ _ _=>rfl
 have gK:FunD K mg "copied" ia ["numbers"]:=am l30 c30 k30 (PySem.W.mg_of X G a30) fun _ _ _ _ _ _ us hl=>jT hl fun _=>rfl
 have bd:FunD K mg "find_done" d6 ["store","x"]:=am l31 c31 k31 (PySem.W.mg_of X G a31) fun _ _ _ _ _ _ us hl=>iB hl fun _ _=>rfl
 have bG:FunD K mg "first_stays" cu ["join","marks","first","second"]:=am l32 c32 k32 (PySem.W.mg_of X G a32) fun _ _ _ _ _ _ us hl=>Ju hl fun _ _ _ _=>rfl
 have bF:FunD K mg "mark_behind" cq ["join","top","under"]:=am l33 c33 k33 (PySem.W.mg_of X G a33) fun _ _ _ _ _ _ us hl=>vY hl fun _ _ _=>rfl
 have aB:FunD K mg "with_heads_joined" aH ["store","first","second"]:=am l34 c34 k34 (PySem.W.mg_of X G a34) fun _ _ _ _ _ _ us hl=>vY hl fun _ _ _=>rfl
 have cO:FunD K mg "join_done" dD ["store","x","y"]:=am l35 c35 k35 (PySem.W.mg_of X G a35) fun _ _ _ _ _ _ us hl=>vY hl fun _ _ _=>rfl
 have cP:FunD K mg "deed_done" dW ["store","deed"]:=am l36 c36 k36 (PySem.W.mg_of X G a36) fun _ _ _ _ _ _ us hl=>iB hl fun _ _=>rfl
 have dN:FunD K mg "is_thing" eK ["many","thing"]:=am l37 c37 k37 (PySem.W.mg_of X G a37) fun _ _ _ _ _ _ us hl=>iB hl fun _ _=>rfl
 have fo:FunD K mg "is_deed" ge ["many","thing"]:=am l38 c38 k38 (PySem.W.mg_of X G a38) fun _ _ _ _ _ _ us hl=>iB hl fun _ _=>rfl
 have jr:FunD K mg "done" kY ["store","deed"]:=am l39 c39 k39 (PySem.W.mg_of X G a39) fun _ _ _ _ _ _ us hl=>iB hl fun _ _=>rfl
 have di:FunD K mg "way_up" iq ["ups","x"]:=am l40 c40 k40 (PySem.W.mg_of X G a40) fun _ _ _ _ _ _ us hl=>iB hl fun _ _=>rfl
 have bw:FunD K mg "lot_with" eX ["ups","x"]:=am l41 c41 k41 (PySem.W.mg_of X G a41) fun _ _ _ _ _ _ us hl=>iB hl fun _ _=>rfl
 have F_doublings:FunD K mg "doublings" dR ["number"]:=am l42 c42 k42 (PySem.W.mg_of X G a42) fun _ _ _ _ _ _ us hl=>jT hl fun _=>rfl
 have F_most_of_find:FunD K mg "most_of_find" bT ["ups","x"]:=am l43 c43 k43 (PySem.W.mg_of X G a43) fun _ _ _ _ _ _ us hl=>iB hl fun _ _=>rfl
 have F_most_of_deed:FunD K mg "most_of_deed" bM ["ups","deed"]:=am l44 c44 k44 (PySem.W.mg_of X G a44) fun _ _ _ _ _ _ us hl=>iB hl fun _ _=>rfl
 have dJ:FunD K mg "sizes_in" eR ["ups"]:=am l45 c45 k45 (PySem.W.mg_of X G a45) fun _ _ _ _ _ _ us hl=>jT hl fun _=>rfl
 have F_worth_in:FunD K mg "worth_in" eZ ["ups"]:=am l46 c46 k46 (PySem.W.mg_of X G a46) fun _ _ _ _ _ _ us hl=>jT hl fun _=>rfl
 have F_paid:FunD K mg "paid" kU ["store","deed"]:=am l47 c47 k47 (PySem.W.mg_of X G a47) fun _ _ _ _ _ _ us hl=>iB hl fun _ _=>rfl
 have F_law:FunD K mg "law" kN ["_law_script"]:=am l48 c48 k48 (PySem.W.mg_of X G a48) fun _ _ _ _ _ _ us hl=>jT hl fun _=>rfl
 refine FunD.top (R:=fun base=>K.In base/\base.Ns mainGlobals mg) F_law hfa DM (fun vs H Q E h=>by obtain⟨a,ns,rfl,_⟩:=h;rfl) fun base hb f cdv A outer s H vs Q E hr h=>?_
 have D_find_none:=O25.t7 (P:=l.prog) (w:=w) (base:=base) T F_find_none
 have D_find_whole:=O25.qw T F_find_whole D_find_none
 have D_find_halves:=O25.pD (P:=l.prog) (w:=w) (base:=base) T F_find_halves
 have D_find_splits:=O25.pr (P:=l.prog) (w:=w) (base:=base) T F_find_splits
 have D_find_one:=O25.vd T F_find_one D_find_none
 have D_L:=O25.vM (D_find_none.at (PySem.W.mg_of X G a0)) (D_find_whole.at (PySem.W.mg_of X G a1)) (D_find_halves.at (PySem.W.mg_of X G a2)) (D_find_splits.at (PySem.W.mg_of X G a3)) (D_find_one.at (PySem.W.mg_of X G a4))
 have D_find_in:=Dp.wT (O25.wJ (O25.ni _ _ _ _ _) (O25.wo (P:=l.prog) (w:=w) (base:=base) T TM fj D_L))
 have D_is_short:=Dp.uw (O25.vb (O25.ni _ _ _ _ _) (O25.ug (P:=l.prog) (w:=w) (base:=base) T TM dI))
 have D__law_numbers:=nL (P:=l.prog) (w:=w) (base:=base) T TK al
 have D__law_many:=sL (P:=l.prog) (w:=w) (base:=base) T TK cN
 have D__law_cell:=tj (P:=l.prog) (w:=w) (base:=base) T TK av
 have D__law_started:=nM (P:=l.prog) (w:=w) (base:=base) T TK bq D__law_numbers D__law_many D__law_cell
 have D_is_whole:=vN (P:=l.prog) (w:=w) (base:=base) T TK bN
 have D_is_many:=wW (P:=l.prog) (w:=w) (base:=base) T TK eg D_is_whole
 have D_check_many:=qi (P:=l.prog) (w:=w) (base:=base) T TK cW D_is_many
 have D_is_way_of_joining:=ka (P:=l.prog) (w:=w) (base:=base) T TK aC
 have D_check_join:=qd (P:=l.prog) (w:=w) (base:=base) T TK db D_is_way_of_joining
 have D_check_short:=pL (P:=l.prog) (w:=w) (base:=base) T TK bI D_is_short
 have D_new_store:=se (P:=l.prog) (w:=w) (base:=base) T TK cQ D_check_many D_check_join D_check_short
 have D__law_joins:=qu (P:=l.prog) (w:=w) (base:=base) T TK b9 D__law_numbers D__law_cell
 have D__law_deeds:=qq (P:=l.prog) (w:=w) (base:=base) T TK bD D__law_joins D__law_numbers D__law_cell
 have D__law_way:=uY (P:=l.prog) (w:=w) (base:=base) T TK aW
 have D__law_find:=tD (P:=l.prog) (w:=w) (base:=base) T TK b8 D__law_way
 have D__law_linked:=pV (P:=l.prog) (w:=w) (base:=base) T TK bH
 have D__law_deed:=tE (P:=l.prog) (w:=w) (base:=base) T TK cb D__law_find D__law_linked
 have D__law_head:=tS (P:=l.prog) (w:=w) (base:=base) T TK F__law_head D__law_way
 have D__law_lot_size:=mG (P:=l.prog) (w:=w) (base:=base) T TK F__law_lot_size D__law_head
 have D__law_doublings:=lW (P:=l.prog) (w:=w) (base:=base) T TK ax
 have D__law_most:=rW (P:=l.prog) (w:=w) (base:=base) T TK F__law_most D__law_lot_size D__law_doublings
 have D__law_sizes:=qg (P:=l.prog) (w:=w) (base:=base) T TK ce D__law_way
 have D__law_worth:=qp (P:=l.prog) (w:=w) (base:=base) T TK F__law_worth D__law_doublings D__law_sizes
 have D_copied:=Ax (P:=l.prog) (w:=w) (base:=base) T TK gK
 have D_find_done:=sD (P:=l.prog) (w:=w) (base:=base) T TK bd D_find_in D_copied
 have D_first_stays:=oB (P:=l.prog) (w:=w) (base:=base) T TK bG
 have D_mark_behind:=o8 (P:=l.prog) (w:=w) (base:=base) T TK bF
 have D_with_heads_joined:=kb (P:=l.prog) (w:=w) (base:=base) T TK aB D_first_stays D_mark_behind
 have D_join_done:=sG (P:=l.prog) (w:=w) (base:=base) T TK cO D_find_done D_with_heads_joined
 have D_deed_done:=sP (P:=l.prog) (w:=w) (base:=base) T TK cP D_join_done D_find_done
 have D_is_thing:=vK (P:=l.prog) (w:=w) (base:=base) T TK dN D_is_whole
 have D_is_deed:=wr (P:=l.prog) (w:=w) (base:=base) T TK fo D_is_thing
 have D_done:=FG (P:=l.prog) (w:=w) (base:=base) T TK jr D_deed_done D_is_deed
 have D_way_up:=Aa (P:=l.prog) (w:=w) (base:=base) T TK di
 have D_lot_with:=vQ (P:=l.prog) (w:=w) (base:=base) T TK bw D_way_up
 have D_doublings:=sN (P:=l.prog) (w:=w) (base:=base) T TK F_doublings
 have D_most_of_find:=nK (P:=l.prog) (w:=w) (base:=base) T TK F_most_of_find D_doublings D_lot_with
 have D_most_of_deed:=nE (P:=l.prog) (w:=w) (base:=base) T TK F_most_of_deed D_lot_with D_most_of_find D_doublings
 have D_sizes_in:=ux (P:=l.prog) (w:=w) (base:=base) T TK dJ D_way_up
 have D_worth_in:=uu (P:=l.prog) (w:=w) (base:=base) T TK F_worth_in D_doublings D_sizes_in
 have D_paid:=EQ (P:=l.prog) (w:=w) (base:=base) T TK F_paid D_done D_most_of_deed D_worth_in
 exact CW T TK hr h D__law_started D_new_store D__law_deeds D__law_deed D__law_most D__law_worth D_paid D__law_numbers D__law_cell
end K25
def PySem.W.Fast.tw14419188359907738949 : Unit := ()
def PySem.W.Fast.tw17664117239515473089 : Unit := ()
def PySem.W.Fast.tw13592594475550283115 : Unit := ()
def PySem.W.Fast.tw1167854042502388632 : Unit := ()
def PySem.W.Fast.tw16819423318578177084 : Unit := ()
def PySem.W.Fast.tw1898185150883275996 : Unit := ()
def PySem.W.Fast.tw13695314824570733092 : Unit := ()
def PySem.W.Fast.tw4165250987917935606 : Unit := ()
def PySem.W.Fast.tw9847390410675154490 : Unit := ()
def PySem.W.Fast.tw6977455129927520112 : Unit := ()
def PySem.W.Fast.tw1943777652237733705 : Unit := ()
def PySem.W.Fast.tw2435661288850272914 : Unit := ()
def PySem.W.Fast.tw13146004035159187864 : Unit := ()
def PySem.W.Fast.tw5712678543859577750 : Unit := ()
def PySem.W.Fast.tw8146824983443594121 : Unit := ()
def PySem.W.Fast.tw17747390188978376331 : Unit := ()
def PySem.W.Fast.tw10124948723135916639 : Unit := ()
def PySem.W.Fast.tw8306131824240670969 : Unit := ()
def PySem.W.Fast.tw10831299454604435984 : Unit := ()
def PySem.W.Fast.tw15263273825495654762 : Unit := ()
def PySem.W.Fast.tw8573993632425909 : Unit := ()
def PySem.W.Fast.tw15643700703665663476 : Unit := ()
def PySem.W.Fast.tw11791432218084003634 : Unit := ()
def PySem.W.Fast.tw116933905711603005 : Unit := ()
def PySem.W.Fast.tw1878056315914118385 : Unit := ()
def PySem.W.Fast.tw1541850040910495677 : Unit := ()
def PySem.W.Fast.tw2553425724908449192 : Unit := ()
def PySem.W.Fast.tw11189331229919910911 : Unit := ()
def PySem.W.Fast.tw10239411811382071521 : Unit := ()
def PySem.W.Fast.tw7810235323684268482 : Unit := ()
def PySem.W.Fast.tw8475044124133961571 : Unit := ()
def PySem.W.Fast.tw1533243591768104770 : Unit := ()
def PySem.W.Fast.tw18004251658553933144 : Unit := ()
def PySem.W.Fast.tw4432175362142403436 : Unit := ()
def PySem.W.Fast.tw17958799031913286172 : Unit := ()
def PySem.W.Fast.tw6727517911408664576 : Unit := ()
def PySem.W.Fast.tw13738472638949573282 : Unit := ()
def PySem.W.Fast.tw18083593409775238354 : Unit := ()
def PySem.W.Fast.tw2289595543419730484 : Unit := ()
def PySem.W.Fast.tw17349358927247818785 : Unit := ()
def PySem.W.Fast.tw549048834062932764 : Unit := ()
def PySem.W.Fast.tw5745626554023747506 : Unit := ()
def PySem.W.Fast.tw1130890149378429449 : Unit := ()
def PySem.W.Fast.tw16592452815918875483 : Unit := ()
def PySem.W.Fast.tw5924595401743904113 : Unit := ()
def PySem.W.Fast.tw153401827331327239 : Unit := ()
def PySem.W.Fast.tw13275702098083246271 : Unit := ()
def PySem.W.Fast.tw11636062692214839611 : Unit := ()
def PySem.W.Fast.tw10306719458928253324 : Unit := ()
def PySem.W.Fast.tw11150091965746959364 : Unit := ()
def PySem.W.Fast.tw4038262865417541961 : Unit := ()
def PySem.W.Fast.tw15075702692109487349 : Unit := ()
def PySem.W.Fast.tw5900807890970725717 : Unit := ()
def PySem.W.Fast.tw17543019571390036393 : Unit := ()
def PySem.W.Fast.tw5276467019517995215 : Unit := ()
def PySem.W.Fast.tw6328671825166962174 : Unit := ()
def PySem.W.Fast.tw4137262644424617450 : Unit := ()
def PySem.W.Fast.tw12282810761153393405 : Unit := ()
def PySem.W.Fast.tw8207052640596247625 : Unit := ()
def PySem.W.Fast.tw14570715806165568477 : Unit := ()
open PySem PySem.W PyProof.Rows
set_option maxRecDepth 100000 in
set_option maxHeartbeats 0 in
theorem PySem.Challenge.cw_lotheads_k25_deeds_paid_holds : PySem.Challenge.rw_lotheads_k25_deeds_paid.Holds := by
 w_on;o_law;k_head;(case hw=>w_witness2)
 k_fill
 refine Pu.QX (k:=9) (by decide) (l:=PySem.Challenge.rw_lotheads_k25_deeds_paid) rfl rfl (fun w h Y=>PySem.W.kIn_of Y) ?F
 case F=>
  intro w mg fa h KX G hmg
  refine' K25.LS KX G hmg ?a0 ?l0 ?c0 ?k0 ?a1 ?l1 ?c1 ?k1 ?a2 ?l2 ?c2 ?k2 ?a3 ?l3 ?c3 ?k3 ?a4 ?l4 ?c4 ?k4 ?a5 ?l5 ?c5 ?k5 ?a6 ?l6 ?c6 ?k6 ?a7 ?l7 ?c7 ?k7 ?a8 ?l8 ?c8 ?k8 ?a9 ?l9 ?c9 ?k9 ?a10 ?l10 ?c10 ?k10 ?a11 ?l11 ?c11 ?k11 ?a12 ?l12 ?c12 ?k12 ?a13 ?l13 ?c13 ?k13 ?a14 ?l14 ?c14 ?k14 ?a15 ?l15 ?c15 ?k15 ?a16 ?l16 ?c16 ?k16 ?a17 ?l17 ?c17 ?k17 ?a18 ?l18 ?c18 ?k18 ?a19 ?l19 ?c19 ?k19 ?a20 ?l20 ?c20 ?k20 ?a21 ?l21 ?c21 ?k21 ?a22 ?l22 ?c22 ?k22 ?a23 ?l23 ?c23 ?k23 ?a24 ?l24 ?c24 ?k24 ?a25 ?l25 ?c25 ?k25 ?a26 ?l26 ?c26 ?k26 ?a27 ?l27 ?c27 ?k27 ?a28 ?l28 ?c28 ?k28 ?a29 ?l29 ?c29 ?k29 ?a30 ?l30 ?c30 ?k30 ?a31 ?l31 ?c31 ?k31 ?a32 ?l32 ?c32 ?k32 ?a33 ?l33 ?c33 ?k33 ?a34 ?l34 ?c34 ?k34 ?a35 ?l35 ?c35 ?k35 ?a36 ?l36 ?c36 ?k36 ?a37 ?l37 ?c37 ?k37 ?a38 ?l38 ?c38 ?k38 ?a39 ?l39 ?c39 ?k39 ?a40 ?l40 ?c40 ?k40 ?a41 ?l41 ?c41 ?k41 ?a42 ?l42 ?c42 ?k42 ?a43 ?l43 ?c43 ?k43 ?a44 ?l44 ?c44 ?k44 ?a45 ?l45 ?c45 ?k45 ?a46 ?l46 ?c46 ?k46 ?a47 ?l47 ?c47 ?k47 ?a48 ?l48 ?c48 ?k48 ?z_abs ?z_all ?z_any ?z_bool ?z_enumerate ?z_int ?z_isinstance ?z_len ?z_list ?z_min ?z_range ?z_str ?z_sum ?z_tuple ?y_MOST_THINGS ?y_tab ?y_lay ?y_sys ?yk0 ?lk0 ?yk1 ?lk1 ?sk1
  (case a0=>k_is);(case l0=>k_is);(case c0=>k_is);(case k0=>k_is)
  (case a1=>k_is);(case l1=>k_is);(case c1=>k_is);(case k1=>k_is)
  (case a2=>k_is);(case l2=>k_is);(case c2=>k_is);(case k2=>k_is)
  (case a3=>k_is);(case l3=>k_is);(case c3=>k_is);(case k3=>k_is)
  (case a4=>k_is);(case l4=>k_is);(case c4=>k_is);(case k4=>k_is)
  (case a5=>k_is);(case l5=>k_is);(case c5=>k_is);(case k5=>k_is)
  (case a6=>k_is);(case l6=>k_is);(case c6=>k_is);(case k6=>k_is)
  (case a7=>k_is);(case l7=>k_is);(case c7=>k_is);(case k7=>k_is)
  (case a8=>k_is);(case l8=>k_is);(case c8=>k_is);(case k8=>k_is)
  (case a9=>k_is);(case l9=>k_is);(case c9=>k_is);(case k9=>k_is)
  (case a10=>k_is);(case l10=>k_is);(case c10=>k_is);(case k10=>k_is)
  (case a11=>k_is);(case l11=>k_is);(case c11=>k_is);(case k11=>k_is)
  (case a12=>k_is);(case l12=>k_is);(case c12=>k_is);(case k12=>k_is)
  (case a13=>k_is);(case l13=>k_is);(case c13=>k_is);(case k13=>k_is)
  (case a14=>k_is);(case l14=>k_is);(case c14=>k_is);(case k14=>k_is)
  (case a15=>k_is);(case l15=>k_is);(case c15=>k_is);(case k15=>k_is)
  (case a16=>k_is);(case l16=>k_is);(case c16=>k_is);(case k16=>k_is)
  (case a17=>k_is);(case l17=>k_is);(case c17=>k_is);(case k17=>k_is)
  (case a18=>k_is);(case l18=>k_is);(case c18=>k_is);(case k18=>k_is)
  (case a19=>k_is);(case l19=>k_is);(case c19=>k_is);(case k19=>k_is)
  (case a20=>k_is);(case l20=>k_is);(case c20=>k_is);(case k20=>k_is)
  (case a21=>k_is);(case l21=>k_is);(case c21=>k_is);(case k21=>k_is)
  (case a22=>k_is);(case l22=>k_is);(case c22=>k_is);(case k22=>k_is)
  (case a23=>k_is);(case l23=>k_is);(case c23=>k_is);(case k23=>k_is)
  (case a24=>k_is);(case l24=>k_is);(case c24=>k_is);(case k24=>k_is)
  (case a25=>k_is);(case l25=>k_is);(case c25=>k_is);(case k25=>k_is)
  (case a26=>k_is);(case l26=>k_is);(case c26=>k_is);(case k26=>k_is)
  (case a27=>k_is);(case l27=>k_is);(case c27=>k_is);(case k27=>k_is)
  (case a28=>k_is);(case l28=>k_is);(case c28=>k_is);(case k28=>k_is)
  (case a29=>k_is);(case l29=>k_is);(case c29=>k_is);(case k29=>k_is)
  (case a30=>k_is);(case l30=>k_is);(case c30=>k_is);(case k30=>k_is)
  (case a31=>k_is);(case l31=>k_is);(case c31=>k_is);(case k31=>k_is)
  (case a32=>k_is);(case l32=>k_is);(case c32=>k_is);(case k32=>k_is)
  (case a33=>k_is);(case l33=>k_is);(case c33=>k_is);(case k33=>k_is)
  (case a34=>k_is);(case l34=>k_is);(case c34=>k_is);(case k34=>k_is)
  (case a35=>k_is);(case l35=>k_is);(case c35=>k_is);(case k35=>k_is)
  (case a36=>k_is);(case l36=>k_is);(case c36=>k_is);(case k36=>k_is)
  (case a37=>k_is);(case l37=>k_is);(case c37=>k_is);(case k37=>k_is)
  (case a38=>k_is);(case l38=>k_is);(case c38=>k_is);(case k38=>k_is)
  (case a39=>k_is);(case l39=>k_is);(case c39=>k_is);(case k39=>k_is)
  (case a40=>k_is);(case l40=>k_is);(case c40=>k_is);(case k40=>k_is)
  (case a41=>k_is);(case l41=>k_is);(case c41=>k_is);(case k41=>k_is)
  (case a42=>k_is);(case l42=>k_is);(case c42=>k_is);(case k42=>k_is)
  (case a43=>k_is);(case l43=>k_is);(case c43=>k_is);(case k43=>k_is)
  (case a44=>k_is);(case l44=>k_is);(case c44=>k_is);(case k44=>k_is)
  (case a45=>k_is);(case l45=>k_is);(case c45=>k_is);(case k45=>k_is)
  (case a46=>k_is);(case l46=>k_is);(case c46=>k_is);(case k46=>k_is)
  (case a47=>k_is);(case l47=>k_is);(case c47=>k_is);(case k47=>k_is)
  (case a48=>k_is);(case l48=>k_is);(case c48=>k_is);(case k48=>k_is)
  (case z_abs=>k_is)
  (case z_all=>k_is)
  (case z_any=>k_is)
  (case z_bool=>k_is)
  (case z_enumerate=>k_is)
  (case z_int=>k_is)
  (case z_isinstance=>k_is)
  (case z_len=>k_is)
  (case z_list=>k_is)
  (case z_min=>k_is)
  (case z_range=>k_is)
  (case z_str=>k_is)
  (case z_sum=>k_is)
  (case z_tuple=>k_is)
  (case y_MOST_THINGS=>k_is)
  (case y_tab=>k_is)
  (case y_lay=>k_is)
  (case y_sys=>rfl)
  (case yk0=>k_is)
  (case lk0=>k_is)
  (case yk1=>k_is)
  (case lk1=>k_is)
  (case sk1=>rfl)
end
