import PyProof.Rows.All
import Wide.All
import OpenK.AllK
import Wide.FinOn
import Lean
import PyProof.EqAt
import PyProof.EqKinds
import PyProof.TupleCall
import PyProof.NeKinds
import KE.KSortTup
import PySem.Challenge.RW_lotheads_k17_whole_manners_beside_each_o
set_option Elab.async false
set_option linter.all false
set_option maxRecDepth 100000
namespace L2
open PySem PySem.Spec PyProof.Rows
noncomputable abbrev jD:=Sum Int Str
noncomputable def pV:jD->Value->Bool
 |.inl k,v=>Value.isInt k v
 |.inr x,v=>Value.isStrOf x v
noncomputable def LJ (w:World):jD->Int
 |.inl k=>hashInt k
 |.inr x=>hashStr w x
theorem cK:∀{k:jD} {v:Value},pV k v=true->(∃i t,k=Sum.inl i/\v=Value.int i t)\/(∃x t,k=Sum.inr x/\v=Value.str x t)
 |.inl i,v,h=>by
  obtain⟨t,e⟩:=Value.isInt_shape (k:=i) (v:=v) h
  exact .inl ⟨i,t,rfl,e⟩
 |.inr x,v,h=>by
  obtain⟨t,e⟩:=Value.isStrOf_shape (x:=x) (v:=v) h
  exact .inr ⟨x,t,rfl,e⟩
theorem xC (i:Int)(t:Tok):pV (.inl i) (.int i t)=true:=by simp[pV,Value.isInt]
theorem x4 (x:Str)(t:Tok):pV (.inr x) (.str x t)=true:=by simp[pV,Value.isStrOf]
theorem GT (a b:Int):decide ((Sum.inl a:jD)=Sum.inl b)=(a==b):=by
 by_cases e:a=b
 ·subst e;simp
 ·have h:¬(Sum.inl a:jD)=Sum.inl b:=fun q=>e (Sum.inl.inj q)
  rw[decide_eq_false h]
  exact (beq_eq_false_iff_ne.mpr e).symm
theorem Ff (a b:Str):decide ((Sum.inr a:jD)=Sum.inr b)=decide (a=b):=by
 by_cases e:a=b
 ·subst e;simp
 ·have h:¬(Sum.inr a:jD)=Sum.inr b:=fun q=>e (Sum.inr.inj q)
  rw[decide_eq_false h,decide_eq_false e]
theorem FD (a:Int)(b:Str):decide ((Sum.inl a:jD)=Sum.inr b)=false:=decide_eq_false (fun q=>nomatch q)
theorem G4 (a:Str)(b:Int):decide ((Sum.inr a:jD)=Sum.inl b)=false:=decide_eq_false (fun q=>nomatch q)
noncomputable def dX (prog:Program)(w:World):PySem.KeyKind prog w jD where
 is:=pV
 hash:=LJ w
 inj:=fun v a b ha hb=>by
  rcases cK ha with ⟨i,t,rfl,rfl⟩|⟨x,t,rfl,rfl⟩
  ·rcases cK hb with ⟨j,u,rfl,e⟩|⟨y,u,rfl,e⟩
   ·injection e with e1 _;rw[e1]
   ·exact nomatch e
  ·rcases cK hb with ⟨j,u,rfl,e⟩|⟨y,u,rfl,e⟩
   ·exact nomatch e
   ·injection e with e1 _;rw[e1]
 byValue:=fun k v h=>by
  rcases cK h with ⟨i,t,rfl,rfl⟩|⟨x,t,rfl,rfl⟩<;>rfl
 pyHash:=fun hv h=>by
  rcases cK hv with ⟨i,t,rfl,rfl⟩|⟨x,t,rfl,rfl⟩
  ·exact wpAny_pyHash_int h
  ·exact wpAny_pyHash_str h
 eqBool:=fun hu hv h=>by
  rcases cK hu with ⟨i,t,rfl,rfl⟩|⟨x,t,rfl,rfl⟩
  ·rcases cK hv with ⟨j,u,rfl,rfl⟩|⟨y,u,rfl,rfl⟩
   ·rw[GT] at h;exact wpAny_eqBool_int h
   ·rw[FD] at h;exact SeqAt.EqAt.int_str i t y u _ _ _ _ h
  ·rcases cK hv with ⟨j,u,rfl,rfl⟩|⟨y,u,rfl,rfl⟩
   ·rw[G4] at h;exact SeqAt.EqAt.str_int x t j u _ _ _ _ h
   ·rw[Ff] at h;exact wpAny_eqBool_str h
 «strs»:=fun k x t v h=>by
  rcases cK h with ⟨i,u,rfl,e⟩|⟨y,u,rfl,e⟩
  ·exact nomatch e
  ·injection e with e1 _
   subst e1
   cases v<;>rfl
theorem sO (prog:Program)(w:World)(i:Int)(t:Tok):(dX prog w).is (.inl i) (.int i t)=true:=xC i t
theorem gW (prog:Program)(w:World)(x:Str)(t:Tok):(dX prog w).is (.inr x) (.str x t)=true:=x4 x t
end L2
namespace L2
open PySem PySem.Spec PyProof.Rows
inductive V where
 |non|bl (b:Bool)|int (i:Int)|str (x:Str)|byt (b:Array UInt8)|flt (b:UInt64)|ref (a:Addr)|ty (n:String)
 deriving DecidableEq
noncomputable def RelV:V->Value->Prop
 |.non,u=>u=Value.none
 |.bl b,u=>u=Value.bool b
 |.int i,u=>∃t,u=Value.int i t
 |.str x,u=>∃t,u=Value.str x t
 |.byt b,u=>∃t,u=Value.bytes b t
 |.flt b,u=>∃t,u=Value.float b t
 |.ref a,u=>u=Value.ref a
 |.ty n,u=>u=Value.type n
noncomputable abbrev Vals:List V->List Value->Prop:=Paired RelV
theorem Vals.length {xs:List V}{us:List Value}(r:Vals xs us):xs.length=us.length:=Paired.length r
theorem Vals.get:∀{xs:List V} {us:List Value} {i:Nat} {x:V},Vals xs us->xs[i]?=some x->∃u,us[i]?=some u/\RelV x u
 |_,_,_,_,.nil,e=>by simp at e
 |_,_,0,_,.cons r _,e=>by simp at e;subst e;exact⟨_,rfl,r⟩
 |_,_,i+1,x,.cons _ t,e=>by
  obtain⟨u,h1,h2⟩:=Vals.get (i:=i) (x:=x) t (by simpa using e)
  exact⟨u,by simpa using h1,h2⟩
theorem Vals.set {x:V}{u:Value}(r:RelV x u):∀{xs:List V} {us:List Value} (i:Nat),Vals xs us->Vals (xs.set i x) (us.set i u)
 |_,_,_,.nil=>.nil
 |_,_,0,.cons _ t=>.cons r t
 |_,_,i+1,.cons q t=>.cons q (Vals.set r i t)
theorem Vals.append:∀{xs ys:List V} {us ws:List Value},Vals xs us->Vals ys ws->Vals (xs++ys) (us++ws)
 |_,_,_,_,.nil,s=>s
 |_,_,_,_,.cons r t,s=>.cons r (Vals.append t s)
theorem Vals.take:∀{xs:List V} {us:List Value} (n:Nat),Vals xs us->Vals (xs.take n) (us.take n)
 |_,_,0,_=>.nil
 |_,_,_+1,.nil=>.nil
 |_,_,n+1,.cons r t=>.cons r (Vals.take n t)
theorem Vals.drop:∀{xs:List V} {us:List Value} (n:Nat),Vals xs us->Vals (xs.drop n) (us.drop n)
 |_,_,0,r=>r
 |_,_,_+1,.nil=>.nil
 |_,_,n+1,.cons _ t=>Vals.drop n t
noncomputable def Hg:Option V->Option Value->Prop
 |some v,some u=>RelV v u
 |none,none=>True
 |_,_=>False
noncomputable def KV {κ:Type}:List (κ×V)->List (κ×Value)->Prop:=Paired fun (p:κ×V) (q:κ×Value)=>p.1=q.1/\RelV p.2 q.2
noncomputable def kV:jD->V
 |.inl i=>.int i
 |.inr x=>.str x
inductive HO where
 |lst (xs:List V)
 |tup (xs:List V)
 |dK (kvs:List (jD×V))|dT (kvs:List (List jD×V))
 |set (S:Int->Bool) (n:Nat)
 |ins (C dx:Addr) (fs:List (Str×V))
 |own (x:Addr)
 |xd (fs:List (Str×V))
 |met (f x:Addr)
 |rng (lo hi:Int)
 |frz (o:Obj) (u:HO)
 |tbl (ps:Array Value)
 |ext (φ:Heap->Prop)
noncomputable abbrev Hp:=Addr->Option HO
noncomputable def upd (H:Hp)(a:Addr)(o:HO):Hp:=fun b=>if b=a then some o else H b
theorem aw {H:Hp}{a:Addr}{o:HO}:upd H a o a=some o:=by unfold upd;rw[if_pos rfl]
theorem aC {H:Hp}{a b:Addr}{o:HO}(h:b≠a):upd H a o b=H b:=by unfold upd;rw[if_neg h]
theorem bf {H:Hp}{a b:Addr}{o:HO}(h:H a=some o)(h':H b=none):a≠b:=by
 intro e;subst e;rw[h] at h';cases h'
section
variable (P:Program)(w:World)
noncomputable def ObjOk (H:Hp)(h:Heap)(a:Addr):HO->Prop
 |.lst xs=>xs.length≤sizeLine/\∃(its:List Value) (n:Nat),Vals xs its/\h.get? a=some { cls:=.type "list",data:=.seq its.toArray n }
 |.tup xs=>xs.length≤sizeLine/\∃its:List Value,Vals xs its/\IsTup h a its.toArray
 |.dK kvs=>kvs.length≤sizeLine/\(a==sysModules)=false/\∃vs,KV kvs vs/\h.DictOf (dX P w) a vs
 |.dT kvs=>kvs.length≤sizeLine/\(a==sysModules)=false/\∃xs:List (List jD×Addr×Value),
   Paired (fun (p:List jD×V) (q:List jD×Addr×Value)=>p.1=q.1/\H q.2.1=some (.tup (p.1.map kV))/\RelV p.2 q.2.2) kvs xs ∧
   ∃o es ep,h.get? a=some o/\o.ExactDict/\o.data=.dict es ep/\es.toList=xs.map (entryOfKey (tupleKind (dX P w)))/\(xs.map (·.1)).Nodup
 |.set S n=>h.SetOf (intKind P w) a S n
 |.ins C dx fs=>H dx=some (.own a)/\fs.length≤1000/\dx≠a/\h.get? a=some (PySem.W.instObj C dx) ∧
   ∃mA,h.Ns1 dx mA/\(∀f,Hg (fs.lookup f) (mA f))/\PySem.Within mA (fs.map (·.1))
 |.own _=>∃o,h.get? a=some o
 |.xd fs=>∃mA,h.Ns1 a mA/\∀f,Hg (fs.lookup f) (mA f)
 |.rng lo hi=>∃t u v,h.get? a=some { cls:=.type "range",data:=.fields #[.int lo t,.int hi u,.int 1 v] }
 |.frz o u=>h.get? a=some o/\ObjOk H h a u
 |.tbl ps=>h.get? a=some { cls:=.none,data:=.fields ps }
 |.met f x=>h.get? a=some (PySem.W.methodObj (.ref f) (.ref x))
 |.ext φ=>φ h/\(∃o,h.get? a=some o)/\∀h1 h2:Heap,φ h1->(∀o,h1.get? a=some o->h2.get? a=some o)->φ h2
noncomputable def HOk (H:Hp)(h:Heap):Prop:=∀a o,H a=some o->ObjOk P w H h a o
end
section
variable {P:Program}{w:World}{H H':Hp}{h h':Heap}{a:Addr}{o:HO}
theorem ObjOk.lt (x:ObjOk P w H h a o):a<h.objs.size:=by
 cases o with
 |lst xs=>obtain⟨_,_,_,_,e⟩:=x;exact Heap.lt_size e
 |tup xs=>obtain⟨_,_,_,p⟩:=x;exact p.lt
 |dK kvs=>obtain⟨_,_,_,_,o,_,_,e,_⟩:=x;exact Heap.lt_size e
 |dT kvs=>obtain⟨_,_,_,_,o,_,_,e,_⟩:=x;exact Heap.lt_size e
 |set S n=>obtain⟨o,_,_,_,e,_⟩:=x;exact Heap.lt_size e
 |ins C dx fs=>obtain⟨_,_,_,e,_⟩:=x;exact Heap.lt_size e
 |own y=>obtain⟨_,e⟩:=x;exact Heap.lt_size e
 |xd fs=>obtain⟨_,⟨_,_,_,e,_⟩,_⟩:=x;exact Heap.lt_size e
 |rng lo hi=>obtain⟨_,_,_,e⟩:=x;exact Heap.lt_size e
 |frz ob u=>obtain⟨e,_⟩:=x;exact Heap.lt_size e
 |tbl ps=>exact Heap.lt_size (show h.get? a=some _ from x)
 |met f y=>exact Heap.lt_size (show h.get? a=some _ from x)
 |ext φ=>obtain⟨_,⟨_,e⟩,_⟩:=x;exact Heap.lt_size e
theorem Paired.mapP {α β:Type}{F G:α->β->Prop}:∀{l₁:List α} {l₂:List β},Paired F l₁ l₂->(∀a b,F a b->G a b)->Paired G l₁ l₂
 |_,_,.nil,_=>.nil
 |_,_,.cons r t,f=>.cons (f _ _ r) (Paired.mapP t f)
theorem ObjOk.stay (x:ObjOk P w H h a o)(k:∀b u,(b=a\/H b=some (.own a))->h.get? b=some u->h'.get? b=some u)
  (ho:∀b,H b=some (.own a)->H' b=some (.own a)) (ht:∀b xs,H b=some (.tup xs)->H' b=some (.tup xs)):ObjOk P w H' h' a o:=by
 induction o with
 |lst xs=>obtain⟨z,its,n,r,e⟩:=x;exact⟨z,its,n,r,k _ _ (.inl rfl) e⟩
 |tup xs=>obtain⟨z,its,r,ob,e,c⟩:=x;exact⟨z,its,r,ob,k _ _ (.inl rfl) e,c⟩
 |dK kvs=>obtain⟨z,y,vs,r,ob,es,ep,e,c⟩:=x;exact⟨z,y,vs,r,ob,es,ep,k _ _ (.inl rfl) e,c⟩
 |dT kvs=>
  obtain⟨z,y,xs,r,ob,es,ep,e,c⟩:=x
  exact⟨z,y,xs,Paired.mapP r fun p q z=>⟨z.1,ht _ _ z.2.1,z.2.2⟩,ob,es,ep,k _ _ (.inl rfl) e,c⟩
 |set S n=>obtain⟨ob,es,ep,t,e,c⟩:=x;exact⟨ob,es,ep,t,k _ _ (.inl rfl) e,c⟩
 |ins C dx fs=>
  obtain⟨d,z,ne,e,mA,⟨od,es,ep,e2,c⟩,r⟩:=x
  exact⟨ho _ d,z,ne,k _ _ (.inl rfl) e,mA,⟨od,es,ep,k _ _ (.inr d) e2,c⟩,r⟩
 |own y=>obtain⟨ob,e⟩:=x;exact⟨ob,k _ _ (.inl rfl) e⟩
 |xd fs=>obtain⟨mA,⟨od,es,ep,e,c⟩,r⟩:=x;exact⟨mA,⟨od,es,ep,k _ _ (.inl rfl) e,c⟩,r⟩
 |rng lo hi=>obtain⟨t,u,v,e⟩:=x;exact⟨t,u,v,k _ _ (.inl rfl) e⟩
 |frz ob u ih=>obtain⟨e,q⟩:=x;exact⟨k _ _ (.inl rfl) e,ih q⟩
 |tbl ps=>
  have e:h.get? a=some { cls:=.none,data:=.fields ps }:=x
  show h'.get? a=some { cls:=.none,data:=.fields ps }
  exact k a _ (.inl rfl) e
 |met f y=>
  have e:h.get? a=some (PySem.W.methodObj (.ref f) (.ref y)):=x
  show h'.get? a=some (PySem.W.methodObj (.ref f) (.ref y))
  exact k a _ (.inl rfl) e
 |ext φ=>obtain⟨p,⟨o,e⟩,st⟩:=x;exact⟨st _ _ p fun o q=>k _ _ (.inl rfl) q,⟨o,k _ _ (.inl rfl) e⟩,st⟩
theorem HOk.lt (x:HOk P w H h)(e:H a=some o):a<h.objs.size:=(x a o e).lt
theorem HOk.fresh (x:HOk P w H h)(e:h.objs.size≤a):H a=none:=by
 cases q:H a with
 |none=>rfl
 |some u=>exact absurd (Nat.lt_of_lt_of_le (x.lt q) e) (Nat.lt_irrefl _)
theorem HOk.kept (x:HOk P w H h)(k:∀b u,h.get? b=some u->h'.get? b=some u):HOk P w H h':=fun a o e=>
 (x a o e).stay (fun b u _ q=>k b u q) (fun _ q=>q) fun _ _ q=>q
theorem HOk.laid (x:HOk P w H h)(k:∀b u,h.get? b=some u->h'.get? b=some u)(hp:h.objs.size≤a)(new:ObjOk P w (upd H a o) h' a o):HOk P w (upd H a o) h':=fun b u e=>by
 have hn:=x.fresh hp
 by_cases hb:b=a
 ·subst hb;rw[aw] at e;cases e;exact new
 ·rw[aC hb] at e
  exact (x b u e).stay (fun c v _ q=>k c v q) (fun c q=>by rw[aC (bf q hn)];exact q) fun c xs q=>by rw[aC (bf q hn)];exact q
end
noncomputable def Rd (H:Hp)(a:Addr)(u:HO):Prop:=H a=some u\/∃o,H a=some (.frz o u)
theorem Rd.ok {P:Program}{w:World}{H:Hp}{h:Heap}{a:Addr}{u:HO}(r:Rd H a u)(x:HOk P w H h):ObjOk P w H h a u:=by
 rcases r with r|⟨o,r⟩
 ·exact x a u r
 ·obtain⟨_,q⟩:=x a _ r
  exact q
noncomputable def KG:Option HO->Prop
 |some (.lst _)=>True
 |some (.dK _)=>True
 |some (.dT _)=>True
 |some (.set _ _)=>True
 |some (.ins _ _ _)=>True
 |some (.ext _)=>True
 |_=>False
section
variable {P:Program}{w:World}{H:Hp}{h h':Heap}{x e:Addr}{o':HO}
theorem HOk.write (ok:HOk P w H h)(mu:KG (H x))(he:e=x\/H e=some (.own x))(k:∀b u,b≠e->h.get? b=some u->h'.get? b=some u)(heo:∃u,h'.get? e=some u)
  (new:ObjOk P w (upd H x o') h' x o'):HOk P w (upd H x o') h':=fun b u q=>by
 have nown:∀c y,H c=some (.own y)->c≠x:=fun c y r z=>by subst z;rw[r] at mu;exact mu
 have ntup:∀c xs,H c=some (.tup xs)->c≠x:=fun c xs r z=>by subst z;rw[r] at mu;exact mu
 by_cases hb:b=x
 ·subst hb;rw[aw] at q;cases q;exact new
 ·rw[aC hb] at q
  by_cases hbe:b=e
  ·have q':H b=some (.own x):=by
    rcases he with z|z
    ·exact absurd (hbe.trans z) hb
    ·rw[hbe];exact z
   rw[q] at q';cases q'
   obtain⟨v,hv⟩:=heo
   exact⟨v,by rw[hbe];exact hv⟩
  ·refine (ok b u q).stay (fun c v hc r=>k c v ?_ r) (fun c r=>by rw[aC (nown c b r)];exact r) fun c xs r=>by rw[aC (ntup c xs r)];exact r
   rcases hc with rfl|hc
   ·exact hbe
   ·rintro rfl
    rcases he with z|z
    ·exact nown c b hc z
    ·rw[hc] at z;cases z;exact hb rfl
end
structure Un (fs ex:List Addr)(H H':Hp)(h h':Heap):Prop where
 keep:∀b o,h.get? b=some o->H b=none->b∉fs->b∉ex->h'.get? b=some o
 slot:∀b o,h.get? b=some o->H b=none->b∈fs->b∉ex->∃sl,h'.get? b=some { o with slots:=sl }
 free:∀b o,h.get? b=some o->H b=none->b∉ex->H' b=none
 there:∀b o,h.get? b=some o->b∉ex->∃o',h'.get? b=some o'
 tups:∀b xs,H b=some (.tup xs)->H' b=some (.tup xs)
 frzs:∀b o u,H b=some (.frz o u)->H' b=some (.frz o u)
 tbls:∀b ps,H b=some (.tbl ps)->∃more,H' b=some (.tbl (ps++more))
section
variable {fs fs' ex ex':List Addr}{H H1 H2:Hp}{h h1 h2 h':Heap}{a x e:Addr}{o:HO}
theorem Un.any (u:Un fs ex H H1 h h1){b:Addr}{ob:Obj}(q:h.get? b=some ob)(n:H b=none)(hx:b∉ex):∃sl,h1.get? b=some { ob with slots:=sl }:=by
 by_cases hb:b∈fs
 ·exact u.slot b ob q n hb hx
 ·exact⟨ob.slots,u.keep b ob q n hb hx⟩
theorem Un.kept (k:∀b u,h.get? b=some u->h'.get? b=some u):Un fs ex H H h h':=
 ⟨fun b ob q _ _ _=>k b ob q,fun b ob q _ _ _=>⟨ob.slots,k b ob q⟩,fun _ _ _ n _=>n,fun b ob q _=>⟨ob,k b ob q⟩,fun _ _ q=>q,fun _ _ _ q=>q,fun _ ps q=>⟨#[],by rw[q];simp⟩⟩
theorem Un.refl:Un fs ex H H h h:=Un.kept fun _ _ q=>q
theorem Un.laid (k:∀b u,h.get? b=some u->h'.get? b=some u)(hp:h.objs.size≤a)(hn:H a=none):Un fs ex H (upd H a o) h h' where
 keep:=fun b u q _ _ _=>k b u q
 slot:=fun b u q _ _ _=>⟨u.slots,k b u q⟩
 free:=fun b u q n _=>by rw[aC (Nat.ne_of_lt (Nat.lt_of_lt_of_le (Heap.lt_size q) hp))];exact n
 there:=fun b u q _=>⟨u,k b u q⟩
 tups:=fun b xs q=>by rw[aC (bf q hn)];exact q
 frzs:=fun b u xs q=>by rw[aC (bf q hn)];exact q
 tbls:=fun b ps q=>⟨#[],by rw[aC (bf q hn),q];simp⟩
theorem Un.write (mu:KG (H x))(he:e=x\/H e=some (.own x))(k:∀b u,b≠e->h.get? b=some u->h'.get? b=some u)(heo:∃u,h'.get? e=some u):Un fs ex H (upd H x o) h h':=by
 have hx:∀b,H b=none->b≠x:=fun b n z=>by subst z;rw[n] at mu;exact mu
 have hb:∀b,H b=none->b≠e:=fun b n z=>by
  subst z
  rcases he with r|r
  ·exact hx b n r
  ·rw[n] at r;cases r
 have hm:∀b u,H b=some u->¬KG (some u)->b≠x:=fun b u q nm z=>by subst z;rw[q] at mu;exact nm mu
 refine⟨fun b u q n _ _=>k b u (hb b n) q,fun b u q n _ _=>⟨u.slots,k b u (hb b n) q⟩,fun b u q n _=>by rw[aC (hx b n)];exact n,fun b u q _=>?_,
  fun b xs q=>by rw[aC (hm b _ q fun z=>z)];exact q,fun b u xs q=>by rw[aC (hm b _ q fun z=>z)];exact q,fun b ps q=>⟨#[],by rw[aC (hm b _ q fun z=>z),q];simp⟩⟩
 by_cases hbe:b=e
 ·subst hbe;exact heo
 ·exact⟨u,k b u hbe q⟩
end
noncomputable def KK (h:Heap)(H:Hp):List Addr:=(List.range h.objs.size).filter fun a=>(H a).isSome
noncomputable def rF (h:Heap)(H:Hp):Heap:=PySem.W.hideAll h (KK h H)
theorem xq (h:Heap)(H:Hp):(rF h H).objs.size=h.objs.size:=PySem.W.hideAll_size _ _
theorem yJ {h:Heap}{H:Hp}{b:Addr}{o:Obj}(e:h.get? b=some o)(n:H b=none):(rF h H).get? b=some o:=
 PySem.W.hideAll_get _ e fun hm=>by
  have q:(H b).isSome=true:=(List.mem_filter.mp hm).2
  rw[n] at q;simp at q
theorem Bu {h:Heap}{H:Hp}{b:Addr}{o:Obj}(e:(rF h H).get? b=some o):h.get? b=some o/\H b=none:=by
 have e':h.get? b=some o:=PySem.W.of_hideAll (KK h H) e
 refine⟨e',?_⟩
 cases q:H b with
 |none=>rfl
 |some x=>
  have hm:b∈KK h H:=List.mem_filter.mpr ⟨List.mem_range.mpr (Heap.lt_size e'),by simp[q]⟩
  have z:(rF h H).get? b=none:=PySem.W.hideAll_none (KK h H) hm
  rw[z] at e;cases e
noncomputable def lK (g h:Heap)(L:Addr):List (Addr×Obj):=(List.range h.objs.size).filterMap fun a=>if a=L\/(g.get? a).isSome=true then none else (h.get? a).map fun o=>(a,o)
theorem j2 {g h:Heap}{L a:Addr}{o:Obj}(h1:a≠L)(h2:g.get? a=none)(h3:h.get? a=some o):(a,o)∈lK g h L:=
 List.mem_filterMap.mpr ⟨a,List.mem_range.mpr (Heap.lt_size h3),by simp[h1,h2,h3]⟩
theorem nW {g h:Heap}{L:Addr}{p:Addr×Obj}(hp:p∈lK g h L):p.1≠L/\g.get? p.1=none/\h.get? p.1=some p.2:=by
 obtain⟨b,_,e⟩:=List.mem_filterMap.mp hp
 split at e
 ·cases e
 ·rename_i hn
  cases q:h.get? b with
  |none=>rw[q] at e;simp at e
  |some u=>
   rw[q] at e
   simp only[Option.map_some,Option.some.injEq] at e
   subst e
   refine⟨fun z=>hn (.inl z),?_,q⟩
   show g.get? b=none
   cases r:g.get? b with
   |none=>rfl
   |some v=>exact (hn (.inr (by simp[r]))).elim
noncomputable def cU (g h:Heap)(L d:Addr):List (Addr×Obj):=(lK g h L).filter fun p=>decide (p.1≠d)
theorem zC {g h:Heap}{L:Addr}:News g L h (lK g h L):=fun p hp=>let ⟨a,b,c⟩:=nW hp;⟨c,a,b⟩
end L2
namespace L2
open PySem PySem.Spec PyProof.Rows
structure Mod (K:PySem.W.Frag)(mg:Str->Option Value)(base:Heap):Prop where
 kin:K.In base
 glob:base.Ns mainGlobals mg
 blt:∃mb,base.Ns builtinsNs mb/\∀x:Str,x ≠ "__name__"->mb x=bootBuiltins x
 nolimit:base.NoLimit
structure Cx where
 prog:Program
 w:World
 K:PySem.W.Frag
 mg:Str->Option Value
 base:Heap
 A:Around
 N:List Str
 s₀:Shared
 H₀:Hp
 env:Env
 outer:List Env
 stack:List Env
 ex:List Addr
 fn:Str->Bool
 calm:Bool
 pn:List (Addr×Obj)
 xe:Value->Shared->Prop
noncomputable def uv (l:List Env):List Addr:=l.filterMap (·.frame)
noncomputable abbrev Cx.fs (X:Cx):List Addr:=uv X.outer
noncomputable def Ii (sc:Scope)(x:Str):Prop:=sc.names.lookup x=some .local\/sc.names.lookup x=some .cell\/sc.names.lookup x=some .free
noncomputable def Ih (sc:Scope)(x:Str):Prop:=sc.names.lookup x=some .local\/sc.names.lookup x=some .cell
noncomputable def Li (env:Env)(h:Heap)(m:Str->Option Value)(x:Str)(u:Value):Prop:=
 (env.kindOf x=some .local/\m x=some u)\/((env.kindOf x=some .cell\/env.kindOf x=some .free)/\∃c,env.cells.lookup x=some c/\h.IsCell c (some u))
structure Cx.Ok (X:Cx):Prop where
 mod:Mod X.K X.mg X.base
 kind:X.env.scope.kind=.function
 glob:X.env.globals=mainGlobals
 blt:X.env.builtins=builtinsNs
 above:X.s₀.heap.objs.size≤X.env.locals
 inj:∀x y c,X.env.cells.lookup x=some c->X.env.cells.lookup y=some c->x=y
 has:∀x,(X.env.kindOf x=some .cell\/X.env.kindOf x=some .free)->∃c,X.env.cells.lookup x=some c
 cab:∀x c,X.fn x=true->X.env.cells.lookup x=some c->X.s₀.heap.objs.size≤c
 hd:X.calm=true->X.A.handled=none
 frames:X.A.frames=some X.stack
 stk:X.stack=X.outer\/(X.stack=X.env::X.outer/\X.env.frame=some X.env.locals)
 exf:∀b∈X.ex,b≠X.env.locals/\∀x c,X.env.cells.lookup x=some c->c≠b
 bs:∀b o,X.base.get? b=some o->X.s₀.heap.get? b=some o/\X.H₀ b=none
 bsz:X.base.objs.size≤X.s₀.heap.objs.size
 noex:∀b o,X.base.get? b=some o->b∉X.ex
 exfs:∀b∈X.ex,b∉X.fs
 funs:X.s₀.heap.FunFrames X.base X.outer
 frf:∀b∈X.fs,X.H₀ b=none
structure Inv (X:Cx)(pins:List (Addr×Obj))(σ:List (Option V))(H:Hp)(s:Shared):Prop where
 ok:X.Ok
 os:s.os=X.s₀.os
 bare:AllBare s.gens
 base:Un X.fs X.ex X.H₀ H X.s₀.heap s.heap
 loc:∃m,s.heap.Ns X.env.locals m/\∀(i:Nat) (x:Str) (v:V),X.N[i]?=some x->σ[i]?=some (some v)->Ii X.env.scope x->∃u,RelV v u/\Li X.env s.heap m x u
 cell:∀x c,X.env.cells.lookup x=some c->∃v,s.heap.IsCell c v
 free:H X.env.locals=none
 freeC:∀x c,X.env.cells.lookup x=some c->H c=none
 pin:∀p∈X.pn++pins,s.heap.get? p.1=some p.2/\H p.1=none/\p.1≠X.env.locals/\p.1∉X.fs/\∀v,p.2.data≠.cell v
 hok:HOk X.prog X.w H s.heap
 len:σ.length=X.N.length
section
variable {X:Cx}{pins:List (Addr×Obj)}{σ:List (Option V)}{H H':Hp}{s:Shared}{h':Heap}
theorem Cx.Ok.nofr (ok:X.Ok){b:Addr}{o:Obj}(e:X.base.get? b=some o):b∉X.fs:=fun hb=>by
 have:=(ok.funs.mem hb).1
 rw[e] at this;cases this
theorem Inv.bs (I:Inv X pins σ H s):∀b o,X.base.get? b=some o->s.heap.get? b=some o/\H b=none:=fun b o e=>
 ⟨I.base.keep b o (I.ok.bs b o e).1 (I.ok.bs b o e).2 (I.ok.nofr e) (I.ok.noex b o e),I.base.free b o (I.ok.bs b o e).1 (I.ok.bs b o e).2 (I.ok.noex b o e)⟩
theorem Inv.bk (I:Inv X pins σ H s):∀b o,X.base.get? b=some o->s.heap.get? b=some o:=fun b o e=>(I.bs b o e).1
theorem Inv.mod (I:Inv X pins σ H s):Mod X.K X.mg X.base:=I.ok.mod
theorem Inv.kIn (I:Inv X pins σ H s):X.K.In s.heap:=I.ok.mod.kin.keeps I.bk
theorem Inv.fr (I:Inv X pins σ H s):∃m,Fr X.base X.env.locals s.heap m:=
 let ⟨m,hn,_⟩:=I.loc
 ⟨m,hn,I.bk,Nat.le_trans I.ok.bsz I.ok.above⟩
theorem Inv.lt (I:Inv X pins σ H s):X.env.locals<s.heap.objs.size:=let ⟨_,hn,_⟩:=I.loc;hn.lt
theorem Inv.sz (I:Inv X pins σ H s):X.s₀.heap.objs.size≤s.heap.objs.size:=Nat.le_trans I.ok.above (Nat.le_of_lt I.lt)
theorem Inv.nofs (I:Inv X pins σ H s){a:Addr}(h:s.heap.objs.size≤a):a∉X.fs:=fun hb=>by
 obtain⟨_,o,ho,_⟩:=I.ok.funs.mem hb
 exact absurd (Nat.lt_of_lt_of_le (Heap.lt_size ho) (Nat.le_trans I.sz h)) (Nat.lt_irrefl _)
theorem Inv.cne (I:Inv X pins σ H s):∀x c,X.env.cells.lookup x=some c->c≠X.env.locals:=fun x c e z=>by
 obtain⟨v,o,ho,hd⟩:=I.cell x c e
 obtain⟨m,⟨o',es,ep,ho',hd',_⟩,_⟩:=I.loc
 rw[z,ho'] at ho;cases ho;rw[hd'] at hd;cases hd
theorem Inv.funs (I:Inv X pins σ H s):s.heap.FunFrames X.base X.outer:=by
 have all:∀(l:List Env),(∀b∈uv l,b∈X.fs)->X.s₀.heap.FunFrames X.base l->s.heap.FunFrames X.base l:=by
  intro l
  induction l with
  |nil=>intro _ _;trivial
  |cons env r ih=>
   intro hs hl
   obtain⟨hk,⟨L,o,hf,hn,ho,hd⟩,hr⟩:=hl
   have hL:L∈X.fs:=hs L (by unfold uv;rw[List.filterMap_cons,hf];exact List.mem_cons_self)
   obtain⟨sl,e⟩:=I.base.slot L o ho (I.ok.frf L hL) hL fun z=>I.ok.exfs L z hL
   exact⟨hk,⟨L,_,hf,hn,e,hd⟩,ih (fun b hb=>hs b (by unfold uv;rw[List.filterMap_cons,hf];exact List.mem_cons_of_mem _ hb)) hr⟩
 exact all X.outer (fun _ hb=>hb) I.ok.funs
theorem Inv.stack (I:Inv X pins σ H s):s.heap.FunFrames X.base X.stack:=by
 rcases I.ok.stk with e|⟨e,hf⟩
 ·rw[e];exact I.funs
 ·rw[e]
  obtain⟨m,hn,_⟩:=I.loc
  refine .cons (by rw[I.ok.kind];decide) hf hn ?_ I.funs
  exact Heap.get?_none_of_le (Nat.le_trans I.ok.bsz I.ok.above)
theorem Inv.stkSub (I:Inv X pins σ H s):∀b∈uv X.stack,b∈X.env.locals::X.fs:=fun b hb=>by
 rcases I.ok.stk with e|⟨e,hf⟩
 ·rw[e] at hb;exact List.mem_cons_of_mem _ hb
 ·rw[e] at hb
  unfold uv at hb
  rw[List.filterMap_cons,hf] at hb
  exact hb
theorem Inv.stkFree (I:Inv X pins σ H s):∀b∈uv X.stack,H b=none:=fun b hb=>by
 rcases List.mem_cons.mp (I.stkSub b hb) with e|hb
 ·rw[e];exact I.free
 ·obtain⟨_,o,ho,_⟩:=I.ok.funs.mem hb
  exact I.base.free b o ho (I.ok.frf b hb) fun z=>I.ok.exfs b z hb
theorem Inv.step {g':Array GenState}{t':Nat}{d':Drawn}{ch:List Addr}(I:Inv X pins σ H s)
  (hch:∀b∈ch,(b∈X.ex\/X.s₀.heap.objs.size≤b)/\b≠X.env.locals/\(∀x c,X.env.cells.lookup x=some c->c≠b)/\∀p∈X.pn++pins,p.1≠b)
  (keep:∀b o,b≠X.env.locals->b∉X.fs->b∉ch->s.heap.get? b=some o->H b=none->h'.get? b=some o)
  (slot:∀b o,b≠X.env.locals->b∈X.fs->b∉ch->s.heap.get? b=some o->H b=none->∃sl,h'.get? b=some { o with slots:=sl }) (free:∀b o,b∉ch->s.heap.get? b=some o->H b=none->H' b=none)
  (there:∀b o,b∉ch->s.heap.get? b=some o->∃o',h'.get? b=some o')
  (tups:∀b xs,H b=some (.tup xs)->H' b=some (.tup xs)) (frzs:∀b o u,H b=some (.frz o u)->H' b=some (.frz o u)) (tbls:∀b ps,H b=some (.tbl ps)->∃more,H' b=some (.tbl (ps++more)))
  (ns:∀m,s.heap.Ns X.env.locals m->h'.Ns X.env.locals m) (hok:HOk X.prog X.w H' h') (hg:AllBare g') :
  Inv X pins σ H' { s with heap:=h',gens:=g',drawn:=d',toks:=t' }:=by
 have neL:∀b o,X.s₀.heap.get? b=some o->b≠X.env.locals:=fun b o e=>Nat.ne_of_lt (Nat.lt_of_lt_of_le (Heap.lt_size e) I.ok.above)
 have neC:∀b o,X.s₀.heap.get? b=some o->b∉X.ex->b∉ch:=fun b o e hx hb=>by
  rcases (hch b hb).1 with z|z
  ·exact hx z
  ·exact absurd (Nat.lt_of_lt_of_le (Heap.lt_size e) z) (Nat.lt_irrefl _)
 have cellK:∀x c,X.env.cells.lookup x=some c->∀v,s.heap.IsCell c v->h'.IsCell c v:=fun x c e v ⟨o,ho,hd⟩=>by
  have nch:c∉ch:=fun z=>(hch c z).2.2.1 x c e rfl
  by_cases hc:c∈X.fs
  ·obtain⟨sl,q⟩:=slot c o (I.cne x c e) hc nch ho (I.freeC x c e)
   exact⟨_,q,hd⟩
  ·exact⟨o,keep c o (I.cne x c e) hc nch ho (I.freeC x c e),hd⟩
 refine⟨I.ok,I.os,hg,⟨fun b o e n hb hx=>?_,fun b o e n hb hx=>?_,fun b o e n hx=>?_,fun b o e hx=>?_,fun b xs e=>tups b xs (I.base.tups b xs e),fun b o xs e=>frzs b o xs (I.base.frzs b o xs e),fun b ps e=>?_⟩,?_,fun x c e=>?_,?_,fun x c e=>?_,fun p hp=>?_,hok,I.len⟩
 ·exact keep b o (neL b o e) hb (neC b o e hx) (I.base.keep b o e n hb hx) (I.base.free b o e n hx)
 ·obtain⟨sl,e1⟩:=I.base.slot b o e n hb hx
  obtain⟨sl',e2⟩:=slot b _ (neL b o e) hb (neC b o e hx) e1 (I.base.free b o e n hx)
  exact⟨sl',e2⟩
 ·obtain⟨o',e1⟩:=I.base.there b o e hx
  exact free b o' (neC b o e hx) e1 (I.base.free b o e n hx)
 ·obtain⟨o',e1⟩:=I.base.there b o e hx
  exact there b o' (neC b o e hx) e1
 ·obtain⟨m1,e1⟩:=I.base.tbls b ps e
  obtain⟨m2,e2⟩:=tbls b _ e1
  exact⟨m1++m2,by rw[e2,Array.append_assoc]⟩
 ·obtain⟨m,hn,hl⟩:=I.loc
  refine⟨m,ns m hn,fun i x v e1 e2 e3=>?_⟩
  obtain⟨u,r,l⟩:=hl i x v e1 e2 e3
  refine⟨u,r,?_⟩
  rcases l with l|⟨k,c,e,z⟩
  ·exact .inl l
  ·exact .inr ⟨k,c,e,cellK x c e _ z⟩
 ·obtain⟨v,z⟩:=I.cell x c e
  exact⟨v,cellK x c e v z⟩
 ·obtain⟨m,⟨o,_,_,ho,_⟩,_⟩:=I.loc
  exact free _ o (fun z=>(hch _ z).2.1 rfl) ho I.free
 ·obtain⟨v,o,ho,hd⟩:=I.cell x c e
  exact free c o (fun z=>(hch c z).2.2.1 x c e rfl) ho (I.freeC x c e)
 ·obtain⟨e,n,ne,nf,d⟩:=I.pin p hp
  have nch:p.1∉ch:=fun z=>(hch p.1 z).2.2.2 p hp rfl
  exact⟨keep p.1 p.2 ne nf nch e n,free p.1 p.2 nch e n,ne,nf,d⟩
theorem Inv.un {t':Nat}(I:Inv X pins σ H s)(u:Un X.fs [] H H' s.heap h')(hok:HOk X.prog X.w H' h'):Inv X pins σ H' { s with heap:=h',toks:=t' }:=by
 obtain⟨m,⟨o,es,ep,ho,r⟩,_⟩:=id I.loc
 obtain⟨sl,hL⟩:=u.any ho I.free (by simp)
 exact I.step (g':=s.gens) (d':=s.drawn) (ch:=[]) (fun _ z=>nomatch z) (fun b o _ hb _ e n=>u.keep b o e n hb (by simp)) (fun b o _ hb _ e n=>u.slot b o e n hb (by simp)) (fun b o _ e n=>u.free b o e n (by simp)) (fun b o _ e=>u.there b o e (by simp)) u.tups u.frzs u.tbls (fun m' hm=>by
  obtain⟨o',es',ep',ho',r'⟩:=hm
  rw[ho] at ho';cases ho'
  exact⟨_,es',ep',hL,r'⟩) hok I.bare
theorem Inv.call {g':Array GenState}{t':Nat}{d':Drawn}{ch:List Addr}(I:Inv X pins σ H s)(u:Un (uv X.stack) ch H H' s.heap h')(hok:HOk X.prog X.w H' h')(hg:AllBare g')
  (hch:∀b∈ch,(b∈X.ex\/X.s₀.heap.objs.size≤b)/\b≠X.env.locals/\(∀x c,X.env.cells.lookup x=some c->c≠b)/\∀p∈X.pn++pins,p.1≠b) :
  Inv X pins σ H' { s with heap:=h',gens:=g',drawn:=d',toks:=t' }:=by
 obtain⟨m,⟨o,es,ep,ho,r⟩,_⟩:=id I.loc
 obtain⟨sl,hL⟩:=u.any ho I.free fun z=>(hch _ z).2.1 rfl
 exact I.step (ch:=ch) hch (fun b o hL hb hc e n=>u.keep b o e n (fun z=>(List.mem_cons.mp (I.stkSub b z)).elim hL hb) hc) (fun b o _ _ hc e n=>u.any e n hc) (fun b o hc e n=>u.free b o e n hc) (fun b o hc e=>u.there b o e hc) u.tups u.frzs u.tbls (fun m' hm=>by
  obtain⟨o',es',ep',ho',r'⟩:=hm
  rw[ho] at ho';cases ho'
  exact⟨_,es',ep',hL,r'⟩) hok hg
theorem Inv.turned {t':Nat}{it:Addr}(I:Inv X pins σ H s)(k:∀b o,b≠it->s.heap.get? b=some o->h'.get? b=some o)(hn:H it=none)(hL:it≠X.env.locals)
  (h1:it∈X.ex\/X.s₀.heap.objs.size≤it) (h2:∀x c,X.env.cells.lookup x=some c->c≠it) (h3:∀p∈X.pn++pins,p.1≠it):Inv X pins σ H { s with heap:=h',toks:=t' }:=by
 have nit:∀b u,H b=some u->b≠it:=fun b u e z=>by rw[z,hn] at e;cases e
 refine I.step (g':=s.gens) (d':=s.drawn) (ch:=[it]) (fun b hb=>?_) (fun b o _ _ hc e _=>k b o (fun z=>hc (by simp[z])) e) (fun b o _ _ hc e _=>⟨o.slots,k b o (fun z=>hc (by simp[z])) e⟩) (fun _ _ _ _ n=>n)
  (fun b o hc e=>⟨o,k b o (fun z=>hc (by simp[z])) e⟩) (fun _ _ e=>e) (fun _ _ _ e=>e) (fun b ps e=>⟨#[],by rw[e];simp⟩) (fun m hm=>?_) (fun b u e=>?_) I.bare
 ·have e:b=it:=by simpa using hb
  subst e
  exact⟨h1,hL,h2,h3⟩
 ·obtain⟨o,es,ep,ho,r⟩:=hm
  exact⟨o,es,ep,k _ o (Ne.symm hL) ho,r⟩
 ·refine (I.hok b u e).stay (fun c v hc q=>k c v ?_ q) (fun _ q=>q) fun _ _ q=>q
  rcases hc with z|z
  ·rw[z];exact nit b u e
  ·exact nit c _ z
theorem Inv.tok (I:Inv X pins σ H s)(t:Nat):Inv X pins σ H { s with toks:=t }:=I.un (h':=s.heap) (t':=t) Un.refl I.hok
theorem Inv.kept {t':Nat}(I:Inv X pins σ H s)(k:∀b u,s.heap.get? b=some u->h'.get? b=some u):Inv X pins σ H { s with heap:=h',toks:=t' }:=I.un (Un.kept k) (I.hok.kept k)
theorem Inv.laid {a:Addr}{o:HO}{t':Nat}(I:Inv X pins σ H s)(k:∀b u,s.heap.get? b=some u->h'.get? b=some u)(hp:s.heap.objs.size≤a)(new:ObjOk X.prog X.w (upd H a o) h' a o) :
  Inv X pins σ (upd H a o) { s with heap:=h',toks:=t' }:=I.un (Un.laid k hp (I.hok.fresh hp)) (I.hok.laid k hp new)
theorem Inv.write {x e:Addr}{o:HO}{t':Nat}(I:Inv X pins σ H s)(mu:KG (H x))(he:e=x\/H e=some (.own x))(k:∀b u,b≠e->s.heap.get? b=some u->h'.get? b=some u)(heo:∃u,h'.get? e=some u)
  (new:ObjOk X.prog X.w (upd H x o) h' x o):Inv X pins σ (upd H x o) { s with heap:=h',toks:=t' }:=I.un (Un.write mu he k heo) (I.hok.write mu he k heo new)
theorem Inv.weak {σ':List (Option V)}(I:Inv X pins σ H s)(hl:σ'.length=σ.length)(w:∀(i:Nat) v,σ'[i]?=some (some v)->σ[i]?=some (some v)):Inv X pins σ' H s:=
 ⟨I.ok,I.os,I.bare,I.base,let ⟨m,hn,hl'⟩:=I.loc;⟨m,hn,fun i x v e1 e2 e3=>hl' i x v e1 (w i v e2) e3⟩,I.cell,I.free,I.freeC,I.pin,I.hok,hl.trans I.len⟩
theorem Inv.pins_of {pins':List (Addr×Obj)}(I:Inv X pins σ H s)(h:∀p∈pins',s.heap.get? p.1=some p.2/\H p.1=none/\p.1≠X.env.locals/\p.1∉X.fs/\∀v,p.2.data≠.cell v):Inv X pins' σ H s:=
 ⟨I.ok,I.os,I.bare,I.base,I.loc,I.cell,I.free,I.freeC,fun p hp=>(List.mem_append.mp hp).elim (fun z=>I.pin p (List.mem_append_left _ z)) (h p),I.hok,I.len⟩
theorem sW {N:List Str}(hN:N.Nodup){i j:Nat}{x:Str}(a:N[i]?=some x)(b:N[j]?=some x):i=j:=by
 obtain⟨h1,e1⟩:=List.getElem?_eq_some_iff.mp a
 obtain⟨h2,e2⟩:=List.getElem?_eq_some_iff.mp b
 exact (List.getElem_inj hN).mp (e1.trans e2.symm)
theorem wV {M:Model}{A:Around}{E:Value->Shared->Prop}{i:Nat}{x:Str}{v:V}{u:Value}{Q:Unit->Shared->Prop}(I:Inv X pins σ H s)(hN:X.N.Nodup)(hi:X.N[i]?=some x)(hx:Ih X.env.scope x)(r:RelV v u)
  (h:∀s',Inv X pins (σ.set i (some v)) H s'->(∃a,Heap.SameBut a s.heap s'.heap/\(a=X.env.locals\/X.env.cells.lookup x=some a))->Q () s') (hf:X.fn x=true\/X.env.scope.names.lookup x=some .local:=by first|exact .inl rfl|exact .inr rfl|assumption):wpAny M A (storeName X.env x u) Q E s:=by
 obtain⟨m,hn,hl⟩:=id I.loc
 have hcls:(X.env.scope.kind==.class || (X.env.scope.kind==.module&&X.env.locals != X.env.globals))=false:=by rw[I.ok.kind];rfl
 have hiσ:i<σ.length:=by rw[I.len];exact (List.getElem?_eq_some_iff.mp hi).1
 have cne:=I.cne
 have tracked:∀{a:Addr} {h':Heap},(∃o,s.heap.get? a=some o/\H a=none)->Heap.SameBut a s.heap h'->HOk X.prog X.w H h':=fun {a h'} ha hs b ob e=>by
  obtain⟨_,_,hfree⟩:=ha
  refine (I.hok b ob e).stay (fun c w' hc q=>(hs.2 c ?_).trans q) (fun _ q=>q) fun _ _ q=>q
  rintro rfl
  rcases hc with rfl|hc
  ·rw[hfree] at e;cases e
  ·rw[hfree] at hc;cases hc
 rcases hx with hk|hk
 ·refine wpAny_storeName_local hk hn (fun h' hn' hs=>?_) hcls
  obtain⟨oL,_,_,hoL,_⟩:=id hn
  refine h _ ⟨I.ok,I.os,I.bare,⟨fun b o e n hb hx=>?_,fun b o e n hb hx=>?_,I.base.free,fun b o e hx=>?_,I.base.tups,I.base.frzs,I.base.tbls⟩,⟨_,hn',fun j y v' e1 e2 e3=>?_⟩,fun y c e=>?_,I.free,I.freeC,fun p hp=>?_,tracked ⟨oL,hoL,I.free⟩ hs,by simpa using I.len⟩ ⟨_,hs,.inl rfl⟩
  ·exact (hs.2 b (Nat.ne_of_lt (Nat.lt_of_lt_of_le (Heap.lt_size e) I.ok.above))).trans (I.base.keep b o e n hb hx)
  ·obtain⟨sl,e1⟩:=I.base.slot b o e n hb hx
   exact⟨sl,(hs.2 b (Nat.ne_of_lt (Nat.lt_of_lt_of_le (Heap.lt_size e) I.ok.above))).trans e1⟩
  ·obtain⟨o',e1⟩:=I.base.there b o e hx
   exact⟨o',(hs.2 b (Nat.ne_of_lt (Nat.lt_of_lt_of_le (Heap.lt_size e) I.ok.above))).trans e1⟩
  ·by_cases hj:j=i
   ·subst hj
    rw[hi] at e1;cases e1
    rw[List.getElem?_set_self hiσ] at e2
    cases e2
    exact⟨u,r,.inl ⟨hk,by simp⟩⟩
   ·rw[List.getElem?_set_ne (Ne.symm hj)] at e2
    obtain⟨u',r',q⟩:=hl j y v' e1 e2 e3
    refine⟨u',r',?_⟩
    rcases q with ⟨k,e⟩|⟨k,c,e,z⟩
    ·refine .inl ⟨k,?_⟩
     have:y≠x:=fun e=>hj (sW hN e1 (e▸hi))
     simp[this,e]
    ·exact .inr ⟨k,c,e,z.sameBut hs (cne y c e)⟩
  ·obtain⟨w',z⟩:=I.cell y c e
   exact⟨w',z.sameBut hs (cne y c e)⟩
  ·obtain⟨e,n,ne,nf,d⟩:=I.pin p hp
   exact⟨(hs.2 p.1 ne).trans e,n,ne,nf,d⟩
 ·have hfn:X.fn x=true:=by
   rcases hf with z|z
   ·exact z
   ·rw[z] at hk;cases hk
  obtain⟨c,hc⟩:=I.ok.has x (.inl hk)
  obtain⟨w',z⟩:=I.cell x c hc
  refine wpAny_storeName_cell I.ok.kind hk hc z (fun h' hc' hs=>?_)
  obtain⟨oc,hoc,hocd⟩:=id z
  refine h { s with heap:=h' } ⟨I.ok,I.os,I.bare,⟨fun b o e n hb hx=>?_,fun b o e n hb hx=>?_,I.base.free,fun b o e hx=>?_,I.base.tups,I.base.frzs,I.base.tbls⟩,⟨m,hn.sameBut hs (Ne.symm (cne x c hc)),fun j y v' e1 e2 e3=>?_⟩,fun y c' e=>?_,I.free,I.freeC,fun p hp=>?_,tracked ⟨oc,hoc,I.freeC x c hc⟩ hs,by simpa using I.len⟩ ⟨c,hs,.inr hc⟩
  ·exact (hs.2 b (Nat.ne_of_lt (Nat.lt_of_lt_of_le (Heap.lt_size e) (I.ok.cab x c hfn hc)))).trans (I.base.keep b o e n hb hx)
  ·obtain⟨sl,e1⟩:=I.base.slot b o e n hb hx
   exact⟨sl,(hs.2 b (Nat.ne_of_lt (Nat.lt_of_lt_of_le (Heap.lt_size e) (I.ok.cab x c hfn hc)))).trans e1⟩
  ·obtain⟨o',e1⟩:=I.base.there b o e hx
   exact⟨o',(hs.2 b (Nat.ne_of_lt (Nat.lt_of_lt_of_le (Heap.lt_size e) (I.ok.cab x c hfn hc)))).trans e1⟩
  ·by_cases hj:j=i
   ·subst hj
    rw[hi] at e1;cases e1
    rw[List.getElem?_set_self hiσ] at e2
    cases e2
    exact⟨u,r,.inr ⟨.inl hk,c,hc,hc'⟩⟩
   ·rw[List.getElem?_set_ne (Ne.symm hj)] at e2
    obtain⟨u',r',q⟩:=hl j y v' e1 e2 e3
    refine⟨u',r',?_⟩
    rcases q with q|⟨k,c',e,z'⟩
    ·exact .inl q
    ·refine .inr ⟨k,c',e,z'.sameBut hs ?_⟩
     rintro rfl
     exact hj (sW hN e1 (I.ok.inj _ _ _ e hc▸hi))
  ·by_cases hcc:c'=c
   ·subst hcc;exact⟨_,hc'⟩
   ·obtain⟨w2,z2⟩:=I.cell y c' e
    exact⟨w2,z2.sameBut hs hcc⟩
  ·obtain⟨e,n,ne,nf,d⟩:=I.pin p hp
   refine⟨(hs.2 p.1 ?_).trans e,n,ne,nf,d⟩
   intro q
   rw[q,hoc] at e
   have q':oc=p.2:=Option.some.inj e
   exact d w' (by rw[←q'];exact hocd)
theorem j1 {M:Model}{A:Around}{E:Value->Shared->Prop}{i:Nat}{x:Str}{v:V}{u:Value}{Q:Unit->Shared->Prop}(I:Inv X pins σ H s)(hN:X.N.Nodup)(hi:X.N[i]?=some x)(hx:Ih X.env.scope x)(r:RelV v u)
  (h:∀s',Inv X pins (σ.set i (some v)) H s'->Q () s') (hf:X.fn x=true\/X.env.scope.names.lookup x=some .local:=by first|exact .inl rfl|exact .inr rfl|assumption):wpAny M A (storeName X.env x u) Q E s:=
 wV I hN hi hx r (fun s' I' _=>h s' I') hf
theorem Inv.call' {s':Shared}{ch:List Addr}(I:Inv X pins σ H s)(ho:s'.os=s.os)(u:Un (uv X.stack) ch H H' s.heap s'.heap)(hok:HOk X.prog X.w H' s'.heap)(hg:AllBare s'.gens)
  (hch:∀b∈ch,(b∈X.ex\/X.s₀.heap.objs.size≤b)/\b≠X.env.locals/\(∀x c,X.env.cells.lookup x=some c->c≠b)/\∀p∈X.pn++pins,p.1≠b):Inv X pins σ H' s':=by
 obtain⟨h',g',d',t',o'⟩:=s'
 have e:o'=s.os:=ho
 subst e
 exact I.call (g':=g') (t':=t') (d':=d') u hok hg hch
end
noncomputable abbrev XK:=Value->Option Addr->Hp->Prop
noncomputable abbrev St:=List (Option V)
noncomputable abbrev VK:=V->Hp->Prop
noncomputable abbrev TE:=St->Hp->VK->Prop
noncomputable abbrev TT:=St->Hp->(Bool->Hp->Prop)->Prop
noncomputable abbrev TA:=St->Hp->(List V->Hp->Prop)->Prop
structure Ends where
 nx:St->Hp->Prop
 rt:VK
 bk:St->Hp->Prop:=fun _ _=>False
 ct:St->Hp->Prop:=fun _ _=>False
noncomputable abbrev TS:=Ends->St->Hp->Prop
noncomputable def EP (X:Cx)(pins:List (Addr×Obj))(σ:St)(Q:VK)(u:Value)(s':Shared):Prop:=∃v H',Inv X pins σ H' s'/\RelV v u/\Q v H'
noncomputable def TP (X:Cx)(pins:List (Addr×Obj))(σ:St)(Q:Bool->Hp->Prop)(b:Bool)(s':Shared):Prop:=∃H',Inv X pins σ H' s'/\Q b H'
noncomputable def AP (X:Cx)(pins:List (Addr×Obj))(σ:St)(Q:List V->Hp->Prop)(us:List Value)(s':Shared):Prop:=∃vs H',Inv X pins σ H' s'/\Vals vs us/\Q vs H'
noncomputable def SP (X:Cx)(pins:List (Addr×Obj))(D:Ends)(f:Flow)(s':Shared):Prop:=
 match f with
 |.next=>∃σ' H',Inv X pins σ' H' s'/\D.nx σ' H'
 |.brk=>∃σ' H',Inv X pins σ' H' s'/\D.bk σ' H'
 |.cont=>∃σ' H',Inv X pins σ' H' s'/\D.ct σ' H'
 |.ret u=>∃v σ' H',Inv X pins σ' H' s'/\RelV v u/\D.rt v H'
noncomputable def PE (X:Cx)(e:Expr)(t:TE):Prop:=
 ∀(pins:List (Addr×Obj)) (s:Shared) (σ:St) (H:Hp) (Q:VK),Inv X pins σ H s->t σ H Q->wpAny (model X.prog X.w) X.A (eval e X.env) (EP X pins σ Q) X.xe s
noncomputable def PT (X:Cx)(e:Expr)(t:TT):Prop:=
 ∀(pins:List (Addr×Obj)) (s:Shared) (σ:St) (H:Hp) (Q:Bool->Hp->Prop),Inv X pins σ H s->t σ H Q->wpAny (model X.prog X.w) X.A (isTrue e X.env (eval e X.env)) (TP X pins σ Q) X.xe s
noncomputable def PW (X:Cx)(e:Expr)(t:TT):Prop:=
 ∀(whole:Sem Value) (pins:List (Addr×Obj)) (s:Shared) (σ:St) (H:Hp) (Q:Bool->Hp->Prop),Inv X pins σ H s->t σ H Q->wpAny (model X.prog X.w) X.A (isTrue e X.env whole) (TP X pins σ Q) X.xe s
theorem PW.pt {X:Cx}{e:Expr}{t:TT}(h:PW X e t):PT X e t:=h _
noncomputable def PA (X:Cx)(es:List Expr)(t:TA):Prop:=
 ∀(pos:Pos) (pins:List (Addr×Obj)) (s:Shared) (σ:St) (H:Hp) (Q:List V->Hp->Prop),Inv X pins σ H s->t σ H Q->wpAny (model X.prog X.w) X.A (spliced (backTo pos (starEach es X.env))) (AP X pins σ Q) X.xe s
noncomputable def PS (X:Cx)(st:Stmt)(t:TS):Prop:=
 ∀(pins:List (Addr×Obj)) (s:Shared) (σ:St) (H:Hp) (D:Ends),Inv X pins σ H s->t D σ H->wpAny (model X.prog X.w) X.A (exec st X.env) (SP X pins D) X.xe s
noncomputable def PSs (X:Cx)(st:List Stmt)(t:TS):Prop:=
 ∀(pins:List (Addr×Obj)) (s:Shared) (σ:St) (H:Hp) (D:Ends),Inv X pins σ H s->t D σ H->wpAny (model X.prog X.w) X.A (execs st X.env) (SP X pins D) X.xe s
theorem dG {α:Type}{t:Sem α}{Q Q':α->Shared->Prop}{M:Model}{A:Around}{E:Value->Shared->Prop}{s:Shared}(h:wpAny M A t Q E s)(hQ:∀a s,Q a s->Q' a s):wpAny M A t Q' E s:=wpAny_mono h hQ fun _ _ x=>x
end L2
namespace L2
open PySem PySem.Spec PyProof.Rows
section
variable {X:Cx}
noncomputable def eE (i:Nat):TE:=fun σ H Q=>∃v,σ[i]?=some (some v)/\Q v H
noncomputable def tC (v:V):TE:=fun _ H Q=>Q v H
theorem yI {i:Nat}{x:Str}{pos:Pos}(hN:X.N[i]?=some x)(hv:Ii X.env.scope x)(hd:(x==("__debug__" : Str))=false:=by decide)(hcd:(x==("__classdict__" : Str))=false:=by decide):PE X (.Name x pos) (eE i):=by
 intro pins s σ H Q I h
 obtain⟨v,e,h⟩:=h
 obtain⟨m,hn,hl⟩:=I.loc
 obtain⟨u,r,l⟩:=hl i x v hN e hv
 have fin:EP X pins σ Q u s:=⟨v,H,I,r,h⟩
 rcases l with ⟨hk,hm⟩|⟨hk,c,hc,hcell⟩
 ·exact wpAny_Name (wpAny_loadName_local I.ok.kind hk hn hm fin) hd
 ·rcases hk with hk|hk
  ·exact wpAny_Name (wpAny_loadName_cell I.ok.kind hk hc hcell fin) hd
  ·exact wpAny_Name (wpAny_loadName_free I.ok.kind hk hc hcell fin hcd) hd
theorem kW {i j pos}:PE X (.Constant (.int i) j pos) (tC (.int i)):=fun _ _ _ H _ I h=>wpAny_Constant_int ⟨.int i,H,I.tok _,⟨_,rfl⟩,h⟩
theorem IX {b j pos}:PE X (.Constant (.bool b) j pos) (tC (.bl b)):=fun _ _ _ H _ I h=>Constant_bool ⟨.bl b,H,I,rfl,h⟩
theorem GZ {x j pos}:PE X (.Constant (.str x) j pos) (tC (.str x)):=fun _ _ _ H _ I h=>Calls.Constant_str ⟨.str x,H,I.tok _,⟨_,rfl⟩,h⟩
noncomputable def Gl (X:Cx)(x:Str):Prop:=X.env.kindOf x=some .globalImplicit
theorem v0 {E:Value->Shared->Prop}{pins:List (Addr×Obj)}{s:Shared}{σ:St}{H:Hp}{x:Str}{u:Value}{pos:Pos}{Q:Value->Shared->Prop}(I:Inv X pins σ H s)(hg:Gl X x)(hm:X.mg x=some u)(h:Q u s)
  (hd:(x==("__debug__" : Str))=false:=by decide):wpAny (model X.prog X.w) X.A (eval (.Name x pos) X.env) Q E s:=
 Calls.Name_function_global I.ok.kind hg (Calls.loadGlobal_global (by rw[I.ok.glob];exact I.mod.glob.keeps I.bk) hm h) hd
theorem nC {E:Value->Shared->Prop}{pins:List (Addr×Obj)}{s:Shared}{σ:St}{H:Hp}{x:Str}{u:Value}{pos:Pos}{Q:Value->Shared->Prop}(I:Inv X pins σ H s)(hg:Gl X x)(hm:X.mg x=none)(hv:bootBuiltins x=some u)(h:Q u s)
  (hn:x ≠ "__name__":=by decide) (hd:(x==("__debug__" : Str))=false:=by decide):wpAny (model X.prog X.w) X.A (eval (.Name x pos) X.env) Q E s:=by
 obtain⟨mb,h1,h2⟩:=I.mod.blt
 exact Calls.Name_function_global I.ok.kind hg (Calls.loadGlobal_builtin (by rw[I.ok.glob];exact I.mod.glob.keeps I.bk) hm (by rw[I.ok.blt];exact h1.keeps I.bk) ((h2 x hn).trans hv) h) hd
theorem km {x:Str}{v:V}{u:Value}{pos:Pos}(hg:Gl X x)(hm:X.mg x=some u)(r:RelV v u)(hd:(x==("__debug__" : Str))=false:=by decide):PE X (.Name x pos) (tC v):=
 fun _ _ _ H _ I h=>v0 I hg hm ⟨v,H,I,r,h⟩ hd
theorem DJ {x:Str}{v:V}{u:Value}{pos:Pos}(hg:Gl X x)(hm:X.mg x=none)(hv:bootBuiltins x=some u)(r:RelV v u)(hn:x ≠ "__name__":=by decide)(hd:(x==("__debug__" : Str))=false:=by decide):PE X (.Name x pos) (tC v):=
 fun _ _ _ H _ I h=>nC I hg hm hv ⟨v,H,I,r,h⟩ hn hd
variable {a b:Expr}{ta tb:TE}{pos:Pos}
noncomputable def PC (X:Cx)(op:CmpOp)(a b:Expr)(t:TE):Prop:=
 ∀(pins:List (Addr×Obj)) (s:Shared) (σ:St) (H:Hp) (Q:VK),Inv X pins σ H s->t σ H Q →
  wpAny (model X.prog X.w) X.A (eval a X.env) (fun v s₁=>wpAny (model X.prog X.w) X.A (eval b X.env) (fun u s₂=>wpAny (model X.prog X.w) X.A (compareOp op v u) (EP X pins σ Q) X.xe s₂) X.xe s₁) X.xe s
theorem AR (b:Expr){op:CmpOp}(h:op≠.In)(h2:op≠.NotIn):behindInMarks op b=false:=by
 have e1:(op==CmpOp.In)=false:=by cases op<;>first|rfl|exact absurd rfl h
 have e2:(op==CmpOp.NotIn)=false:=by cases op<;>first|rfl|exact absurd rfl h2
 cases b<;>simp[behindInMarks,e1,e2]
noncomputable def tB (t:TE):TT:=fun σ H Q=>t σ H fun x H1=>∃c,x=.bl c/\Q c H1
theorem G6 {op:CmpOp}{t:TE}(h:PC X op a b t)(h1:behindInMarks op b=false:=by first|exact AR _ (by decide) (by decide)|rfl):PE X (.Compare a [op] [b] pos) t:=fun pins s σ H Q I hw=>wpAny_Compare1 (h pins s σ H Q I hw) h1
theorem Ib {e:Expr}{t:TE}(h:PE X e t)(he:∀whole,isTrue e X.env whole=(do let v ←whole;standAt e.pos;holding [v] (truthy v)):=by intro _;rfl):PT X e (tB t):=by
 intro pins s σ H Q I hw
 refine isTrue_plain (dG (h pins s σ H _ I hw) fun v s1 ⟨x,H1,I1,r1,q1⟩=>?_) (he _)
 obtain⟨d,rfl,q⟩:=q1
 cases r1
 exact wpAny_truthy_bool ⟨H1,I1,q⟩
variable {tA tB':TT}{cU:List Expr}
noncomputable def gz (t u:TT):TT:=fun σ H Q=>t σ H fun c H1=>if c=true then u σ H1 Q else Q false H1
noncomputable def mv (t u:TT):TT:=fun σ H Q=>t σ H fun c H1=>if c=true then Q true H1 else u σ H1 Q
noncomputable def gm (t:TT):TT:=fun σ H Q=>t σ H fun c H1=>Q (!c) H1
theorem C7 (ha:PT X a tA):PW X (.BoolOp .And [a] pos) tA:=by
 intro wh pins s σ H Q I h
 refine isTrue_and (dG (ha pins s σ H Q I h) fun c s1 e=>?_)
 cases c with
 |true=>exact isTrue_and_nil e
 |false=>exact e
theorem GI (ha:PT X a tA):PW X (.BoolOp .Or [a] pos) tA:=by
 intro wh pins s σ H Q I h
 refine isTrue_or (dG (ha pins s σ H Q I h) fun c s1 e=>?_)
 cases c with
 |false=>exact isTrue_or_nil e
 |true=>exact e
theorem HL (ha:PT X a tA)(hb:PW X (.BoolOp .And (b::cU) pos) tB'):PW X (.BoolOp .And (a::b::cU) pos) (gz tA tB'):=by
 intro wh pins s σ H Q I h
 refine isTrue_and (dG (ha pins s σ H _ I h) fun c s1 ⟨H1,I1,q1⟩=>?_)
 cases c with
 |true=>exact hb wh pins s1 σ H1 Q I1 q1
 |false=>exact⟨H1,I1,q1⟩
theorem JE (ha:PT X a tA)(hb:PW X (.BoolOp .Or (b::cU) pos) tB'):PW X (.BoolOp .Or (a::b::cU) pos) (mv tA tB'):=by
 intro wh pins s σ H Q I h
 refine isTrue_or (dG (ha pins s σ H _ I h) fun c s1 ⟨H1,I1,q1⟩=>?_)
 cases c with
 |true=>exact⟨H1,I1,q1⟩
 |false=>exact hb wh pins s1 σ H1 Q I1 q1
theorem Fh (ha:PT X a tA):PT X (.UnaryOp .Not a pos) (gm tA):=by
 intro pins s σ H Q I h
 exact isTrue_not (ha pins s σ H (fun c H1=>Q (!c) H1) I h)
noncomputable def cW (ta tb:TE):TE:=fun σ H Q=>ta σ H fun x H1=>∃c,x=.bl c/\if c=true then tb σ H1 Q else Q (.bl false) H1
noncomputable def gu (ta tb:TE):TE:=fun σ H Q=>ta σ H fun x H1=>∃c,x=.bl c/\if c=true then Q (.bl true) H1 else tb σ H1 Q
noncomputable def cX (ta:TE):TE:=fun σ H Q=>ta σ H fun x H1=>∃c,x=.bl c/\Q (.bl (!c)) H1
theorem za {op}{t:TE}(h:PE X a t):PE X (.BoolOp op [a] pos) t:=fun pins s σ H Q I hw=>BoolOp_one (h pins s σ H Q I hw)
theorem zl (ha:PE X a ta)(hb:PE X (.BoolOp .And (b::cU) pos) tb):PE X (.BoolOp .And (a::b::cU) pos) (cW ta tb):=by
 intro pins s σ H Q I h
 refine BoolOp_and (dG (ha pins s σ H _ I h) fun v s1 ⟨x,H1,I1,r1,q1⟩=>?_)
 obtain⟨c,rfl,q1⟩:=q1
 cases r1
 refine wpAny_truthy_bool ?_
 cases c with
 |true=>exact hb pins s1 σ H1 Q I1 q1
 |false=>exact⟨.bl false,H1,I1,rfl,q1⟩
theorem I0 (ha:PE X a ta)(hb:PE X (.BoolOp .Or (b::cU) pos) tb):PE X (.BoolOp .Or (a::b::cU) pos) (gu ta tb):=by
 intro pins s σ H Q I h
 refine BoolOp_or (dG (ha pins s σ H _ I h) fun v s1 ⟨x,H1,I1,r1,q1⟩=>?_)
 obtain⟨c,rfl,q1⟩:=q1
 cases r1
 refine wpAny_truthy_bool ?_
 cases c with
 |false=>exact hb pins s1 σ H1 Q I1 q1
 |true=>exact⟨.bl true,H1,I1,rfl,q1⟩
theorem HD (ha:PE X a ta):PE X (.UnaryOp .Not a pos) (cX ta):=by
 intro pins s σ H Q I h
 refine UnaryOp_ (dG (ha pins s σ H _ I h) fun v s1 ⟨x,H1,I1,r1,q1⟩=>?_)
 obtain⟨c,rfl,q1⟩:=q1
 cases r1
 exact not_of (wpAny_truthy_bool ⟨.bl (!c),H1,I1,rfl,q1⟩)
noncomputable def mF (t:TT)(ta tb:TE):TE:=fun σ H Q=>t σ H fun c H1=>if c=true then ta σ H1 Q else tb σ H1 Q
theorem Al {c:Expr}(hc:PT X c tA)(ha:PE X a ta)(hb:PE X b tb):PE X (.IfExp c a b pos) (mF tA ta tb):=by
 intro pins s σ H Q I h
 refine wpAny_IfExp (dG (hc pins s σ H _ I h) fun d s1 ⟨H1,I1,q1⟩=>?_)
 cases d with
 |true=>exact ha pins s1 σ H1 Q I1 q1
 |false=>exact hb pins s1 σ H1 Q I1 q1
end
end L2
namespace L2
open PySem PySem.Spec PyProof.Rows
noncomputable def SqL (K:PySem.W.Frag)(H:Hp)(a:Addr)(xs:List V):Prop:=
 Rd H a (.lst xs) ∨
  ∃(o:Obj) (its:Array Value) (n:Nat),K.lookup a=some o/\o.cls=.type "list"/\o.dict=none/\o.data=.seq its n/\its.size≤sizeLine/\Vals xs its.toList
noncomputable def SqT (K:PySem.W.Frag)(H:Hp)(a:Addr)(xs:List V):Prop:=
 Rd H a (.tup xs) ∨
  ∃(o:Obj) (its:Array Value) (n:Nat),K.lookup a=some o/\o.cls=.type "tuple"/\o.data=.seq its n/\its.size≤sizeLine/\Vals xs its.toList
noncomputable def L1:Value->Option V
 |.none=>some .non
 |.bool b=>some (.bl b)
 |.int i _=>some (.int i)
 |.str x _=>some (.str x)
 |.bytes b _=>some (.byt b)
 |.float b _=>some (.flt b)
 |.ref a=>some (.ref a)
 |.type n=>some (.ty n)
 |_=>none
theorem RelV.abs {x:V}{u:Value}(r:RelV x u):L1 u=some x:=by
 cases x with
 |non=>cases r;rfl
 |bl _=>cases r;rfl
 |int _=>obtain⟨t,rfl⟩:=r;rfl
 |str _=>obtain⟨t,rfl⟩:=r;rfl
 |byt _=>obtain⟨t,rfl⟩:=r;rfl
 |flt _=>obtain⟨t,rfl⟩:=r;rfl
 |ref _=>cases r;rfl
 |ty _=>cases r;rfl
theorem RelV.inj {x y:V}{u:Value}(r:RelV x u)(q:RelV y u):x=y:=Option.some.inj (r.abs.symm.trans q.abs)
theorem Vals.inj:∀{xs ys:List V} {us:List Value},Vals xs us->Vals ys us->xs=ys
 |_,_,_,.nil,.nil=>rfl
 |_,_,_,.cons r t,.cons r' t'=>by rw[r.inj r',Vals.inj t t']
section
variable {X:Cx}{pins:List (Addr×Obj)}{σ:St}{H:Hp}{s:Shared}{a:Addr}{xs ys:List V}
theorem SqL.of {K:PySem.W.Frag}(h:H a=some (.lst xs)):SqL K H a xs:=.inl (.inl h)
theorem SqT.of {K:PySem.W.Frag}(h:H a=some (.tup xs)):SqT K H a xs:=.inl (.inl h)
theorem Inv.list (I:Inv X pins σ H s)(h:SqL X.K H a xs):∃its:List Value,Vals xs its/\PlainL s.heap a its.toArray/\xs.length≤sizeLine:=by
 rcases h with h|⟨o,its,n,hk,hc,hd,hs,hz,r⟩
 ·obtain⟨z,its,n,r,e⟩:=h.ok I.hok
  exact⟨its,r,⟨_,n,e,rfl,rfl,rfl⟩,z⟩
 ·refine⟨its.toList,r,⟨o,n,I.kIn a o hk,hc,hd,by simpa using hs⟩,?_⟩
  have e:=r.length
  simp only[Array.length_toList] at e
  omega
theorem Inv.tuple (I:Inv X pins σ H s)(h:SqT X.K H a xs):∃its:List Value,Vals xs its/\IsTup s.heap a its.toArray/\xs.length≤sizeLine:=by
 rcases h with h|⟨o,its,n,hk,hc,hs,hz,r⟩
 ·obtain⟨z,its,r,p⟩:=h.ok I.hok
  exact⟨its,r,p,z⟩
 ·refine⟨its.toList,r,⟨o,I.kIn a o hk,hc,n,by simpa using hs⟩,?_⟩
  have e:=r.length
  simp only[Array.length_toList] at e
  omega
theorem Inv.list_inj (I:Inv X pins σ H s)(h:SqL X.K H a xs)(h':SqL X.K H a ys):xs=ys:=by
 obtain⟨its,r,⟨o,n,e,_,_,d⟩,_⟩:=I.list h
 obtain⟨its',r',⟨o',n',e',_,_,d'⟩,_⟩:=I.list h'
 rw[e] at e';cases e'
 rw[d] at d'
 injection d' with d1 _
 have:its=its':=by simpa using congrArg Array.toList d1
 subst this
 exact r.inj r'
theorem Inv.tuple_inj (I:Inv X pins σ H s)(h:SqT X.K H a xs)(h':SqT X.K H a ys):xs=ys:=by
 obtain⟨its,r,⟨o,e,_,n,d⟩,_⟩:=I.tuple h
 obtain⟨its',r',⟨o',e',_,n',d'⟩,_⟩:=I.tuple h'
 rw[e] at e';cases e'
 rw[d] at d'
 injection d' with d1 _
 have:its=its':=by simpa using congrArg Array.toList d1
 subst this
 exact r.inj r'
end
noncomputable abbrev Cx.wish (X:Cx)(E:Value->Shared->Prop):Cx:={ X with xe:=E }
noncomputable abbrev Cx.nox (X:Cx):Cx:=X.wish fun _ _=>False
theorem Cx.Ok.wish {X:Cx}(ok:X.Ok)(E:Value->Shared->Prop):(X.wish E).Ok:=
 ⟨ok.mod,ok.kind,ok.glob,ok.blt,ok.above,ok.inj,ok.has,ok.cab,ok.hd,ok.frames,ok.stk,ok.exf,ok.bs,ok.bsz,ok.noex,ok.exfs,ok.funs,ok.frf⟩
theorem Cx.Ok.unwish {X:Cx}{E:Value->Shared->Prop}(ok:(X.wish E).Ok):X.Ok:=
 ⟨ok.mod,ok.kind,ok.glob,ok.blt,ok.above,ok.inj,ok.has,ok.cab,ok.hd,ok.frames,ok.stk,ok.exf,ok.bs,ok.bsz,ok.noex,ok.exfs,ok.funs,ok.frf⟩
section
variable {X:Cx}{pins:List (Addr×Obj)}{σ:St}{H:Hp}{s:Shared}{E:Value->Shared->Prop}
theorem Inv.wish (I:Inv X pins σ H s)(E:Value->Shared->Prop):Inv (X.wish E) pins σ H s:=⟨I.ok.wish E,I.os,I.bare,I.base,I.loc,I.cell,I.free,I.freeC,I.pin,I.hok,I.len⟩
theorem Inv.unwish (I:Inv (X.wish E) pins σ H s):Inv X pins σ H s:=⟨I.ok.unwish,I.os,I.bare,I.base,I.loc,I.cell,I.free,I.freeC,I.pin,I.hok,I.len⟩
theorem SP.unwish {D:Ends}{f:Flow}{s':Shared}(h:SP (X.wish E) pins D f s'):SP X pins D f s':=by
 cases f with
 |next=>obtain⟨σ',H',I,q⟩:=h;exact⟨σ',H',I.unwish,q⟩
 |brk=>obtain⟨σ',H',I,q⟩:=h;exact⟨σ',H',I.unwish,q⟩
 |cont=>obtain⟨σ',H',I,q⟩:=h;exact⟨σ',H',I.unwish,q⟩
 |ret u=>obtain⟨v,σ',H',I,r,q⟩:=h;exact⟨v,σ',H',I.unwish,r,q⟩
theorem PSs.nox {st:List Stmt}{t:TS}(h:PSs X.nox st t):PSs X st t:=fun pins s σ H D I hw=>
 wpAny_mono (h pins s σ H D (I.wish _) hw) (fun _ _ q=>q.unwish) fun _ _ z=>False.elim z
end
section
variable {X:Cx}{st:Stmt}{cU:List Stmt}{t u:TS}{e:Expr}{te:TE}{pos:Pos}
noncomputable def db:TS:=fun D σ H=>D.nx σ H
noncomputable def gB (t u:TS):TS:=fun D σ H=>t { D with nx:=u D } σ H
theorem Dz:PSs X [] db:=fun _ _ σ H _ I h=>wpAny_execs_nil ⟨σ,H,I,h⟩
theorem aU (h1:PS X st t)(h2:PSs X cU u):PSs X (st::cU) (gB t u):=by
 intro pins s σ H D I h
 refine wpAny_execs_cons (dG (h1 pins s σ H { D with nx:=u D } I h) fun f s1 q=>?_)
 cases f with
 |next=>
  obtain⟨σ',H',I',q⟩:=q
  exact h2 pins s1 σ' H' D I' q
 |ret v=>exact q
 |brk=>exact q
 |cont=>exact q
theorem fg (h1:PS X st t):PSs X [st] t:=by
 intro pins s σ H D I h
 refine wpAny_execs_cons (dG (h1 pins s σ H D I h) fun f s1 q=>?_)
 cases f with
 |next=>exact wpAny_execs_nil q
 |ret v=>exact q
 |brk=>exact q
 |cont=>exact q
theorem Inv.quiet {pins:List (Addr×Obj)}{σ:St}{H:Hp}{s:Shared}(I:Inv X pins σ H s):interactive X.env=false:=by simp[interactive,I.ok.kind]
noncomputable def cq (te:TE):TS:=fun D σ H=>te σ H fun _ H1=>D.nx σ H1
theorem gS (he:PE X e te)(hs:swapsWith e none pos.line X.env=pure false:=by rfl):PS X (.Expr e pos) (cq te):=by
 intro pins s σ H D I h
 exact wpAny_Expr_any (dG (he pins s σ H _ I h) fun v s1 ⟨x,H1,I1,r1,q1⟩=>⟨σ,H1,I1,q1⟩) I.quiet hs
noncomputable def gy (te:TE):TS:=fun D σ H=>te σ H D.rt
theorem iO (he:PE X e te):PS X (.Return (some e) pos) (gy te):=by
 intro pins s σ H D I h
 exact wpAny_Return_some (dG (he pins s σ H _ I h) fun v s1 ⟨x,H1,I1,r1,q1⟩=>⟨x,σ,H1,I1,r1,q1⟩)
noncomputable def di:TS:=fun D _ H=>D.rt .non H
noncomputable def gJ (c:TT)(t u:TS):TS:=fun D σ H=>c σ H fun b H1=>if b=true then t D σ H1 else u D σ H1
theorem JS {c:Expr}{a b:List Stmt}{tc:TT}(hc:PT X c tc)(ha:PSs X a t)(hb:PSs X b u):PS X (.If c a b pos) (gJ tc t u):=by
 intro pins s σ H D I h
 refine wpAny_If (dG (hc pins s σ H _ I h) fun d s1 ⟨H1,I1,q1⟩=>?_)
 cases d with
 |true=>exact ha pins s1 σ H1 D I1 q1
 |false=>exact hb pins s1 σ H1 D I1 q1
noncomputable def bL:TS:=fun _ _ _=>False
theorem yB:PS X st bL:=fun _ _ _ _ _ _ h=>h.elim
end
noncomputable abbrev TG:=V->St->Hp->(St->Hp->Prop)->Prop
noncomputable abbrev wN:=List V->St->Hp->(St->Hp->Prop)->Prop
noncomputable def PG (X:Cx)(target:Expr)(t:TG):Prop:=
 ∀(pins:List (Addr×Obj)) (s:Shared) (σ:St) (H:Hp) (v:V) (u:Value) (Q:St->Hp->Prop),Inv X pins σ H s->RelV v u->t v σ H Q →
  wpAny (model X.prog X.w) X.A (assign target X.env u) (fun _ s'=>∃σ' H',Inv X pins σ' H' s'/\Q σ' H') X.xe s
noncomputable def JN (X:Cx)(ts:List Expr)(t:wN):Prop:=
 ∀(pins:List (Addr×Obj)) (s:Shared) (σ:St) (H:Hp) (vs:List V) (us:List Value) (Q:St->Hp->Prop),Inv X pins σ H s->Vals vs us->t vs σ H Q →
  wpAny (model X.prog X.w) X.A (assignInOrder ((assignEach ts X.env).map (·.2)) us) (fun _ s'=>∃σ' H',Inv X pins σ' H' s'/\Q σ' H') X.xe s
noncomputable abbrev G2:=V->V->V->Hp->(Hp->Prop)->Prop
noncomputable def Ky (X:Cx)(t:G2):Prop:=
 ∀(pins:List (Addr×Obj)) (s:Shared) (σ:St) (H:Hp) (o i v:V) (ov iv u:Value) (Q:Hp->Prop),Inv X pins σ H s->RelV o ov->RelV i iv->RelV v u->t o i v H Q →
  wpAny (model X.prog X.w) X.A (setItem ov iv u) (fun _ s'=>∃H',Inv X pins σ H' s'/\Q H') X.xe s
noncomputable abbrev KN:=V->V->Hp->VK->Prop
noncomputable def Mj (X:Cx)(op:Operator)(t:KN):Prop:=
 ∀(pins:List (Addr×Obj)) (s:Shared) (σ:St) (H:Hp) (x y:V) (v u:Value) (Q:VK),Inv X pins σ H s->RelV x v->RelV y u->t x y H Q →
  wpAny (model X.prog X.w) X.A (inplaceOp op v u) (EP X pins σ Q) X.xe s
section
variable {X:Cx}{pos:Pos}
noncomputable def bO (i:Nat):TG:=fun v σ H Q=>Q (σ.set i (some v)) H
theorem am {i:Nat}{x:Str}(hN:X.N.Nodup)(hi:X.N[i]?=some x)(hx:Ih X.env.scope x)(hf:X.fn x=true\/X.env.scope.names.lookup x=some .local:=by first|exact .inl rfl|exact .inr rfl|assumption):PG X (.Name x pos) (bO i):=by
 intro pins s σ H v u Q I r h
 exact wpAny_assign_Name (j1 I hN hi hx r (fun s' I'=>⟨_,H,I',h⟩) hf)
noncomputable def fX:wN:=fun vs σ H Q=>vs=[]/\Q σ H
noncomputable def cN (t:TG)(u:wN):wN:=fun vs σ H Q=>∃v r,vs=v::r/\t v σ H fun σ' H'=>u r σ' H' Q
theorem cb:JN X [] fX:=by
 intro pins s σ H vs us Q I r h
 obtain⟨e,h⟩:=h
 subst e
 cases r
 exact assignInOrder_nil ⟨σ,H,I,h⟩
theorem av {e:Expr}{es:List Expr}{t:TG}{u:wN}(h1:PG X e t)(h2:JN X es u)
  (hs:(assignEach (e::es) X.env).map (·.2)=assign e X.env::(assignEach es X.env).map (·.2):=by rfl):JN X (e::es) (cN t u):=by
 intro pins s σ H vs us Q I r h
 obtain⟨v,vr,e1,h⟩:=h
 subst e1
 cases r with
 |cons r rr=>
  rw[hs]
  refine assignInOrder_cons (dG (h1 pins s σ H _ _ _ I r h) fun _ s1 ⟨σ1,H1,I1,q1⟩=>?_)
  exact h2 pins s1 σ1 H1 _ _ Q I1 rr q1
noncomputable def fP (K:PySem.W.Frag)(n:Nat)(t:wN):TG:=fun v σ H Q=>∃a xs,v=.ref a/\SqT K H a xs/\xs.length=n/\t xs σ H Q
theorem GK {es:List Expr}{k:Nat}{t:wN}{n:Nat}(hc:X.calm=true)(h:JN X es t)
  (hn:(assignEach es X.env).length=n:=by rfl) (hst:(assignEach es X.env).findIdx? (·.1)=none:=by rfl):PG X (.Tuple es k pos) (fP X.K n t):=by
 intro pins s σ H v u Q I r hw
 obtain⟨a,xs,e1,hq,hl,hw⟩:=hw
 subst e1
 cases r
 obtain⟨its,rv,ht,hz⟩:=I.tuple hq
 refine assign_Tuple_tuple (I.ok.hd hc) ht (by simp[hn,←hl,rv.length]) hst fun h' hx=>?_
 have I1:Inv X pins σ H { s with heap:=h' }:=I.kept (t':=s.toks) fun b o e=>hx b o (Nat.ne_of_lt (Heap.lt_size e)) e
 exact h pins _ σ H xs _ Q I1 (by simpa using rv) hw
noncomputable def fo (to ti:TE)(t:G2):TG:=fun v σ H Q=>to σ H fun o H1=>ti σ H1 fun i H2=>t o i v H2 fun H3=>Q σ H3
theorem mG {o i:Expr}{to ti:TE}{t:G2}(ho:PE X o to)(hi:PE X i ti)(hs:Ky X t)
  (ha:∀v,assign (.Subscript o i pos) X.env v=(do
   let ov ←holding [v] (eval o X.env)
   let iv ←holding [v,ov] (eval i X.env)
   standAt pos
   holding [v,ov,iv] (setItem ov iv v)
   release [v,ov,iv] []):=by intro _;rfl):PG X (.Subscript o i pos) (fo to ti t):=by
 intro pins s σ H v u Q I r h
 rw[ha]
 refine wpAny_bind (wpAny_holding (dG (ho pins s σ H _ I h) fun ov s1 ⟨x,H1,I1,r1,q1⟩=>?_))
 refine wpAny_bind (wpAny_holding (dG (hi pins s1 σ H1 _ I1 q1) fun iv s2 ⟨y,H2,I2,r2,q2⟩=>?_))
 refine wpAny_bind (wpAny_standAt (wpAny_bind (wpAny_holding (dG (hs pins s2 σ H2 x y v ov iv u _ I2 r1 r2 r q2) fun _ s3 ⟨H3,I3,q3⟩=>?_))))
 exact wpAny_release ⟨σ,H3,I3,q3⟩
noncomputable def dN (te:TE)(g:TG):TS:=fun D σ H=>te σ H fun x H1=>g x σ H1 D.nx
theorem cA {tg e:Expr}{te:TE}{g:TG}(he:PE X e te)(hg:PG X tg g)(hs:swapsWithSole [tg] e pos.line X.env=pure false:=by rfl)(hw:swappedStores [tg] e X.env=pure none:=by rfl)
  (h1:(assignEach [tg] X.env).map (·.2)=[assign tg X.env]:=by rfl):PS X (.Assign [tg] e pos) (dN te g):=by
 intro pins s σ H D I h
 refine wpAny_Assign_stores (dG (he pins s σ H _ I h) fun v s1 ⟨x,H1,I1,r1,q1⟩=>?_) hs hw
 rw[h1]
 exact dG (hg pins s1 σ H1 x v _ I1 r1 q1) fun _ s2 q=>q
theorem aN {i:Nat}{x:Str}{e:Expr}{te:TE}{pos':Pos}(hN:X.N.Nodup)(hi:X.N[i]?=some x)(hx:Ih X.env.scope x)(he:PE X e te)(hs:swapsWith e (some (.Name x pos')) pos.line X.env=pure false:=by rfl)(hf:X.fn x=true\/X.env.scope.names.lookup x=some .local:=by first|exact .inl rfl|exact .inr rfl|assumption) :
  PS X (.Assign [.Name x pos'] e pos) (dN te (bO i)):=by
 intro pins s σ H D I h
 refine wpAny_Assign_Name (dG (he pins s σ H _ I h) fun v s1 ⟨y,H1,I1,r1,q1⟩=>?_) hs
 exact j1 I1 hN hi hx r1 (fun s2 I2=>⟨_,H1,I2,q1⟩) hf
noncomputable def fU (i j:Nat)(ta:TA):TS:=fun D σ H=>ta σ H fun vs H1=>∃v w,vs=[v,w]/\D.nx ((σ.set i (some v)).set j (some w)) H1
theorem yQ {i j:Nat}{x y:Str}{a b:Expr}{ta:TA}{px py pt:Pos}{kt k2 pt2}(hc:X.calm=true)(hN:X.N.Nodup)(hi:X.N[i]?=some x)(hj:X.N[j]?=some y)(hij:i≠j)
  (hx:X.env.scope.names.lookup x=some .local) (hy:X.env.scope.names.lookup y=some .local) (ha:PA X [a,b] ta)
  (hw:swappedStores [.Tuple [.Name x px,.Name y py] kt pt] (.Tuple [a,b] k2 pt2) X.env=pure (some [x,y]))
  (hs:swapsWithSole [.Tuple [.Name x px,.Name y py] kt pt] (.Tuple [a,b] k2 pt2) pos.line X.env=pure false:=by rfl) :
  PS X (.Assign [.Tuple [.Name x px,.Name y py] kt pt] (.Tuple [a,b] k2 pt2) pos) (fU i j ta):=by
 intro pins s σ H D I h
 rw[exec_Assign_arm]
 refine wpAny_bind (wpAny_standAt ?_)
 rw[hs]
 refine wpAny_bind (wpAny_pure ?_)
 rw[if_neg (by decide)]
 refine wpAny_bind (Tuple_ (dG (ha _ pins s σ H _ I h) fun us s1 ⟨vs,H1,I1,r1,q1⟩=>?_))
 obtain⟨v,w,e1,q1⟩:=q1
 subst e1
 obtain⟨u1,u2,rfl,rv,rw'⟩:∃u1 u2,us=[u1,u2]/\RelV v u1/\RelV w u2:=by
  cases r1 with
  |cons p q=>
   cases q with
   |cons p' q'=>
    cases q'
    exact⟨_,_,rfl,p,p'⟩
 refine wpAny_newObj_type ?_ (by show 2≤sizeLine;decide)
 have I2:Inv X pins σ H1 { s1 with heap:=s1.heap.push { cls:=.type "tuple",data:=.seq [u1,u2].toArray } }:=I1.kept (t':=s1.toks) fun b o e=>Heap.get?_push_of_some _ e
 rw[hw]
 refine wpAny_bind (wpAny_pure ?_)
 show wpAny (model X.prog X.w) X.A (do rule "assign.swapped-stores";let items ←unpackItems (.ref s1.heap.objs.size) 2 none;assignInOrder [fun v=>bindName X.env y v,fun v=>bindName X.env x v] items.reverse;pure Flow.next) _ _ _
 refine wpAny_bind (wpAny_rule (wpAny_bind (unpackItems_tuple (items:=#[u1,u2]) (I.ok.hd hc) (IsTup.new s1.heap _) fun h' hx'=>?_)))
 have I3:=I2.kept (h':=h') (t':=s1.toks) fun b o e=>hx' b o (Nat.ne_of_lt (Heap.lt_size e)) e
 show wpAny _ _ (assignInOrder [fun v=>bindName X.env y v,fun v=>bindName X.env x v] [u2,u1] >>= fun _=>pure Flow.next) _ _ _
 refine wpAny_bind (assignInOrder_cons (wpAny_bindName (j1 I3 hN hj (.inl hy) rw' (fun s2 I4=>?_) (.inr hy))))
 refine assignInOrder_cons (wpAny_bindName (j1 I4 hN hi (.inl hx) rv (fun s3 I5=>assignInOrder_nil (wpAny_pure ?_)) (.inr hx)))
 rw[List.set_comm _ _ (Ne.symm hij)] at I5
 exact⟨_,H1,I5,q1⟩
noncomputable def gv (i:Nat)(te:TE)(ti:KN):TS:=fun D σ H=>∃x,σ[i]?=some (some x)/\te σ H fun y H1=>ti x y H1 fun z H2=>D.nx (σ.set i (some z)) H2
theorem uR {i:Nat}{x:Str}{e:Expr}{te:TE}{op:Operator}{ti:KN}{pos':Pos}(hN:X.N.Nodup)(hi:X.N[i]?=some x)(hx:Ih X.env.scope x)(he:PE X e te)(ho:Mj X op ti)(hf:X.fn x=true\/X.env.scope.names.lookup x=some .local:=by first|exact .inl rfl|exact .inr rfl|assumption) :
  PS X (.AugAssign (.Name x pos') op e pos) (gv i te ti):=by
 intro pins s σ H D I h
 obtain⟨v,e1,h⟩:=h
 obtain⟨m,hn,hl⟩:=I.loc
 have vis:Ii X.env.scope x:=by rcases hx with k|k;exact .inl k;exact .inr (.inl k)
 obtain⟨u,r,l⟩:=hl i x v hi e1 vis
 refine wpAny_AugAssign_Name ?_
 have go:wpAny (model X.prog X.w) X.A (eval e X.env) (fun w s₂=>wpAny (model X.prog X.w) X.A (inplaceOp op u w) (fun r s₃=>wpAny (model X.prog X.w) X.A (storeName X.env x r) (fun _=>SP X pins D .next) X.xe s₃) X.xe s₂) X.xe s:=by
  refine dG (he pins s σ H _ I h) fun w s1 ⟨y,H1,I1,r1,q1⟩=>?_
  refine dG (ho pins s1 σ H1 v y u w _ I1 r r1 q1) fun z s2 ⟨zv,H2,I2,r2,q2⟩=>?_
  exact j1 I2 hN hi hx r2 (fun s3 I3=>⟨_,H2,I3,q2⟩) hf
 rcases l with ⟨hk,hm⟩|⟨hk,c,hc,hcell⟩
 ·exact wpAny_loadName_local I.ok.kind hk hn hm go
 ·rcases hk with hk|hk
  ·exact wpAny_loadName_cell I.ok.kind hk hc hcell go
  ·rcases hx with k|k
   ·have:X.env.scope.names.lookup x=some .free:=hk
    rw[k] at this;cases this
   ·have:X.env.scope.names.lookup x=some .free:=hk
    rw[k] at this;cases this
noncomputable def lU (f:Int->Int->Int):KN:=fun x y H Q=>∃i j,x=.int i/\y=.int j/\Q (.int (f i j)) H
theorem uG:Mj X .Add (lU fun i j=>i+j):=by
 intro pins s σ H x y v u Q I r1 r2 h
 obtain⟨i,j,e1,e2,q⟩:=h
 subst e1;subst e2
 obtain⟨t,rfl⟩:=r1
 obtain⟨t',rfl⟩:=r2
 exact iadd_int ⟨.int _,H,I.tok _,⟨_,rfl⟩,q⟩
end
section
variable {X:Cx}{pos:Pos}
noncomputable def uT (c:TT)(tb:TS):TS:=fun D σ H=>∃W:Nat->St->Hp->Prop,(∃m,W m σ H)/\∀m σ H,W m σ H →
 c σ H fun b H1=>if b=true then ∃N:St->Hp->Prop,(∀σ' H',N σ' H'->∃m',m'<m/\W m' σ' H')/\tb { D with nx:=N,ct:=N,bk:=D.nx } σ H1 else D.nx σ H1
theorem ka {c:Expr}{body:List Stmt}{tc:TT}{tb:TS}(hp:PassesOwn (model X.prog X.w) X.A X.env X.xe)(hc:PT X c tc)(hb:PSs X body tb):PS X (.While c body [] pos) (uT tc tb):=by
 intro pins s σ H D I h
 obtain⟨W,⟨m0,w0⟩,turn⟩:=h
 refine wpAny_While (codeAny_whileLoop (fun n s'=>∃σ' H',Inv X pins σ' H' s'/\W n σ' H') ?_ m0 ⟨σ,H,I,w0⟩)
 rintro n s1 ⟨σ1,H1,I1,w1⟩
 refine wpAny_passesOwn hp (dG (hc pins s1 σ1 H1 _ I1 (turn n σ1 H1 w1)) fun b s2 ⟨H2,I2,q2⟩=>?_)
 cases b with
 |true=>
  obtain⟨N,hN,q2⟩:=q2
  rw[if_pos rfl]
  refine wpAny_passesOwn hp (dG (hb pins s2 σ1 H2 _ I2 q2) fun f s3 q3=>?_)
  cases f with
  |next=>
   obtain⟨σ3,H3,I3,n3⟩:=q3
   obtain⟨m',hm,w3⟩:=hN σ3 H3 n3
   exact⟨m',hm,σ3,H3,I3,w3⟩
  |cont=>
   obtain⟨σ3,H3,I3,n3⟩:=q3
   obtain⟨m',hm,w3⟩:=hN σ3 H3 n3
   exact⟨m',hm,σ3,H3,I3,w3⟩
  |brk=>exact q3
  |ret v=>exact q3
 |false=>
  rw[if_neg Bool.false_ne_true]
  exact wpAny_execs_nil ⟨σ1,H2,I2,q2⟩
end
structure It where
 go:Nat->Hp->Prop
 yld:Nat->Hp->V->Hp->Prop
 stop:Nat->Hp->Prop
noncomputable def mE (X:Cx)(pins:List (Addr×Obj))(H:Hp)(b:Addr):Prop:=
 H b=none/\b≠X.env.locals/\b∉X.fs/\(b∈X.ex\/X.s₀.heap.objs.size≤b)/\(∀x c,X.env.cells.lookup x=some c->c≠b)/\∀p∈X.pn++pins,p.1≠b
theorem Inv.fpOk {X:Cx}{pins:List (Addr×Obj)}{σ:St}{H H':Hp}{s:Shared}{b:Addr}(I:Inv X pins σ H s)(hb:s.heap.objs.size≤b)(hn:H' b=none):mE X pins H' b:=by
 refine⟨hn,Nat.ne_of_gt (Nat.lt_of_lt_of_le I.lt hb),I.nofs hb,.inr (Nat.le_trans I.sz hb),fun x c e z=>?_,fun p hp z=>?_⟩
 ·obtain⟨v,q⟩:=I.cell x c e
  exact absurd (Nat.lt_of_lt_of_le q.lt (by rw[z];exact hb)) (Nat.lt_irrefl _)
 ·exact absurd (Nat.lt_of_lt_of_le (Heap.lt_size (I.pin p hp).1) (by rw[z];exact hb)) (Nat.lt_irrefl _)
structure Turn (P:Program)(w:World)(K:PySem.W.Frag)(tg:Expr)(J:It)(fp:List Addr)(it:Addr)(tn:Nat->Heap->Prop):Prop where
 mem:it∈fp
 obj:∀i h,tn i h->∀b∈fp,∃o,h.get? b=some o/\∀v,o.data≠.cell v
 keep:∀i h h',tn i h->(∀b∈fp,∀o,h.get? b=some o->h'.get? b=some o)->tn i h'
 item:∀(X:Cx),X.prog=P->X.w=w->X.K=K->X.calm=true->∀(i:Nat) (pins:List (Addr×Obj)) (s:Shared) (σ:St) (H:Hp) (E:Value->Shared->Prop),Inv X pins σ H s->(∀b∈fp,mE X pins H b)->tn i s.heap->J.go i H →
  wpAny (model P w) X.A (pyNext (.ref it)) (fun r s1=>∃u,r=some u ∧
   wpAny (model P w) X.A (letOwnedTupleGo tg (.ref it) u) (fun _ s2=>∃x H',Inv X pins σ H' s2/\RelV x u/\J.yld i H x H'/\tn (i+1) s2.heap/\∀b∈fp,H' b=none) E s1) E s
 done:∀(X:Cx),X.prog=P->X.w=w->X.K=K->X.calm=true->∀(i:Nat) (pins:List (Addr×Obj)) (s:Shared) (σ:St) (H:Hp) (E:Value->Shared->Prop),Inv X pins σ H s->(∀b∈fp,mE X pins H b)->tn i s.heap->J.stop i H →
  wpAny (model P w) X.A (pyNext (.ref it)) (fun r s1=>r=none/\Inv X pins σ H s1) E s
 self:∀(A:Around) (i:Nat) (s:Shared) (Q:Value->Shared->Prop) (E:Value->Shared->Prop),tn i s.heap->Q (.ref it) s->wpAny (model P w) A (pyIter (.ref it)) Q E s
noncomputable abbrev TI:=St->Hp->(It->Hp->Prop)->Prop
noncomputable def Md (X:Cx)(pins:List (Addr×Obj))(σ:St)(tg:Expr)(R:It->Hp->Prop)(itv:Value)(s2:Shared):Prop:=
 ∃(it:Addr) (fp:List Addr) (tn:Nat->Heap->Prop) (J:It) (H':Hp),itv=.ref it/\Inv X pins σ H' s2/\Turn X.prog X.w X.K tg J fp it tn/\tn 0 s2.heap/\(∀b∈fp,mE X pins H' b)/\R J H'
noncomputable def PI (X:Cx)(tg iter:Expr)(wi:TI):Prop:=
 ∀(pins:List (Addr×Obj)) (s:Shared) (σ:St) (H:Hp) (R:It->Hp->Prop),Inv X pins σ H s->wi σ H R →
  wpAny (model X.prog X.w) X.A (eval iter X.env) (fun v s1=>wpAny (model X.prog X.w) X.A (pyIter v) (Md X pins σ tg R) X.xe s1) X.xe s
theorem jG {M:Model}{A:Around}{E:Value->Shared->Prop}{s:Shared}{tg:Expr}{it:Addr}{u:Value}{o:Obj}{n:String}{vs:Array Value}{Q:Unit->Shared->Prop}(ho:s.heap.get? it=some o)(hc:o.cls=.type n)(hd:o.data=.fields vs)
  (hn:["enumerate","zip","dict_itemiterator","dict_reverseitemiterator","odict_iterator","itertools.zip_longest","itertools.pairwise"].contains n=false) (hQ:Q () s):wpAny M A (letOwnedTupleGo tg (.ref it) u) Q E s:=by
 unfold letOwnedTupleGo
 cases tg<;>first
  |exact wpAny_pure hQ
  |(cases u<;>first
    |exact wpAny_pure hQ
    |(refine wpAny_bind (wpAny_load ho ?_)
      rw[hc,hd]
      show wpAny M A (if (["enumerate","zip","dict_itemiterator","dict_reverseitemiterator","odict_iterator","itertools.zip_longest","itertools.pairwise"].contains n&&vs[0]?==some (rawInt _))=true then _ else _) Q E s
      rw[if_neg (by intro h;rw[hn,Bool.false_and] at h;cases h)]
      exact wpAny_pure hQ))
noncomputable def Mi (K:PySem.W.Frag)(a:Addr):It:=
 ⟨fun i H=>∃xs x,SqL K H a xs/\xs[i]?=some x,fun i H x H'=>H'=H/\∀xs,SqL K H a xs->xs[i]?=some x,fun i H=>∃xs,SqL K H a xs/\xs.length≤i⟩
noncomputable def Ma (K:PySem.W.Frag)(a:Addr):It:=
 ⟨fun i H=>∃xs x,SqT K H a xs/\xs[i]?=some x,fun i H x H'=>H'=H/\∀xs,SqT K H a xs->xs[i]?=some x,fun i H=>∃xs,SqT K H a xs/\xs.length≤i⟩
noncomputable def JK (lo:Int)(n:Nat):It:=⟨fun i _=>i<n,fun i H x H'=>H'=H/\x=.int (lo+i),fun i _=>n≤i⟩
theorem xh {P:Program}{w:World}{K:PySem.W.Frag}{tg:Expr}(a it:Addr):Turn P w K tg (Mi K a) [it] it (fun i h=>h.IsListIter it a i) where
 mem:=by simp
 obj:=fun i h st b hb=>by
  have e:b=it:=by simpa using hb
  subst e
  obtain⟨o,e,c,d⟩:=st
  exact⟨o,e,fun v z=>by rw[d] at z;cases z⟩
 keep:=fun i h h' st k=>st.at fun o e=>k it (by simp) o e
 item:=by
  intro X hP hw hK hc i pins s σ H E I hf st hg
  subst hP hw hK
  obtain⟨xs,x,hq,hx⟩:=hg
  obtain⟨its,rv,p,hz⟩:=I.list hq
  obtain⟨u,hu,ru⟩:=rv.get hx
  obtain⟨f0,f1,f2,f3,f4,f5⟩:=hf it (by simp)
  refine wpAny_pyNext_list_item st p.isList (x:=u) (by simpa using hu) fun h' st' sb=>?_
  have I1:Inv X pins σ H { s with heap:=h' }:=I.turned (t':=s.toks) (fun b o hb e=>(sb.2 b hb).trans e) f0 f1 f3 f4 f5
  obtain⟨o,e,c,d⟩:=id st'
  exact⟨u,rfl,jG (s:={ s with heap:=h' }) e c d (by decide) ⟨x,H,I1,ru,⟨rfl,fun ys hy=>by rw[I.list_inj hy hq];exact hx⟩,st',fun b hb=>(hf b hb).1⟩⟩
 done:=by
  intro X hP hw hK hc i pins s σ H E I hf st hg
  subst hP hw hK
  obtain⟨xs,hq,hx⟩:=hg
  obtain⟨its,rv,p,hz⟩:=I.list hq
  obtain⟨f0,f1,f2,f3,f4,f5⟩:=hf it (by simp)
  have hl:=rv.length
  exact wpAny_pyNext_list_end (I.ok.hd hc) st p.isList (by simp;omega) fun h' eb=>⟨rfl,I.turned (t':=s.toks) (fun b o hb e=>eb b o hb e) f0 f1 f3 f4 f5⟩
 self:=fun _ _ _ _ _ st h=>wpAny_pyIter_listiter st h
theorem uq {P:Program}{w:World}{K:PySem.W.Frag}{tg:Expr}(a it:Addr):Turn P w K tg (Ma K a) [it] it (fun i h=>h.IsTupleIter it a i) where
 mem:=by simp
 obj:=fun i h st b hb=>by
  have e:b=it:=by simpa using hb
  subst e
  obtain⟨o,e,c,d⟩:=st
  exact⟨o,e,fun v z=>by rw[d] at z;cases z⟩
 keep:=fun i h h' st k=>st.at fun o e=>k it (by simp) o e
 item:=by
  intro X hP hw hK hc i pins s σ H E I hf st hg
  subst hP hw hK
  obtain⟨xs,x,hq,hx⟩:=hg
  obtain⟨its,rv,p,hz⟩:=I.tuple hq
  obtain⟨u,hu,ru⟩:=rv.get hx
  obtain⟨f0,f1,f2,f3,f4,f5⟩:=hf it (by simp)
  refine wpAny_pyNext_tuple_item st (show s.heap.IsTuple a its.toArray from p) (x:=u) (by simpa using hu) fun h' st' sb=>?_
  have I1:Inv X pins σ H { s with heap:=h' }:=I.turned (t':=s.toks) (fun b o hb e=>(sb.2 b hb).trans e) f0 f1 f3 f4 f5
  obtain⟨o,e,c,d⟩:=id st'
  exact⟨u,rfl,jG (s:={ s with heap:=h' }) e c d (by decide) ⟨x,H,I1,ru,⟨rfl,fun ys hy=>by rw[I.tuple_inj hy hq];exact hx⟩,st',fun b hb=>(hf b hb).1⟩⟩
 done:=by
  intro X hP hw hK hc i pins s σ H E I hf st hg
  subst hP hw hK
  obtain⟨xs,hq,hx⟩:=hg
  obtain⟨its,rv,p,hz⟩:=I.tuple hq
  obtain⟨f0,f1,f2,f3,f4,f5⟩:=hf it (by simp)
  have hl:=rv.length
  exact wpAny_pyNext_tuple_end (I.ok.hd hc) st (show s.heap.IsTuple a its.toArray from p) (by simp;omega) fun h' eb=>⟨rfl,I.turned (t':=s.toks) (fun b o hb e=>eb b o hb e) f0 f1 f3 f4 f5⟩
 self:=fun _ _ _ _ _ st h=>wpAny_pyIter_tupleiter st h
theorem uz {P:Program}{w:World}{K:PySem.W.Frag}{tg:Expr}(it:Addr)(lo:Int)(n:Nat):Turn P w K tg (JK lo n) [it] it (fun i h=>IsRangeIter h it (lo+(i:Nat) * 1) ((n:Int) - (i:Nat)) 1) where
 mem:=by simp
 obj:=fun i h st b hb=>by
  have e:b=it:=by simpa using hb
  subst e
  exact⟨_,st,fun v z=>by
   have z':Data.fields _=Data.cell v:=z
   cases z'⟩
 keep:=fun i h h' st k=>k it (by simp) _ st
 item:=by
  intro X hP hw hK hc i pins s σ H E I hf st hg
  subst hP hw hK
  obtain⟨f0,f1,f2,f3,f4,f5⟩:=hf it (by simp)
  have W:=Walks.range (prog:=X.prog) (w:=X.w) (I.ok.hd hc) it lo 1 n
  refine W.item i s _ _ hg st fun v h' tk hv st' kk=>?_
  obtain⟨t,rfl⟩:=hv
  have I1:Inv X pins σ H { s with heap:=h',toks:=tk }:=I.turned (fun b o hb e=>kk b o (by simpa using hb) e) f0 f1 f3 f4 f5
  refine⟨_,rfl,jG (s:={ s with heap:=h',toks:=tk }) (n:="range_iterator") st' rfl rfl (by decide) ⟨.int (lo+i),H,I1,⟨t,?_⟩,⟨rfl,rfl⟩,st',fun b hb=>(hf b hb).1⟩⟩
  rw[Int.mul_one]
 done:=by
  intro X hP hw hK hc i pins s σ H E I hf st hg
  subst hP hw hK
  obtain⟨f0,f1,f2,f3,f4,f5⟩:=hf it (by simp)
  exact wpAny_pyNext_range_end (I.ok.hd hc) st (by have:n≤i:=hg;omega) fun h' eb=>⟨rfl,I.turned (t':=s.toks) (fun b o hb e=>eb b o hb e) f0 f1 f3 f4 f5⟩
 self:=fun _ _ _ _ _ st h=>wpAny_pyIter_rangeiter st h
end L2
namespace L2
open PySem PySem.Spec PyProof.Rows
section
variable {X:Cx}{tg:Expr}
noncomputable def dc (K:PySem.W.Frag)(tl:TE):TI:=fun σ H R=>tl σ H fun x H1=>∃a,x=.ref a/\(∃xs,SqL K H1 a xs)/\R (Mi K a) H1
noncomputable def gP (K:PySem.W.Frag)(tl:TE):TI:=fun σ H R=>tl σ H fun x H1=>∃a,x=.ref a/\(∃xs,SqT K H1 a xs)/\R (Ma K a) H1
theorem BL {l:Expr}{tl:TE}(hl:PE X l tl):PI X tg l (dc X.K tl):=by
 intro pins s σ H R I h
 refine dG (hl pins s σ H _ I h) fun v s1 ⟨x,H1,I1,r1,q1⟩=>?_
 obtain⟨a,e,⟨xs,hq⟩,q⟩:=q1
 subst e
 cases r1
 obtain⟨its,rv,p,hz⟩:=I1.list hq
 refine wpAny_pyIter_list p.isList ?_
 refine⟨s1.heap.objs.size,[s1.heap.objs.size],_,_,H1,rfl,I1.kept (t':=s1.toks) fun b o e=>Heap.get?_push_of_some _ e,xh a _,⟨_,Heap.get?_push_size _ rfl,rfl,rfl⟩,fun b hb=>?_,q⟩
 have e:b=s1.heap.objs.size:=by simpa using hb
 subst e
 exact I1.fpOk (Nat.le_refl _) (I1.hok.fresh (Nat.le_refl _))
theorem HA {l:Expr}{tl:TE}(hl:PE X l tl):PI X tg l (gP X.K tl):=by
 intro pins s σ H R I h
 refine dG (hl pins s σ H _ I h) fun v s1 ⟨x,H1,I1,r1,q1⟩=>?_
 obtain⟨a,e,⟨xs,hq⟩,q⟩:=q1
 subst e
 cases r1
 obtain⟨its,rv,p,hz⟩:=I1.tuple hq
 refine wpAny_pyIter_tuple (show s1.heap.IsTuple a its.toArray from p) ?_
 refine⟨s1.heap.objs.size,[s1.heap.objs.size],_,_,H1,rfl,I1.kept (t':=s1.toks) fun b o e=>Heap.get?_push_of_some _ e,uq a _,⟨_,Heap.get?_push_size _ rfl,rfl,rfl⟩,fun b hb=>?_,q⟩
 have e:b=s1.heap.objs.size:=by simpa using hb
 subst e
 exact I1.fpOk (Nat.le_refl _) (I1.hok.fresh (Nat.le_refl _))
theorem y7 {pins:List (Addr×Obj)}{σ:St}{H:Hp}{s:Shared}{R:It->Hp->Prop}{E:Value->Shared->Prop}{lo hi:Int}{t u v:Tok}{tk:Nat}(I:Inv X pins σ H s)(h1:-(2 ^ 62)≤lo)(h2:lo<2 ^ 62)(h3:-(2 ^ 62)≤hi)(h4:hi<2 ^ 62)
  (q:R (JK lo (hi - lo).toNat) H):wpAny (model X.prog X.w) X.A (pyIter (.ref s.heap.objs.size)) (Md X pins σ tg R) E { s with heap:=s.heap.push { cls:=.type "range",data:=.fields #[.int lo t,.int hi u,.int 1 v] },toks:=tk }:=by
 refine wpAny_pyIter_range (IsRange.new ..) (small_one h1 h2 h3 h4) ?_
 have I1:Inv X pins σ H { s with heap:=s.heap.push { cls:=.type "range",data:=.fields #[.int lo t,.int hi u,.int 1 v] },toks:=tk }:=I.kept fun b o e=>Heap.get?_push_of_some _ e
 refine⟨(s.heap.push { cls:=.type "range",data:=.fields #[.int lo t,.int hi u,.int 1 v] }).objs.size,[(s.heap.push { cls:=.type "range",data:=.fields #[.int lo t,.int hi u,.int 1 v] }).objs.size],_,_,H,rfl,
  I1.kept (t':=tk) fun b o e=>Heap.get?_push_of_some _ e,uz _ lo (hi - lo).toNat,?_,fun b hb=>?_,q⟩
 ·have e1:lo+((0:Nat):Int) * 1=lo:=by simp
  have e2:(((hi - lo).toNat:Nat):Int) - ((0:Nat):Int)=Builtin.Range.rangeSize lo hi 1:=by rw[rangeSize_one];split<;>omega
  show IsRangeIter _ _ (lo+((0:Nat):Int) * 1) ((((hi - lo).toNat:Nat):Int) - ((0:Nat):Int)) 1
  rw[e1,e2]
  exact Heap.get?_push_size _ rfl
 ·have e:b=(s.heap.push { cls:=.type "range",data:=.fields #[.int lo t,.int hi u,.int 1 v] }).objs.size:=by simpa using hb
  subst e
  exact I1.fpOk (Nat.le_refl _) (I1.hok.fresh (Nat.le_refl _))
noncomputable def cM (ta:TA):TI:=fun σ H R=>ta σ H fun vs H1=>∃j:Int,vs=[.int j]/\-(2 ^ 62)≤j/\j<2 ^ 62/\R (JK 0 j.toNat) H1
noncomputable def dn (ta:TA):TI:=fun σ H R=>ta σ H fun vs H1=>∃i j:Int,vs=[.int i,.int j]/\(-(2 ^ 62)≤i/\i<2 ^ 62/\-(2 ^ 62)≤j/\j<2 ^ 62)/\R (JK i (j - i).toNat) H1
theorem fJ {a:Expr}{ta:TA}{p pos:Pos}(hg:Gl X "range")(hm:X.mg "range" = none)(ha:PA X [a] ta)(hs:starEach [a] X.env=[(false,eval a X.env)]:=by rfl):PI X tg (.Call (.Name "range" p) [a] [] pos) (cM ta):=by
 intro pins s σ H R I h
 refine Call_ (nC I hg hm boot_range (PyProof.Rows.callWith_type1 (dG (ha pos pins s σ H _ I h) fun us s1 ⟨vs,H1,I1,r1,q1⟩=>?_) hs rfl))
 obtain⟨j,e,q1,q2,q⟩:=q1
 subst e
 cases r1 with
 |cons r rr=>
  cases rr
  obtain⟨t,rfl⟩:=r
  exact call_range_1 (y7 I1 (by omega) (by omega) q1 q2 (by simpa using q))
noncomputable def HY (wi:TI)(g:TG)(tb:TS):TS:=fun D σ H=>wi σ H fun J H1=>∃W:Nat->Nat->St->Hp->Prop,(∃m,W 0 m σ H1)/\∀i m σ H,W i m σ H →
 (J.stop i H/\D.nx σ H)\/(J.go i H/\∃N:St->Hp->Prop,(∀σ' H',N σ' H'->∃m',m'<m/\W (i+1) m' σ' H')/\∀x H',J.yld i H x H'->g x σ H' fun σ2 H2=>tb { D with nx:=N,ct:=N,bk:=D.nx } σ2 H2)
noncomputable def oS (fp:List Addr)(h:Heap):List (Addr×Obj):=fp.filterMap fun b=>(h.get? b).map fun o=>(b,o)
theorem jg {fp:List Addr}{h:Heap}{b:Addr}{o:Obj}(hb:b∈fp)(e:h.get? b=some o):(b,o)∈oS fp h:=List.mem_filterMap.mpr ⟨b,hb,by rw[e];rfl⟩
theorem xk {fp:List Addr}{h:Heap}{p:Addr×Obj}(hp:p∈oS fp h):p.1∈fp/\h.get? p.1=some p.2:=by
 obtain⟨b,hb,e⟩:=List.mem_filterMap.mp hp
 cases q:h.get? b with
 |none=>rw[q] at e;cases e
 |some o=>
  rw[q] at e
  have e':(b,o)=p:=Option.some.inj e
  subst e'
  exact⟨hb,q⟩
theorem Inv.pinned {pins:List (Addr×Obj)}{σ:St}{H:Hp}{s:Shared}{fp:List Addr}(I:Inv X pins σ H s)(hf:∀b∈fp,mE X pins H b)(ho:∀b∈fp,∃o,s.heap.get? b=some o/\∀v,o.data≠.cell v):Inv X (pins++oS fp s.heap) σ H s:=
 I.pins_of fun p hp=>(List.mem_append.mp hp).elim (fun z=>I.pin p (List.mem_append_right _ z)) fun z=>by
  obtain⟨hb,e⟩:=xk z
  obtain⟨f0,f1,f2,_⟩:=hf p.1 hb
  obtain⟨o,e',d⟩:=ho p.1 hb
  rw[e] at e';cases e'
  exact⟨e,f0,f1,f2,d⟩
theorem Inv.unpinned {pins pl:List (Addr×Obj)}{σ:St}{H:Hp}{s:Shared}(I:Inv X (pins++pl) σ H s):Inv X pins σ H s:=I.pins_of fun p hp=>I.pin p (List.mem_append_right _ (List.mem_append_left _ hp))
theorem iP {iter:Expr}{body:List Stmt}{wi:TI}{g:TG}{tb:TS}{pos:Pos}(hp:PassesOwn (model X.prog X.w) X.A X.env X.xe)(hc:X.calm=true)(hi:PI X tg iter wi)(hg:PG X tg g)(hb:PSs X body tb)
  (hs:∀x,foldedSetIterable iter X.env x=pure x:=by intro _;rfl):PS X (.For tg iter body [] pos) (HY wi g tb):=by
 intro pins s σ H D I h
 refine wpAny_For (dG (hi pins s σ H _ I h) fun v s1 h1=>dG h1 fun itv s2 h2=>?_) hs
 obtain⟨it,fp,tn,J,H2,e,I2,T,tV,f2,W,⟨m0,w0⟩,turn⟩:=h2
 subst e
 have stat:∀{H':Hp},(∀b∈fp,H' b=none)->∀b∈fp,mE X pins H' b:=fun hn b hb=>⟨hn b hb,(f2 b hb).2⟩
 refine codeAny_forLoop_any (fun n s'=>∃i σ' H',Inv X pins σ' H' s'/\tn i s'.heap/\(∀b∈fp,H' b=none)/\W i n σ' H') ?_ m0 ⟨0,σ,H2,I2,tV,fun b hb=>(f2 b hb).1,w0⟩
 rintro n s3 ⟨i,σ3,H3,I3,xr,fr3,w3⟩
 rcases turn i n σ3 H3 w3 with ⟨stop,qn⟩|⟨go,N,hN,step⟩
 ·refine wpAny_passesOwn hp (dG (T.done X rfl rfl rfl hc i pins s3 σ3 H3 X.xe I3 (stat fr3) xr stop) fun r s4 ⟨hr,I4⟩=>?_)
  subst hr
  exact wpAny_execs_nil ⟨σ3,H3,I4,qn⟩
 ·refine wpAny_passesOwn hp (dG (T.item X rfl rfl rfl hc i pins s3 σ3 H3 X.xe I3 (stat fr3) xr go) fun r s4 ⟨u,hr,h4⟩=>?_)
  subst hr
  refine wpAny_passesOwn hp (dG h4 fun _ s5 ⟨x,H5,I5,r5,y5,st5,fr5⟩=>?_)
  have I5':=I5.pinned (stat fr5) (T.obj _ _ st5)
  refine wpAny_passesOwn hp (dG (hg _ s5 σ3 H5 x u _ I5' r5 (step x H5 y5)) fun _ s6 ⟨σ6,H6,I6,q6⟩=>?_)
  refine wpAny_passesOwn hp (dG (hb _ s6 σ6 H6 _ I6 q6) fun f s7 q7=>?_)
  have again:∀{σ7:St} {H7:Hp},Inv X (pins++oS fp s5.heap) σ7 H7 s7->N σ7 H7->∃m,m<n/\∃i σ' H',Inv X pins σ' H' s7/\tn i s7.heap/\(∀b∈fp,H' b=none)/\W i m σ' H':=fun {σ7 H7} I7 n7=>by
   obtain⟨m',hm,w7⟩:=hN σ7 H7 n7
   refine⟨m',hm,i+1,σ7,H7,I7.unpinned,T.keep _ _ _ st5 fun b hb o e=>(I7.pin (b,o) (List.mem_append_right _ (List.mem_append_right _ (jg hb e)))).1,fun b hb=>?_,w7⟩
   obtain⟨o,e,d⟩:=T.obj _ _ st5 b hb
   exact (I7.pin (b,o) (List.mem_append_right _ (List.mem_append_right _ (jg hb e)))).2.1
  cases f with
  |next=>obtain⟨σ7,H7,I7,n7⟩:=q7;exact again I7 n7
  |cont=>obtain⟨σ7,H7,I7,n7⟩:=q7;exact again I7 n7
  |brk=>obtain⟨σ7,H7,I7,q7⟩:=q7;exact⟨σ7,H7,I7.unpinned,q7⟩
  |ret v=>obtain⟨x7,σ7,H7,I7,r7,q7⟩:=q7;exact⟨x7,σ7,H7,I7.unpinned,r7,q7⟩
end
end L2
namespace L2
open PySem PySem.Spec PyProof.Rows
noncomputable abbrev R2:=V->V->Hp->VK->Prop
noncomputable def kj (X:Cx)(f:Value->Value->Sem Value)(r:R2):Prop:=
 ∀(pins:List (Addr×Obj)) (s:Shared) (σ:St) (H:Hp) (x y:V) (v u:Value) (Q:VK),Inv X pins σ H s->RelV x v->RelV y u->r x y H Q →
  wpAny (model X.prog X.w) X.A (f v u) (EP X pins σ Q) X.xe s
noncomputable def L9 (X:Cx)(f:Value->Sem Value)(r:V->Hp->VK->Prop):Prop:=
 ∀(pins:List (Addr×Obj)) (s:Shared) (σ:St) (H:Hp) (x:V) (v:Value) (Q:VK),Inv X pins σ H s->RelV x v->r x H Q →
  wpAny (model X.prog X.w) X.A (f v) (EP X pins σ Q) X.xe s
noncomputable def gj (X:Cx)(f:Value)(r:List V->Hp->VK->Prop):Prop:=
 ∀(pins:List (Addr×Obj)) (s:Shared) (σ:St) (H:Hp) (xs:List V) (us:List Value) (Q:VK),Inv X pins σ H s->Vals xs us->r xs H Q →
  wpAny (model X.prog X.w) X.A (call f us) (EP X pins σ Q) X.xe s
noncomputable def kO (r:R2)(ta tb:TE):TE:=fun σ H Q=>ta σ H fun x H1=>tb σ H1 fun y H2=>r x y H2 Q
noncomputable def mI (r:V->Hp->VK->Prop)(ta:TE):TE:=fun σ H Q=>ta σ H fun x H1=>r x H1 Q
noncomputable def rI (C:Int->Int->Prop)(g:Int->Int->V):R2:=fun x y H Q=>∃i j,x=.int i/\y=.int j/\C i j/\Q (g i j) H
noncomputable def jm (g:Int->Int->V):R2:=fun x y H Q=>∃i j,x=.int i/\y=.int j/\Q (g i j) H
noncomputable def rU (g:Int->V):V->Hp->VK->Prop:=fun x H Q=>∃i,x=.int i/\Q (g i) H
section
variable {X:Cx}{a b c:Expr}{ta tb tc:TE}{pos:Pos}
theorem Fx (ha:PE X a ta)(hb:PE X b tb){pins:List (Addr×Obj)}{s:Shared}{σ:St}{H:Hp}{R:V->V->Hp->Prop}(I:Inv X pins σ H s)
  (h:ta σ H fun x H1=>tb σ H1 fun y H2=>R x y H2) {Q:Value->Shared->Prop} {f:Value->Value->Sem Value}
  (hf:∀v u s2 x y H2,Inv X pins σ H2 s2->RelV x v->RelV y u->R x y H2->wpAny (model X.prog X.w) X.A (f v u) Q X.xe s2) :
  wpAny (model X.prog X.w) X.A (eval a X.env) (fun v s₁=>wpAny (model X.prog X.w) X.A (eval b X.env) (fun u s₂=>wpAny (model X.prog X.w) X.A (f v u) Q X.xe s₂) X.xe s₁) X.xe s:=by
 refine dG (ha pins s σ H _ I h) fun v s1 ⟨x,H1,I1,r1,q1⟩=>?_
 refine dG (hb pins s1 σ H1 _ I1 q1) fun u s2 ⟨y,H2,I2,r2,q2⟩=>?_
 exact hf v u s2 x y H2 I2 r1 r2 q2
theorem AL {op:Operator}{r:R2}(ho:kj X (binaryOp op) r)(ha:PE X a ta)(hb:PE X b tb):PE X (.BinOp a op b pos) (kO r ta tb):=by
 intro pins s σ H Q I h
 exact wpAny_BinOp (Fx ha hb I h fun v u s2 x y H2 I2 rx ry q=>ho pins s2 σ H2 x y v u Q I2 rx ry q)
theorem JF {op:UnaryOp}{r:V->Hp->VK->Prop}(ho:L9 X (unaryOp op) r)(ha:PE X a ta):PE X (.UnaryOp op a pos) (mI r ta):=by
 intro pins s σ H Q I h
 exact UnaryOp_ (dG (ha pins s σ H _ I h) fun v s1 ⟨x,H1,I1,r1,q1⟩=>ho pins s1 σ H1 x v Q I1 r1 q1)
theorem KF {f:Value->Value->Sem Value}{C:Int->Int->Prop}{g:Int->Int->Int}
  (rule:∀(i j:Int) (t u:Tok) (s:Shared) (Q:Value->Shared->Prop) (E:Value->Shared->Prop),C i j->Q (.int (g i j) s.toks) { s with toks:=s.toks+1 }->wpAny (model X.prog X.w) X.A (f (.int i t) (.int j u)) Q E s) :
  kj X f (rI C fun i j=>.int (g i j)):=by
 intro pins s σ H x y v u Q I rx ry h
 obtain⟨i,j,rfl,rfl,hc,q⟩:=h
 obtain⟨t,rfl⟩:=rx
 obtain⟨t',rfl⟩:=ry
 exact rule i j t t' s _ _ hc ⟨.int (g i j),H,I.tok _,⟨_,rfl⟩,q⟩
theorem Is {f:Value->Value->Sem Value}{g:Int->Int->Int}
  (rule:∀(i j:Int) (t u:Tok) (s:Shared) (Q:Value->Shared->Prop) (E:Value->Shared->Prop),Q (.int (g i j) s.toks) { s with toks:=s.toks+1 }->wpAny (model X.prog X.w) X.A (f (.int i t) (.int j u)) Q E s) :
  kj X f (jm fun i j=>.int (g i j)):=by
 intro pins s σ H x y v u Q I rx ry h
 obtain⟨i,j,rfl,rfl,q⟩:=h
 obtain⟨t,rfl⟩:=rx
 obtain⟨t',rfl⟩:=ry
 exact rule i j t t' s _ _ ⟨.int (g i j),H,I.tok _,⟨_,rfl⟩,q⟩
theorem BN {f:Value->Value->Sem Value}{g:Int->Int->Bool}
  (rule:∀(i j:Int) (t u:Tok) (s:Shared) (Q:Value->Shared->Prop) (E:Value->Shared->Prop),Q (.bool (g i j)) s->wpAny (model X.prog X.w) X.A (f (.int i t) (.int j u)) Q E s) :
  kj X f (jm fun i j=>.bl (g i j)):=by
 intro pins s σ H x y v u Q I rx ry h
 obtain⟨i,j,rfl,rfl,q⟩:=h
 obtain⟨t,rfl⟩:=rx
 obtain⟨t',rfl⟩:=ry
 exact rule i j t t' s _ _ ⟨.bl (g i j),H,I,rfl,q⟩
noncomputable def Jv (i j:Int):Prop:=0<j/\j<1073741824
noncomputable def Kr (i j:Int):Prop:=0≤j/\j≤1000000/\i.natAbs<2 ^ 64
noncomputable def CMul (i j:Int):Prop:=(-(2 ^ 64)<i/\i<2 ^ 64)\/(-(2 ^ 64)<j/\j<2 ^ 64)
theorem CMul.ok {i j:Int}(h:CMul i j):IntMulOk i j:=by
 rcases h with ⟨h1,h2⟩|⟨h1,h2⟩
 ·exact .of_left (intBits_le_64 h1 h2)
 ·exact .of_right (intBits_le_64 h1 h2)
theorem Gk:kj X (binaryOp .Add) (jm fun i j=>.int (i+j)):=Is fun _ _ _ _ _ _ _ q=>add_int q
theorem GH:kj X (binaryOp .Sub) (jm fun i j=>.int (i - j)):=Is fun _ _ _ _ _ _ _ q=>sub_int q
theorem Ha:kj X (binaryOp .Mult) (rI CMul fun i j=>.int (i * j)):=KF fun _ _ _ _ _ _ _ hc q=>mul_int q hc.ok
theorem D7:kj X (binaryOp .FloorDiv) (rI Jv fun i j=>.int (i / j)):=KF fun i j _ _ _ _ _ hc q=>by
 have h1:(0:Int)<j:=hc.1
 have h2:j<1073741824:=hc.2
 exact floordiv_int (by omega) (by rw[Int.fdiv_eq_ediv_of_nonneg i (by omega)];exact q) (.inl (PyProof.noPylong_small (by omega)))
theorem Fw:kj X (binaryOp .Mod) (rI (fun _ j=>0<j) fun i j=>.int (i % j)):=KF fun i j _ _ _ _ _ hc q=>by
 have h1:(0:Int)<j:=hc
 exact mod_int' (by omega) (by rw[Int.fmod_eq_emod_of_nonneg i (by omega)];exact q)
theorem GC:kj X (binaryOp .Pow) (rI Kr fun i j=>.int (i ^ j.toNat)):=KF fun _ _ _ _ _ _ _ hc q=>pow_int_small hc.1 hc.2.1 hc.2.2 q
theorem MP {f:Value->Sem Value}{g:Int->Int}
  (rule:∀(i:Int) (t:Tok) (s:Shared) (Q:Value->Shared->Prop) (E:Value->Shared->Prop),Q (.int (g i) s.toks) { s with toks:=s.toks+1 }->wpAny (model X.prog X.w) X.A (f (.int i t)) Q E s) :
  L9 X f (rU fun i=>.int (g i)):=by
 intro pins s σ H x v Q I rx h
 obtain⟨i,rfl,q⟩:=h
 obtain⟨t,rfl⟩:=rx
 exact rule i t s _ _ ⟨.int (g i),H,I.tok _,⟨_,rfl⟩,q⟩
theorem Fj:L9 X (unaryOp .USub) (rU fun i=>.int (-i)):=MP fun _ _ _ _ _ q=>neg_int q
end
noncomputable def Jq:V->V->Bool
 |.non,.non=>true|.non,.int _=>true|.int _,.non=>true|.non,.bl _=>true|.bl _,.non=>true|.non,.str _=>true|.str _,.non=>true
 |.int _,.int _=>true|.bl _,.bl _=>true|.str _,.str _=>true|.byt _,.byt _=>true
 |.int _,.str _=>true|.str _,.int _=>true|.bl _,.str _=>true|.str _,.bl _=>true
 |_,_=>false
noncomputable def dQ:R2:=fun x y H Q=>Jq x y=true/\Q (.bl (decide (x=y))) H
noncomputable def gd:R2:=fun x y H Q=>Jq x y=true/\Q (.bl (!decide (x=y))) H
theorem wb {i j:Int}:decide (V.int i=V.int j)=(i==j):=by
 rw[Bool.eq_iff_iff]
 simp
theorem Gu {i j:Bool}:decide (V.bl i=V.bl j)=(i==j):=by
 rw[Bool.eq_iff_iff]
 simp
theorem D0 {i j:Str}:decide (V.str i=V.str j)=(i==j):=by
 rw[Bool.eq_iff_iff]
 simp
theorem D1 {i j:Array UInt8}:decide (V.byt i=V.byt j)=(i.toList==j.toList):=by
 rw[Bool.eq_iff_iff]
 cases i
 cases j
 simp
section
variable {X:Cx}{a b c:Expr}{ta tb tc:TE}{pos:Pos}
theorem fu {pins:List (Addr×Obj)}{σ:St}{H:Hp}{s:Shared}{Q:VK}{k k':Bool}(I:Inv X pins σ H s)(q:Q (.bl k) H)(e:k=k'):EP X pins σ Q (.bool k') s:=by
 subst e
 exact⟨.bl k,H,I,rfl,q⟩
theorem wH:kj X (compareOp .NotEq) gd:=by
 intro pins s σ H x y v u Q I rx ry h
 obtain⟨hs,q⟩:=h
 cases x with
 |non=>
  cases rx
  cases y with
  |non=>cases ry;exact PySem.EqNone.ne_none_none (fu I q (by simp))
  |bl j=>cases ry;exact PySem.EqNone.ne_none_bool (fu I q (by simp))
  |int j=>obtain⟨t',rfl⟩:=ry;exact PySem.EqNone.ne_none_int (fu I q (by simp))
  |str j=>obtain⟨t',rfl⟩:=ry;exact PySem.EqNone.ne_none_str (fu I q (by simp))
  |_=>exact absurd (show false=true from hs) Bool.false_ne_true
 |bl i=>
  cases rx
  cases y with
  |non=>cases ry;exact PySem.EqNone.ne_bool_none (fu I q (by simp))
  |bl j=>cases ry;exact ne_bool (fu I q (congrArg not Gu))
  |str j=>obtain⟨t',rfl⟩:=ry;exact PySem.EqMixed.ne_bool_str (fu I q (by simp))
  |_=>exact absurd (show false=true from hs) Bool.false_ne_true
 |int i=>
  obtain⟨t,rfl⟩:=rx
  cases y with
  |non=>cases ry;exact PySem.EqNone.ne_int_none (fu I q (by simp))
  |int j=>obtain⟨t',rfl⟩:=ry;exact ne_int (fu I q (congrArg not wb))
  |str j=>obtain⟨t',rfl⟩:=ry;exact PySem.EqMixed.ne_int_str (fu I q (by simp))
  |_=>exact absurd (show false=true from hs) Bool.false_ne_true
 |str i=>
  obtain⟨t,rfl⟩:=rx
  cases y with
  |non=>cases ry;exact PySem.EqNone.ne_str_none (fu I q (by simp))
  |bl j=>cases ry;exact PySem.EqMixed.ne_str_bool (fu I q (by simp))
  |int j=>obtain⟨t',rfl⟩:=ry;exact PySem.EqMixed.ne_str_int (fu I q (by simp))
  |str j=>obtain⟨t',rfl⟩:=ry;exact ne_str (fu I q (congrArg not D0))
  |_=>exact absurd (show false=true from hs) Bool.false_ne_true
 |byt i=>
  obtain⟨t,rfl⟩:=rx
  cases y with
  |byt j=>obtain⟨t',rfl⟩:=ry;exact PySem.W.ne_bytes (fu I q (congrArg not D1))
  |_=>exact absurd (show false=true from hs) Bool.false_ne_true
 |_=>cases y<;>exact absurd (show false=true from hs) Bool.false_ne_true
theorem IQ:kj X (compareOp .Lt) (jm fun i j=>.bl (decide (i<j))):=BN fun _ _ _ _ _ _ _ q=>lt_int q
theorem JP:kj X (compareOp .LtE) (jm fun i j=>.bl (decide (i≤j))):=BN fun _ _ _ _ _ _ _ q=>le_int q
theorem Iv:kj X (compareOp .Gt) (jm fun i j=>.bl (decide (j<i))):=BN fun _ _ _ _ _ _ _ q=>gt_int q
theorem Jd:kj X (compareOp .GtE) (jm fun i j=>.bl (decide (j≤i))):=BN fun _ _ _ _ _ _ _ q=>ge_int q
theorem aI (b:Expr){op:CmpOp}(h:op≠.In:=by decide)(h2:op≠.NotIn:=by decide):behindInMarks op b=false:=by
 have e1:(op==CmpOp.In)=false:=by cases op<;>first|rfl|exact absurd rfl h
 have e2:(op==CmpOp.NotIn)=false:=by cases op<;>first|rfl|exact absurd rfl h2
 cases b<;>simp[behindInMarks,e1,e2]
theorem BS {op:CmpOp}{r:R2}(ho:kj X (compareOp op) r)(ha:PE X a ta)(hb:PE X b tb)(hm:behindInMarks op b=false):PE X (.Compare a [op] [b] pos) (kO r ta tb):=by
 intro pins s σ H Q I h
 exact wpAny_Compare1 (Fx ha hb I h fun v u s2 x y H2 I2 rx ry q=>ho pins s2 σ H2 x y v u Q I2 rx ry q) hm
noncomputable def cV (t:TE):TT:=fun σ H Q=>t σ H fun x H'=>∃k,x=.bl k/\Q k H'
theorem ly {op:CmpOp}{r:R2}(ho:kj X (compareOp op) r)(ha:PE X a ta)(hb:PE X b tb)(hm:behindInMarks op b=false):PT X (.Compare a [op] [b] pos) (cV (kO r ta tb)):=by
 intro pins s σ H Q I h
 refine wpAny_isTrue_Compare1 (dG (ha pins s σ H _ I h) fun v s1 ⟨x,H1,I1,r1,q1⟩=>dG (hb pins s1 σ H1 _ I1 q1) fun u s2 ⟨y,H2,I2,r2,q2⟩=>
  dG (ho pins s2 σ H2 x y v u _ I2 r1 r2 q2) fun c s3 ⟨z,H3,I3,r3,k,e,q3⟩=>?_) hm
 subst e
 cases r3
 exact wpAny_truthy_bool ⟨H3,I3,q3⟩
noncomputable def bF (r r':R2)(ta tb tc:TE):TE:=fun σ H Q=>ta σ H fun x H1=>tb σ H1 fun y H2=>r x y H2 fun z H3=>∃k,z=.bl k ∧
 (if k=true then tc σ H3 fun w' H4=>r' y w' H4 Q else Q (.bl false) H3)
theorem Af {op op':CmpOp}{r r':R2}(ho:kj X (compareOp op) r)(ho':kj X (compareOp op') r')(ha:PE X a ta)(hb:PE X b tb)(hc:PE X c tc)
  (hm:lastMarks [op,op'] [b,c]=false:=by with_unfolding_all rfl):PE X (.Compare a [op,op'] [b,c] pos) (bF r r' ta tb tc):=by
 intro pins s σ H Q I h
 refine Compare_chain (dG (ha pins s σ H _ I h) fun v s1 ⟨x,H1,I1,r1,q1⟩=>chain_link (dG (hb pins s1 σ H1 _ I1 q1) fun u s2 ⟨y,H2,I2,r2,q2⟩=>
  dG (ho pins s2 σ H2 x y v u _ I2 r1 r2 q2) fun d s3 ⟨z,H3,I3,r3,k,e,q3⟩=>?_)) hm
 subst e
 cases r3
 refine wpAny_truthy_bool ?_
 cases k with
 |false=>exact ite_ff ⟨.bl false,H3,I3,rfl,q3⟩
 |true=>exact ite_tt (chain_last (dG (hc pins s3 σ H3 _ I3 q3) fun w' s4 ⟨z',H4,I4,r4,q4⟩=>ho' pins s4 σ H4 y z' u w' Q I4 r2 r4 q4))
theorem oF:(sizeLine:Nat)<2 ^ 63:=by rw[sizeLine_eq];decide
theorem uC:kj X (binaryOp .Add) (fun x y H Q=>∃i j,x=.str i/\y=.str j/\i.length+j.length≤sizeLine/\Q (.str (i++j)) H):=by
 intro pins s σ H x y v u Q I rx ry h
 obtain⟨i,j,rfl,rfl,hz,q⟩:=h
 obtain⟨t,rfl⟩:=rx
 obtain⟨t',rfl⟩:=ry
 exact add_str (fun t' tk=>⟨.str (i++j),H,I.tok _,⟨_,rfl⟩,q⟩) hz
theorem jE {x:V}{us:List Value}(r:Vals [x] us):∃u,us=[u]/\RelV x u:=by
 cases r with
 |cons r1 r2=>cases r2;exact⟨_,rfl,r1⟩
theorem Ec {x y:V}{us:List Value}(r:Vals [x,y] us):∃u w',us=[u,w']/\RelV x u/\RelV y w':=by
 cases r with
 |cons r1 r2=>
  cases r2 with
  |cons r3 r4=>cases r4;exact⟨_,_,rfl,r1,r3⟩
theorem Au:gj X (.builtin "abs") (fun xs H Q=>∃i,xs=[.int i]/\Q (.int (if i<0 then -i else i)) H):=by
 intro pins s σ H xs us Q I r h
 obtain⟨i,rfl,q⟩:=h
 obtain⟨u,rfl,t,rfl⟩:=jE r
 exact call_abs_int fun u tk=>⟨.int (if i<0 then -i else i),H,I.tok _,⟨_,rfl⟩,q⟩
theorem x6 (hc:X.calm=true):gj X (.builtin "max") (fun xs H Q=>∃i j,xs=[.int i,.int j]/\Q (.int (if j > i then j else i)) H):=by
 intro pins s σ H xs us Q I r h
 obtain⟨i,j,rfl,q⟩:=h
 obtain⟨u,w',rfl,⟨t,rfl⟩,⟨t',rfl⟩⟩:=Ec r
 refine max_two_ints (I.ok.hd hc) fun h' tk k=>⟨_,H,I.kept k,?_,q⟩
 by_cases hj:j > i
 ·rw[if_pos hj,if_pos hj];exact⟨_,rfl⟩
 ·rw[if_neg hj,if_neg hj];exact⟨_,rfl⟩
theorem mB (hc:X.calm=true):gj X (.builtin "min") (fun xs H Q=>∃i j,xs=[.int i,.int j]/\Q (.int (if j<i then j else i)) H):=by
 intro pins s σ H xs us Q I r h
 obtain⟨i,j,rfl,q⟩:=h
 obtain⟨u,w',rfl,⟨t,rfl⟩,⟨t',rfl⟩⟩:=Ec r
 refine min_two_ints (I.ok.hd hc) fun h' tk k=>⟨_,H,I.kept k,?_,q⟩
 by_cases hj:j<i
 ·rw[if_pos hj,if_pos hj];exact⟨_,rfl⟩
 ·rw[if_neg hj,if_neg hj];exact⟨_,rfl⟩
theorem mJ:gj X (.type "int") (fun xs H Q=>(∃i,xs=[.int i]/\Q (.int i) H)\/∃k,xs=[.bl k]/\Q (.int (if k then 1 else 0)) H):=by
 intro pins s σ H xs us Q I r h
 rcases h with ⟨i,rfl,q⟩|⟨k,rfl,q⟩
 ·obtain⟨u,rfl,t,rfl⟩:=jE r
  exact call_int_int ⟨.int i,H,I,⟨_,rfl⟩,q⟩
 ·obtain⟨u,rfl,r1⟩:=jE r
  cases r1
  exact call_int_bool ⟨.int (if k then 1 else 0),H,I.tok _,⟨_,rfl⟩,q⟩
noncomputable def Ke (K:PySem.W.Frag)(x:V)(H:Hp)(n:Nat):Prop:=
 match x with
 |.str y=>y.length≤sizeLine/\n=y.length
 |.byt y=>y.size≤sizeLine/\n=y.size
 |.ref p=>(∃xs,SqL K H p xs/\n=xs.length)\/∃xs,SqT K H p xs/\n=xs.length
 |_=>False
theorem cH:gj X (.builtin "len") (fun xs H Q=>∃x n,xs=[x]/\Ke X.K x H n/\Q (.int n) H):=by
 intro pins s σ H xs us Q I r h
 obtain⟨x,n,rfl,e,q⟩:=h
 obtain⟨u,rfl,rx⟩:=jE r
 have hl:=oF
 have hs:sizeLine=16777216:=sizeLine_eq
 cases x with
 |str y=>
  obtain⟨t,rfl⟩:=rx
  obtain⟨hy,e'⟩:y.length≤sizeLine/\n=y.length:=e
  subst e'
  exact len_str (by omega) ⟨.int _,H,I.tok _,⟨_,rfl⟩,q⟩
 |byt y=>
  obtain⟨t,rfl⟩:=rx
  obtain⟨hy,e'⟩:y.size≤sizeLine/\n=y.size:=e
  subst e'
  exact PySem.W.len_bytes (by omega) ⟨.int _,H,I.tok _,⟨_,rfl⟩,q⟩
 |ref p=>
  cases rx
  have e':(∃xs,SqL X.K H p xs/\n=xs.length)\/∃xs,SqT X.K H p xs/\n=xs.length:=e
  rcases e' with ⟨xs,hx,e'⟩|⟨xs,hx,e'⟩
  ·subst e'
   obtain⟨its,r',pl,hz⟩:=I.list hx
   have hlen:=r'.length
   exact Calls.call_len_list pl.isList (by simp only[List.size_toArray];omega) ⟨.int xs.length,H,I.tok _,⟨_,by simp only[List.size_toArray];rw[hlen]⟩,q⟩
  ·subst e'
   obtain⟨its,r',pl,hz⟩:=I.tuple hx
   have hlen:=r'.length
   exact len_tuple pl (by simp only[List.size_toArray];omega) ⟨.int xs.length,H,I.tok _,⟨_,by simp only[List.size_toArray];rw[hlen]⟩,q⟩
 |_=>exact (show False from e).elim
end
end L2
namespace L2
open PySem PySem.Spec PyProof.Rows
structure ObjM (h:Heap)(x dx C:Addr)(mA:Str->Option Value):Prop where
 obj:h.get? x=some (PySem.W.instObj C dx)
 ns:h.Ns1 dx mA
 ne:dx≠x
theorem yg {h:Heap}{dx:Addr}{mA:Str->Option Value}(n:h.Ns1 dx mA):∃od,h.get? dx=some od/\∀name,PySem.W.lookIn name od=some (mA name):=by
 obtain⟨o,es,ep,ho,hd,hk,_,hm⟩:=n
 refine⟨o,ho,fun name=>?_⟩
 have e:=hm name
 unfold nsFind findBy at e
 rw[←Array.find?_toList] at e
 unfold PySem.W.lookIn
 rw[hd]
 dsimp only
 split
 ·rename_i y q
  rw[q] at e
  exact congrArg some e
 ·rename_i q
  rw[q] at e
  have a:es.toList.any (·.refKey)=false:=by
   rw[List.any_eq_false]
   intro y hy
   obtain⟨z,t,hkey⟩:=hk y (Array.mem_toList_iff.mp hy)
   simp[DictEntry.refKey,hkey]
  have a':¬es.toList.any (·.refKey)=true:=by rw[a];exact Bool.false_ne_true
  rw[if_neg a']
  exact congrArg some e
theorem ObjM.look {h:Heap}{x dx C:Addr}{mA:Str->Option Value}(I:ObjM h x dx C mA):∃od,PySem.W.InstAt h x (PySem.W.instObj C dx) C (some od)/\∀name,PySem.W.lookIn name od=some (mA name):=
 let ⟨od,ho,hl⟩:=yg I.ns
 ⟨od,⟨I.obj,rfl,rfl,ho⟩,hl⟩
section
variable {prog:Program}{w:World}{A:Around}{E:Value->Shared->Prop}{s:Shared}{K:PySem.W.Frag}{x dx C f:Addr}{mA:Str->Option Value}{name:Str}{v:Value}
theorem kd {ns:List Str}{Q:Unit->Shared->Prop}(X:K.In s.heap)(I:ObjM s.heap x dx C mA)
  (hs:PySem.W.findIn K (.ref C) "__setattr__" = some (some (.builtin "object.__setattr__"))) (hp:PySem.W.plainOver K C=true) (ht:PySem.W.takerIn K C name=some none) (hh:PySem.W.hasDictIn K C=true)
  (hw:PySem.Within mA ns) (hsz:ns.length≤sizeLine)
  (h:∀h',ObjM h' x dx C (fun y=>if y=name then some v else mA y)->Heap.SameBut dx s.heap h'->Q () { s with heap:=h',toks:=s.toks+2 }) :
  wpAny (model prog w) A (setAttr (.ref x) name v) Q E s:=by
 obtain⟨od,J,hl⟩:=I.look
 refine PySem.W.set_plain X J hs (PySem.W.osa_open (s:={ s with toks:=s.toks+1 }) (r:=none) X J hp ht fun b=>?_)
 obtain⟨cd,hc,hd'⟩:=PySem.W.any_some hh
 have hx:s.heap.get? x=some ⟨.ref C,some dx,.plain,#[]⟩:=I.obj
 refine wpAny_bind (wpAny_pure (wpAny_bind (wpAny_bind (wpAny_loadPart hx (wpAny_bind (PySem.W.Looks.here (s:={ s with toks:=s.toks+1 }) (PySem.W.looks_clsIn X hc) ?_))))))
 rw[hd']
 refine wpAny_pure (a:=some dx) (wpAny_bind (wpAny_pure (wpAny_bind ?_)))
 refine wpAny_nsSet1 (s:={ s with toks:=s.toks+1 }) I.ns fun h' hn2 hs2=>?_
 obtain⟨oD,esD,epD,hoD,hdD,hcD⟩:=hn2.count (PySem.Within.cons name v hw)
 refine wpAny_bind (wpAny_lookBehind hoD (by rw[hdD];exact pastItsLine_dict (Nat.le_trans hcD (by rw[List.length_cons];omega))) ?_)
 exact wpAny_pure (h _ ⟨(hs2.2 _ (Ne.symm I.ne)).trans I.obj,hn2,I.ne⟩ hs2)
end
section
variable {P:Program}{w:World}{H H':Hp}{h h':Heap}{a C dx:Addr}{fs fs':List (Str×V)}
theorem B5 (hok:HOk P w H h)(e:H a=some (.ins C dx fs)):∃mA,ObjM h a dx C mA/\(∀f,Hg (fs.lookup f) (mA f))/\PySem.Within mA (fs.map (·.1))/\fs.length≤1000/\H dx=some (.own a):=by
 obtain⟨d,z,ne,ob,mA,n,r,q⟩:=(show ObjOk P w H h a (.ins C dx fs) from hok a _ e)
 exact⟨mA,⟨ob,n,ne⟩,r,q,z,d⟩
end
structure Cls (K:PySem.W.Frag)(C:Addr):Prop where
 pg:PySem.W.plainGet K C Str.empty=true
 hd:PySem.W.hasDictIn K C=true
 po:PySem.W.plainOver K C=true
 sa:PySem.W.findIn K (.ref C) "__setattr__" = some (some (.builtin "object.__setattr__"))
theorem Cls.get {K:PySem.W.Frag}{C:Addr}(c:Cls K C)(f:Str):PySem.W.plainGet K C f=true:=c.pg
section
variable {X:Cx}{o e value:Expr}{f:Str}{pos pos' tpos:Pos}{ta tv:TE}
noncomputable def bV:V->V->Hp->VK->Prop:=fun x y H Q=>∃i j,x=.int i/\y=.int j/\Q (.int (i+j)) H
noncomputable def sS:V->V->Hp->VK->Prop:=fun x y H Q=>∃i j,x=.int i/\y=.int j/\Q (.int (i - j)) H
end
section
variable {X:Cx}{pins:List (Addr×Obj)}{σ:St}{H:Hp}{s:Shared}{A:Around}{E:Value->Shared->Prop}{Q:Value->Shared->Prop}{c:Value}{b:Bool}
inductive TyOf (K:PySem.W.Frag) (H:Hp):V->Value->Prop where
 |non:TyOf K H .non (.type "NoneType")
 |bl (x:Bool):TyOf K H (.bl x) (.type "bool")
 |int (i:Int):TyOf K H (.int i) (.type "int")
 |str (x:Str):TyOf K H (.str x) (.type "str")
 |flt (x:UInt64):TyOf K H (.flt x) (.type "float")
 |lst {a:Addr} {xs:List V} (e:H a=some (.lst xs)):TyOf K H (.ref a) (.type "list")
 |frz {a:Addr} {o:Obj} {xs:List V} (e:H a=some (.frz o (.lst xs))):TyOf K H (.ref a) (.type "list")
 |tup {a:Addr} {xs:List V} (e:H a=some (.tup xs)):TyOf K H (.ref a) (.type "tuple")
 |dK {a:Addr} {kvs:List (jD×V)} (e:H a=some (.dK kvs)):TyOf K H (.ref a) (.type "dict")
 |dT {a:Addr} {kvs:List (List jD×V)} (e:H a=some (.dT kvs)):TyOf K H (.ref a) (.type "dict")
 |ins {a C dx:Addr} {fs:List (Str×V)} (e:H a=some (.ins C dx fs)) (cl:Cls K C) (ha:PySem.W.findIn K (.ref C) "__class__" = some (some (.builtin "object.__class__")))
   (hn:PySem.W.specialIn K (.builtin "object.__class__") "__get__" = some (some (.builtin "getset_descriptor.__get__"))) (htk:PySem.W.takesIn K (.builtin "object.__class__")=some true)
   (hm:PySem.W.mroIn K C (.type "object")=some true):TyOf K H (.ref a) (.ref C)
theorem xV {x:V}{u t:Value}(I:Inv X pins σ H s)(rx:RelV x u)(ty:TyOf X.K H x t)(e:PySem.W.kitOne X.K t c=some b)(h:∀tk,Q (.bool b) { s with toks:=tk }) :
  wpAny (model X.prog X.w) A (call (.builtin "isinstance") [u,c]) Q E s:=by
 cases ty with
 |non=>cases (show u=Value.none from rx);exact PySem.W.kia_one PySem.W.kitx_none I.kIn True.intro e (fun z=>nomatch z) h
 |bl y=>cases (show u=Value.bool y from rx);exact PySem.W.kia_one PySem.W.kitx_bool I.kIn True.intro e (fun z=>nomatch z) h
 |int i=>obtain⟨t,q⟩:=(show ∃t,u=Value.int i t from rx);cases q;exact PySem.W.kia_one PySem.W.kitx_int I.kIn True.intro e (fun z=>nomatch z) h
 |str y=>obtain⟨t,q⟩:=(show ∃t,u=Value.str y t from rx);cases q;exact PySem.W.kia_one PySem.W.kitx_str I.kIn True.intro e (fun z=>nomatch z) h
 |flt y=>obtain⟨t,q⟩:=(show ∃t,u=Value.float y t from rx);cases q;exact PySem.W.kia_one PySem.W.kitx_float I.kIn True.intro e (fun z=>nomatch z) h
 | @lst a xs ea=>
  cases (show u=Value.ref a from rx)
  obtain⟨_,_,n,_,h1⟩:=(show ObjOk X.prog X.w H s.heap a (.lst xs) from I.hok a _ ea)
  exact PySem.W.kia_one PySem.W.kitx_list I.kIn ⟨_,h1,rfl⟩ e (fun z=>nomatch z) h
 | @frz a ob xs ea=>
  cases (show u=Value.ref a from rx)
  obtain⟨_,_,_,n,_,h1⟩:=(show ObjOk X.prog X.w H s.heap a (.frz ob (.lst xs)) from I.hok a _ ea)
  exact PySem.W.kia_one PySem.W.kitx_list I.kIn ⟨_,h1,rfl⟩ e (fun z=>nomatch z) h
 | @tup a xs ea=>
  cases (show u=Value.ref a from rx)
  obtain⟨_,_,_,p⟩:=(show ObjOk X.prog X.w H s.heap a (.tup xs) from I.hok a _ ea)
  obtain⟨o,h1,h2,_⟩:=p
  exact PySem.W.kia_one PySem.W.kitx_tuple I.kIn ⟨o,h1,h2⟩ e (fun z=>nomatch z) h
 | @dK a kvs ea=>
  cases (show u=Value.ref a from rx)
  obtain⟨_,_,vs,_,p⟩:=(show ObjOk X.prog X.w H s.heap a (.dK kvs) from I.hok a _ ea)
  obtain⟨o,es,ep,h1,h2,_⟩:=p
  exact PySem.W.kia_one PySem.W.kitx_dict I.kIn ⟨o,h1,h2.1⟩ e (fun z=>nomatch z) h
 | @dT a kvs ea=>
  cases (show u=Value.ref a from rx)
  obtain⟨_,_,xs,_,o,es,ep,h1,h2,_⟩:=(show ObjOk X.prog X.w H s.heap a (.dT kvs) from I.hok a _ ea)
  exact PySem.W.kia_one PySem.W.kitx_dict I.kIn ⟨o,h1,h2.1⟩ e (fun z=>nomatch z) h
 | @ins a C dx fs ea cl ha hn htk hm=>
  cases (show u=Value.ref a from rx)
  obtain⟨mA,O,_⟩:=B5 I.hok ea
  obtain⟨od,J,_⟩:=O.look
  exact PySem.W.kia_one (PySem.W.kitx_own (cl.get _) cl.hd ha hn htk hm) I.kIn J e (fun z=>nomatch z) h
end
end L2
namespace L2
open PySem PySem.Spec PyProof.Rows
structure Room (k:Nat)(A:Around):Prop where
 hd:A.handled=none
 dp:A.depth+3 * k+5<recursionLimit
 un:A.units+16 * k+200<cLine
theorem Room.mono {j k:Nat}{A:Around}(r:Room k A)(h:j≤k):Room j A:=⟨r.hd,by have:=r.dp;omega,by have:=r.un;omega⟩
theorem Room.deeper {k:Nat}{A:Around}(r:Room (k+1) A)(env:Env):Room k (A.deeper env):=
 ⟨r.hd,by have:=r.dp;show A.depth+1+3 * k+5<_;omega,by have:=r.un;show A.units+3+16 * k+200<_;omega⟩
theorem Room.depth {k:Nat}{A:Around}(r:Room k A):A.depth<recursionLimit:=by have:=r.dp;omega
theorem Room.units {k:Nat}{A:Around}(r:Room k A):A.units+64<cLine:=by have:=r.un;omega
noncomputable def gD:TA:=fun _ H Q=>Q [] H
noncomputable def cS (ta:TE)(tr:TA):TA:=fun σ H Q=>ta σ H fun x H1=>tr σ H1 fun xs H2=>Q (x::xs) H2
section
variable {X:Cx}{e:Expr}{es:List Expr}{te:TE}{t:TA}{pos:Pos}
theorem fW:PA X [] gD:=fun _ _ _ _ H Q I h=>Calls.spliced_nil ⟨[],H,I,.nil,h⟩
theorem DC (ha:PE X e te)(hr:PA X es t)(hs:starEach (e::es) X.env=(false,eval e X.env)::starEach es X.env:=by rfl):PA X (e::es) (cS te t):=by
 intro pos pins s σ H Q I h
 rw[hs]
 show wpAny _ _ (spliced ((false,eval e X.env)::backTo pos (starEach es X.env))) _ _ s
 refine Calls.spliced_cons (dG (ha pins s σ H _ I h) fun u s1 ⟨x,H1,I1,r1,q1⟩=>?_)
 exact dG (hr pos pins s1 σ H1 _ I1 q1) fun us s2 ⟨xs,H2,I2,r2,q2⟩=>⟨x::xs,H2,I2,.cons r1 r2,q2⟩
noncomputable def gK (t:TA):TE:=fun σ H Q=>t σ H fun xs H1=>xs.length≤sizeLine/\∀p,H1 p=none->Q (.ref p) (upd H1 p (.tup xs))
noncomputable def gA (t:TA):TE:=fun σ H Q=>t σ H fun xs H1=>xs.length≤sizeLine/\∀p,H1 p=none->Q (.ref p) (upd H1 p (.lst xs))
theorem kR {x1}(h:PA X es t):PE X (.Tuple es x1 pos) (gK t):=by
 intro pins s σ H Q I hq
 refine wpAny_Tuple_spliced (dG (h pos pins s σ H _ I hq) fun us s1 ⟨xs,H1,I1,r,z,q⟩=>⟨by rw[←r.length];exact z,?_⟩)
 have hf:H1 s1.heap.objs.size=none:=I1.hok.fresh (Nat.le_refl _)
 refine⟨.ref s1.heap.objs.size,upd H1 s1.heap.objs.size (.tup xs),I1.laid (t':=s1.toks) (fun b u e=>Heap.get?_push_of_some _ e) (Nat.le_refl _) ?_,rfl,q _ hf⟩
 exact⟨z,us,r,⟨_,Heap.get?_push_size _ rfl,rfl,_,rfl⟩⟩
theorem Gx (h:PA X es t):PE X (.List es pos) (gA t):=by
 intro pins s σ H Q I hq
 refine wpAny_List_spliced (dG (h pos pins s σ H _ I hq) fun us s1 ⟨xs,H1,I1,r,z,q⟩=>⟨by rw[←r.length];exact z,?_⟩)
 have hf:H1 s1.heap.objs.size=none:=I1.hok.fresh (Nat.le_refl _)
 refine⟨.ref s1.heap.objs.size,upd H1 s1.heap.objs.size (.lst xs),I1.laid (t':=s1.toks) (fun b u e=>Heap.get?_push_of_some _ e) (Nat.le_refl _) ?_,rfl,q _ hf⟩
 exact⟨z,us,0,r,Heap.get?_push_size _ rfl⟩
end
noncomputable abbrev Sp:=List V->Hp->VK->XK->Prop
noncomputable abbrev wn:=List Env->Hp->Shared->XK->Value->Shared->Prop
structure Env0 (P:Program)(w:World)(K:PySem.W.Frag)(mg:Str->Option Value)(base:Heap)(A:Around)(outer:List Env)(s:Shared)(H:Hp):Prop where
 frames:A.frames=some outer
 mod:Mod K mg base
 bs:∀b o,base.get? b=some o->s.heap.get? b=some o/\H b=none
 bsz:base.objs.size≤s.heap.objs.size
 funs:s.heap.FunFrames base outer
 frf:∀b∈uv outer,H b=none
 hok:HOk P w H s.heap
 bare:AllBare s.gens
noncomputable def CE (outer:List Env)(P:Program)(w:World)(H:Hp)(s:Shared)(Q:VK)(u:Value)(s':Shared):Prop:=
 ∃v H',s'.os=s.os/\AllBare s'.gens/\Un (uv outer) [] H H' s.heap s'.heap/\HOk P w H' s'.heap/\RelV v u/\Q v H'
noncomputable def CR (CX:wn)(outer:List Env)(P:Program)(w:World)(H:Hp)(s:Shared)(Q:VK)(E:XK)(r:Result)(s':Shared):Prop:=
 match r with
 |.ok (.ret u)=>CE outer P w H s Q u s'
 |.ok _=>False
 |.error e=>CX outer H s E e s'
structure FnOk (P:Program)(w:World)(K:PySem.W.Frag)(mg:Str->Option Value)(base:Heap)(CX:wn)(k:Nat)(f:Addr)(fd:FuncData)(ps:List Str)(sp:Sp):Prop where
 len:∀vs H Q E,sp vs H Q E->vs.length=ps.length
 run:∀(A:Around) (outer:List Env) (s:Shared) (H:Hp) (args:Args) (us:List Value) (vs:List V) (Q:VK) (E:XK),Room k A->Env0 P w K mg base A outer s H->BindsTo s fd args (ps.zip us)->Vals vs us->sp vs H Q E →
  codeAny (model P w) A (.call (.ref f) args) (CR CX outer P w H s Q E) s
theorem FnOk.imp {P:Program}{w:World}{K:PySem.W.Frag}{mg:Str->Option Value}{base:Heap}{CX:wn}{k:Nat}{f:Addr}{fd:FuncData}{ps:List Str}{sp sp':Sp}(F:FnOk P w K mg base CX k f fd ps sp)
  (h:∀vs H Q E,sp' vs H Q E->sp vs H Q E):FnOk P w K mg base CX k f fd ps sp':=
 ⟨fun vs H Q E q=>F.len vs H Q E (h _ _ _ _ q),fun A outer s H args us vs Q E hr he hb hv hs=>F.run A outer s H args us vs Q E hr he hb hv (h _ _ _ _ hs)⟩
section
variable {X:Cx}{pins:List (Addr×Obj)}{σ:St}{H:Hp}{s s':Shared}
theorem Inv.env0 (I:Inv X pins σ H s):Env0 X.prog X.w X.K X.mg X.base X.A X.stack s H:=
 ⟨I.ok.frames,I.ok.mod,I.bs,Nat.le_trans I.ok.bsz I.sz,I.stack,I.stkFree,I.hok,I.bare⟩
theorem Inv.after {Q:VK}{u:Value}(I:Inv X pins σ H s)(h:CE X.stack X.prog X.w H s Q u s'):EP X pins σ Q u s':=by
 obtain⟨v,H',os,bare,un,hok,r,q⟩:=h
 obtain⟨hh,g,d,t,os'⟩:=s'
 obtain rfl:os'=s.os:=os
 exact⟨v,H',I.call (h':=hh) (g':=g) (d':=d) (t':=t) (ch:=[]) un hok bare (fun b z=>absurd z (by simp)),r,q⟩
end
noncomputable def bY (sp:Sp)(dvs:List V)(E:XK)(t:TA):TE:=fun σ H Q=>t σ H fun vs H1=>sp (vs++dvs) H1 Q E
noncomputable def Binds (K:PySem.W.Frag)(fd:FuncData)(ps:List Str)(ds:List Value):Prop:=
 ∀(s:Shared) (us:List Value),K.In s.heap->(us++ds).length=ps.length->BindsTo s fd ⟨us,[]⟩ (ps.zip (us++ds))
theorem Binds.all {K:PySem.W.Frag}{fd:FuncData}{ps:List Str}(h:∀us:List Value,us.length=ps.length->bindArgs fd ⟨us,[]⟩=pure (ps.zip us)):Binds K fd ps []:=fun s us _ hl=>by
 rw[List.append_nil] at hl ⊢
 exact .of_eq (h us hl)
noncomputable def vz (CX:wn)(X:Cx)(E:XK):Prop:=∀(pins:List (Addr×Obj)) (σ:St) (H:Hp) (s:Shared) (e:Value) (s':Shared),Inv X pins σ H s->CX X.stack H s E e s'->X.xe e s'
section
variable {X:Cx}{CX:wn}{k:Nat}{f C:Addr}{fd:FuncData}{ps:List Str}{sp:Sp}{dvs:List V}{ds:List Value}{E:XK}{x m:Str}{p pos apos:Pos}{e o:Expr}{es:List Expr}{ta:TE}{t:TA}
theorem Ak {pins:List (Addr×Obj)}{σ:St}{H:Hp}{s:Shared}{Q:VK}{us:List Value}{vs:List V}(F:FnOk X.prog X.w X.K X.mg X.base CX k f fd ps sp)(hr:Room k X.A)(hb:Binds X.K fd ps ds)(hd:Vals dvs ds)(hx:vz CX X E)
  (I:Inv X pins σ H s) (r:Vals vs us) (h:sp (vs++dvs) H Q E):wpAny (model X.prog X.w) X.A (call (.ref f) us) (EP X pins σ Q) X.xe s:=by
 have r2:Vals (vs++dvs) (us++ds):=r.append hd
 have hl:(us++ds).length=ps.length:=by rw[←r2.length];exact F.len _ _ _ _ h
 refine wpAny_call (codeAny_mono (F.run X.A X.stack s H ⟨us,[]⟩ (us++ds) (vs++dvs) Q E hr I.env0 (hb s us I.kIn hl) r2 h) fun r s' hq=>?_)
 cases r with
 |error e=>exact hx pins σ H s e s' I hq
 |ok fl=>
  cases fl with
  |ret u=>exact I.after hq
  |next=>exact False.elim hq
  |brk=>exact False.elim hq
  |cont=>exact False.elim hq
theorem Di (F:FnOk X.prog X.w X.K X.mg X.base CX k f fd ps sp)(hr:Room k X.A)(hg:Gl X x)(hm:X.mg x=some (.ref f))(hk:PySem.W.keepIn X.K (.ref f)=true)(hb:Binds X.K fd ps ds)(hd:Vals dvs ds)(hx:vz CX X E)
  (ha:PA X (e::es) t) (hdb:(x==("__debug__" : Str))=false:=by decide) (he:starEach (e::es) X.env=(false,eval e X.env)::starEach es X.env:=by rfl) (hpl:(backTo pos (starEach es X.env)).any (·.1)=false:=by rfl) :
  PE X (.Call (.Name x p) (e::es) [] pos) (bY sp dvs E t):=by
 intro pins s σ H Q I h
 refine wpAny_Call_Name_kw (v0 I hg hm ?_ hdb)
 refine PySem.W.callWith_K (h₀:=X.base) I.ok.mod.kin hk (dG (ha pos pins s σ H _ I h) fun us s1 ⟨vs,H1,I1,r,q⟩=>⟨I1.kIn,?_⟩) he hpl
 exact Ak F hr hb hd hx I1 r q
end
section
variable {X:Cx}{CX:wn}{k:Nat}{f C:Addr}{fd:FuncData}{ps ks:List Str}{sp:Sp}{E:XK}{x m:Str}{p pos apos kpos:Pos}{e o:Expr}{es:List Expr}{kws:List Keyword}{te ta:TE}{t tk:TA}{nm:Option Str}
variable {g:List Value->List Value->List Value}{gV:List V->List V->List V}
end
structure FnScope (N P:List Str)(sc:Scope):Prop where
 kind:sc.kind=.function
 co:sc.isCoroutine=false
 gen:sc.isGenerator=false
 nd:N.Nodup
 pre:N.take P.length=P
 par:∀x∈P,sc.names.lookup x=some .local\/sc.names.lookup x=some .cell
 nofree:∀y∈sc.names,y.2≠.free
theorem pZ {kindOf:Str->Option NameKind}{x:Str}:∀{binds:List (Str×Value)} {m:Str->Option Value},(∀v,(x,v)∉binds)->bindL kindOf binds m x=m x
 |[],_,_=>rfl
 |(n,v)::r,m,h=>by
  unfold bindL
  rw[pZ fun w hw=>h w (List.mem_cons_of_mem _ hw)]
  split
  ·have:x≠n:=by rintro rfl;exact h v List.mem_cons_self
   simp[this]
  ·rfl
theorem qv {kindOf:Str->Option NameKind}{x:Str}:∀{binds:List (Str×Value)} {m:Str->Option Value},(∀v,(x,v)∉binds)->bindC kindOf binds m x=m x
 |[],_,_=>rfl
 |(n,v)::r,m,h=>by
  unfold bindC
  rw[qv fun w hw=>h w (List.mem_cons_of_mem _ hw)]
  split
  ·rfl
  ·have:x≠n:=by rintro rfl;exact h v List.mem_cons_self
   simp[this]
theorem pX {kindOf:Str->Option NameKind}{x:Str}{v:Value}:∀{P:List Str} {vs:List Value} {i:Nat} {m:Str->Option Value},P.Nodup->P[i]?=some x->vs[i]?=some v->kindOf x=some .local →
  bindL kindOf (P.zip vs) m x=some v
 |[],_,_,_,_,h,_,_=>by simp at h
 |_::_,[],_,_,_,_,h,_=>by simp at h
 |p::P,w::vs,0,m,nd,h1,h2,hk=>by
  simp at h1 h2;subst h1;subst h2
  show bindL kindOf ((p,w)::P.zip vs) m p=_
  unfold bindL
  rw[pZ fun v hv=>(List.nodup_cons.mp nd).1 (List.of_mem_zip hv).1,if_pos hk]
  simp
 |p::P,w::vs,i+1,m,nd,h1,h2,hk=>by
  show bindL kindOf ((p,w)::P.zip vs) m x=_
  unfold bindL
  exact pX (i:=i) (List.nodup_cons.mp nd).2 (by simpa using h1) (by simpa using h2) hk
theorem p9 {kindOf:Str->Option NameKind}{x:Str}{v:Value}:∀{P:List Str} {vs:List Value} {i:Nat} {m:Str->Option Value},P.Nodup->P[i]?=some x->vs[i]?=some v->kindOf x≠some .local →
  bindC kindOf (P.zip vs) m x=some v
 |[],_,_,_,_,h,_,_=>by simp at h
 |_::_,[],_,_,_,_,h,_=>by simp at h
 |p::P,w::vs,0,m,nd,h1,h2,hk=>by
  simp at h1 h2;subst h1;subst h2
  show bindC kindOf ((p,w)::P.zip vs) m p=_
  unfold bindC
  rw[qv fun v hv=>(List.nodup_cons.mp nd).1 (List.of_mem_zip hv).1,if_neg hk]
  simp
 |p::P,w::vs,i+1,m,nd,h1,h2,hk=>by
  show bindC kindOf ((p,w)::P.zip vs) m x=_
  unfold bindC
  exact p9 (i:=i) (List.nodup_cons.mp nd).2 (by simpa using h1) (by simpa using h2) hk
noncomputable def be (N:List Str)(vs:List V):St:=vs.map some++List.replicate (N.length - vs.length) none
noncomputable def lV (CX:wn)(P:Program)(w:World)(K:PySem.W.Frag)(mg:Str->Option Value)(base:Heap)(N:List Str)(qual:Str)(scope:Scope)(f:Addr)(cd:Value)(A:Around)(outer:List Env)(s:Shared)(H:Hp)(E:XK):Cx where
 prog:=P
 w:=w
 K:=K
 mg:=mg
 base:=base
 A:=A.deeper (envOfC qual scope s.heap.objs.size f cd)
 N:=N
 s₀:=s
 H₀:=H
 env:=envOfC qual scope s.heap.objs.size f cd
 outer:=outer
 stack:=envOfC qual scope s.heap.objs.size f cd::outer
 ex:=[]
 calm:=true
 fn:=fun _=>true
 pn:=[]
 xe:=fun e s'=>wpAny (model P w) (A.deeper (envOfC qual scope s.heap.objs.size f cd)) (leaving (envOfC qual scope s.heap.objs.size f cd) e) (fun _ s''=>CX outer H s E e s'') (fun e' s''=>CX outer H s E e' s'') s'
theorem sQ {sc:Scope}{n:Nat}{x:Str}(h:sc.names.lookup x=some .cell):∃c,(cellsFrom n sc.names []).lookup x=some c:=by
 have q:=PySem.W.cellsFrom_some sc.names n [] (.inl h)
 exact Option.isSome_iff_exists.mp q
theorem xf {CX:wn}{P:Program}{w:World}{K:PySem.W.Frag}{mg:Str->Option Value}{base:Heap}{N ps:List Str}{qual:Str}{scope:Scope}{f:Addr}{cd:Value}{A:Around}{outer:List Env}{s s1:Shared}{H:Hp}{E:XK}{us:List Value}{vs:List V}
  (S:FnScope N ps scope) (hd:A.handled=none) (e0:Env0 P w K mg base A outer s H) (hl:vs.length=ps.length) (r:Vals vs us)
  (x:InCallC s s.heap.objs.size (bindL (envOfC qual scope s.heap.objs.size f cd).kindOf (ps.zip us) fun _=>none) (cellsFrom (s.heap.objs.size+1) scope.names []) (bindC (envOfC qual scope s.heap.objs.size f cd).kindOf (ps.zip us) fun _=>none) s1) :
  Inv (lV CX P w K mg base N qual scope f cd A outer s H E) [] (be N vs) H s1:=by
 have hpl:ps.length≤N.length:=by have:=congrArg List.length S.pre;rw[List.length_take] at this;omega
 obtain⟨h1,tk,rfl,hk⟩:=x.done
 have noA:∀b:Addr,b∉(lV CX P w K mg base N qual scope f cd A outer s H E).ex:=fun b z=>absurd (show b∈([]:List Addr) from z) (by simp)
 refine⟨⟨e0.mod,S.kind,rfl,rfl,Nat.le_refl _,fun y z c h1 h2=>?_,fun y hy=>?_,fun y c _ h=>?_,fun _=>hd,Around.frames_deeper e0.frames,.inr ⟨rfl,rfl⟩,fun b z=>absurd z (noA b),e0.bs,e0.bsz,fun b _ _=>noA b,fun b z=>absurd z (noA b),e0.funs,e0.frf⟩,
  rfl,e0.bare,Un.kept hk,⟨_,x.toInCall.ns,fun i y v h1 h2 h3=>?_⟩,fun y c h=>⟨_,x.cell y c h⟩,e0.hok.fresh (Nat.le_refl _),fun y c h=>?_,fun p hp=>absurd (show p∈([]:List (Addr×Obj)) from hp) (by simp),e0.hok.kept hk,?_⟩
 ·exact name_of_addr x.apart (PySem.mem_of_lookup h1) (PySem.mem_of_lookup h2)
 ·have hy:scope.names.lookup y=some .cell\/scope.names.lookup y=some .free:=hy
  rcases hy with hy|hy
  ·exact sQ hy
  ·exact absurd rfl (S.nofree _ (PySem.mem_of_lookup hy))
 ·exact Nat.le_of_lt (x.above y c (PySem.mem_of_lookup h))
 ·have hi:i<vs.length:=by
   unfold be at h2
   by_cases hi:i<vs.length
   ·exact hi
   ·rw[List.getElem?_append_right (by simpa using hi)] at h2
    rw[List.getElem?_replicate] at h2
    split at h2<;>cases h2
  have ha:vs[i]?=some v:=by
   unfold be at h2
   rw[List.getElem?_append_left (by simpa using hi),List.getElem?_map] at h2
   cases e:vs[i]? with
   |none=>rw[e] at h2;cases h2
   |some a=>rw[e] at h2;cases h2;rfl
  obtain⟨u,hu,rv⟩:=r.get ha
  have hp:ps[i]?=some y:=by
   rw[←S.pre,List.getElem?_take_of_lt (by omega)];exact h1
  have ndP:ps.Nodup:=by rw[←S.pre];exact S.nd.sublist (List.take_sublist _ _)
  refine⟨u,rv,?_⟩
  rcases S.par y (List.mem_of_getElem? hp) with k|k
  ·exact .inl ⟨k,pX ndP hp hu k⟩
  ·obtain⟨c,e⟩:=sQ (n:=s.heap.objs.size+1) k
   refine .inr ⟨.inl k,c,e,?_⟩
   have q:=x.cell y c e
   rw[p9 ndP hp hu (by show scope.names.lookup y≠_;rw[k];decide)] at q
   exact q
 ·exact e0.hok.fresh (Nat.le_of_lt (x.above y c (PySem.mem_of_lookup h)))
 ·unfold be
  show _=N.length
  rw[List.length_append,List.length_map,List.length_replicate]
  omega
theorem Je {CX:wn}{P:Program}{w:World}{K:PySem.W.Frag}{mg:Str->Option Value}{base:Heap}{k:Nat}{f:Addr}{name qual:Str}{params:Arguments}{body:List Stmt}{scope:Scope}{dV kV doc pm cdv ct oc:Value}{an od:Option Addr}
  {osl:Array (Option Value)} {N ps:List Str} {sp:Sp} (lk:K.lookup f=some ⟨oc,od,.func (PySem.W.fnOf name qual params body scope dV kV doc pm an cdv ct),osl⟩) (hcd:PySem.W.codeIn K cdv qual=true) (S:FnScope N ps scope)
  (len:∀vs H Q E,sp vs H Q E->vs.length=ps.length)
  (hbody:∀(A:Around) (outer:List Env) (s:Shared) (H:Hp) (vs:List V) (Q:VK) (E:XK),Room k (A.deeper (envOfC qual scope s.heap.objs.size f cdv))->sp vs H Q E →
   ∃t,PSs (lV CX P w K mg base N qual scope f cdv A outer s H E) body t/\t { nx:=fun _ H'=>Q .non H',rt:=Q } (be N vs) H) :
  FnOk P w K mg base CX (k+1) f (PySem.W.fnOf name qual params body scope dV kV doc pm an cdv ct) ps sp:=by
 refine⟨len,fun A outer s H args us vs Q E hr e0 hb r hsp=>?_⟩
 have hl:=len _ _ _ _ hsp
 have KX:K.In s.heap:=e0.mod.kin.keeps fun b o e=>(e0.bs b o e).1
 have lim:s.heap.NoLimit:=e0.mod.nolimit.keeps fun b o e=>(e0.bs b o e).1
 have hkind:∀y∈ps.zip us,scope.names.lookup y.1=some .local\/(scope.names.lookup y.1=some .cell/\((cellsFrom (s.heap.objs.size+1) scope.names []).lookup y.1).isSome=true):=fun ⟨n,v⟩ hy=>by
  rcases S.par n (List.of_mem_zip hy).1 with q|q
  ·exact .inl q
  ·exact .inr ⟨q,PySem.W.cellsFrom_some _ _ _ (.inl q)⟩
 refine codeAny_call_function hr.depth (KX _ _ lk) rfl S.co S.gen rfl (PySem.W.codeRec_of KX hcd) (hb _ _ _ _ ?_)
 refine wpAny_newFunctionEnv_cells S.kind hkind fun env he s1 x=>?_
 subst he
 refine⟨lim.keeps x.toInCall.keep,codeAny_func ?_⟩
 obtain⟨t,ht,hq⟩:=hbody A outer s H vs Q E (hr.deeper _) hsp
 have I:Inv (lV CX P w K mg base N qual scope f cdv A outer s H E) [] (be N vs) H s1:=xf S hr.hd e0 hl r x
 refine wpAny_mono (ht [] s1 (be N vs) H _ I hq) (fun fl s' hs=>?_) fun e s' hs=>hs
 have fin:∀{σ':St} {H':Hp} {v:V} {u:Value},Inv (lV CX P w K mg base N qual scope f cdv A outer s H E) [] σ' H' s'->RelV v u->Q v H'->CE outer P w H s Q u s':=
  fun {σ' H' v u} J rv q=>⟨v,H',J.os,J.bare,J.base,J.hok,rv,q⟩
 cases fl with
 |ret u=>
  obtain⟨v,σ',H',J,rv,q⟩:=hs
  exact fin J rv q
 |next=>
  obtain⟨σ',H',J,q⟩:=hs
  exact fin (v:=V.non) (u:=Value.none) J rfl q
 |brk=>
  obtain⟨_,_,_,q⟩:=hs
  exact False.elim q
 |cont=>
  obtain⟨_,_,_,q⟩:=hs
  exact False.elim q
end L2
namespace L2
open PySem PySem.Spec PyProof.Rows
section
variable {X:Cx}{x:Str}{p pos:Pos}{e:Expr}{es:List Expr}{t:TA}{id T:String}{r:List V->Hp->VK->Prop}
noncomputable def kl (r:List V->Hp->VK->Prop)(t:TA):TE:=fun σ H Q=>t σ H fun vs H1=>r vs H1 Q
theorem aP (hc:gj X (.builtin id) r)(hg:Gl X x)(hm:X.mg x=none)(hv:bootBuiltins x=some (.builtin id))(ha:PA X (e::es) t)(hn:x ≠ "__name__":=by decide)(hdb:(x==("__debug__" : Str))=false:=by decide)
  (he:starEach (e::es) X.env=(false,eval e X.env)::starEach es X.env:=by rfl) (hpl:(backTo pos (starEach es X.env)).any (·.1)=false:=by rfl):PE X (.Call (.Name x p) (e::es) [] pos) (kl r t):=by
 intro pins s σ H Q I h
 refine wpAny_Call_Name_kw (nC I hg hm hv ?_ hn hdb)
 exact PyProof.Rows.callWith_builtin1 (dG (ha pos pins s σ H _ I h) fun us s1 ⟨vs,H1,I1,r1,q1⟩=>hc pins s1 σ H1 vs us Q I1 r1 q1) he hpl
theorem bB (hc:gj X (.type T) r)(hg:Gl X x)(hm:X.mg x=none)(hv:bootBuiltins x=some (.type T))(ha:PA X (e::es) t)(hn:x ≠ "__name__":=by decide)(hdb:(x==("__debug__" : Str))=false:=by decide)
  (he:starEach (e::es) X.env=(false,eval e X.env)::starEach es X.env:=by rfl) (hpl:(backTo pos (starEach es X.env)).any (·.1)=false:=by rfl):PE X (.Call (.Name x p) (e::es) [] pos) (kl r t):=by
 intro pins s σ H Q I h
 refine wpAny_Call_Name_kw (nC I hg hm hv ?_ hn hdb)
 exact PyProof.Rows.callWith_type1 (dG (ha pos pins s σ H _ I h) fun us s1 ⟨vs,H1,I1,r1,q1⟩=>hc pins s1 σ H1 vs us Q I1 r1 q1) he hpl
end
end L2
namespace HT
open PySem PyProof.Rows
section
variable {prog:Program}{w:World}{A:Around}{E:Value->Shared->Prop}{s:Shared}
theorem cat_tup {t b:Addr}{vs ws:List Value}{Q:Value->Shared->Prop}(ht:IsTup s.heap t vs.toArray)(hb:IsTup s.heap b ws.toArray)(hv:vs≠[])
  (h1:ws=[]->Q (.ref t) s) (h2:ws≠[]->Q (.ref s.heap.objs.size) { s with heap:=s.heap.push { cls:=.type "tuple",data:=.seq (vs++ws).toArray } })
  (hsz:vs.length+ws.length≤sizeLine):wpAny (model prog w) A (binaryOp .Add (.ref t) (.ref b)) Q E s:=by
 obtain⟨⟨cls,dd,data,sl⟩,ho,hc,n,hd⟩:=id ht
 obtain⟨⟨cls2,dd2,data2,sl2⟩,ho2,hc2,n2,hd2⟩:=id hb
 simp only at hc hd hc2 hd2
 subst hc hd hc2 hd2
 have e:vs.toArray++ws.toArray=(vs++ws).toArray:=by simp
 by_cases hw:ws=[]
 ·exact concat_meets ⟨_,ho,rfl⟩ ⟨_,ho2,rfl⟩ noFill_tuple_add seq_tuple_add PySem.F.slot_tuple_add PySem.F.entry_tuple_add (PySem.F.args_tuple_add_2 _ _)
   (tuple_addW1 t b vs.toArray ws.toArray n n2 dd dd2 sl sl2 (by simpa using hv) (by simp[hw])) ⟨ho,ho2,h1 hw⟩
 ·refine concat_meets ⟨_,ho,rfl⟩ ⟨_,ho2,rfl⟩ noFill_tuple_add seq_tuple_add PySem.F.slot_tuple_add PySem.F.entry_tuple_add (PySem.F.args_tuple_add_2 _ _)
   (tuple_addW2 t b vs.toArray ws.toArray n n2 dd dd2 sl sl2 (by simpa using hv) (by simpa using hw) (by rw[List.size_toArray,List.size_toArray];exact hsz)) ⟨ho,ho2,?_⟩
  rw[e]
  exact h2 hw
noncomputable def sIx (n d:Nat):Option Int->Nat
 |none=>d
 |some v=>if v<0 then (v+(n:Int)).toNat else min v.toNat n
theorem sIx_none (n d:Nat):sIx n d none=d:=rfl
theorem sIx_nat (n d k:Nat):sIx n d (some (k:Int))=min k n:=by
 show (if (k:Int)<0 then ((k:Int)+(n:Int)).toNat else min (k:Int).toNat n)=min k n
 rw[if_neg (by omega),Int.toNat_natCast]
theorem FK (n d:Nat)(hd:d≤n)(o:Option Int):sIx n d o≤n:=by
 cases o with
 |none=>exact hd
 |some v=>
  show (if v<0 then (v+(n:Int)).toNat else min v.toNat n)≤n
  by_cases hv:v<0
  ·rw[if_pos hv];omega
  ·rw[if_neg hv];exact Nat.min_le_right _ _
theorem wB (v:Int)(n d:Nat):(if v<0 then max (v+(n:Int)) 0 else min v (n:Int))=((sIx n d (some v):Nat):Int):=by
 show (if v<0 then max (v+(n:Int)) 0 else min v (n:Int))=(((if v<0 then (v+(n:Int)).toNat else min v.toNat n):Nat):Int)
 by_cases hv:v<0
 ·simp only[if_pos hv];omega
 ·simp only[if_neg hv];omega
theorem va (lo hi:Option Int)(n:Nat):Builtin.Slice.sliceAdjust lo hi 1 (n:Int)=(((sIx n 0 lo:Nat):Int),((sIx n n hi:Nat):Int)):=by
 have h1:¬((1:Int)<0):=by omega
 unfold Builtin.Slice.sliceAdjust
 simp only[h1,if_false]
 refine Prod.ext ?_ ?_
 ·cases lo with
  |none=>rfl
  |some v=>exact wB v n 0
 ·cases hi with
  |none=>rfl
  |some v=>exact wB v n n
theorem uB (i j:Nat):Builtin.Slice.slicePlaces (i:Int) (j:Int) 1=j - i:=by
 unfold Builtin.Slice.slicePlaces
 have h1:(1:Int) > 0:=by omega
 simp only[h1,if_true,Int.ediv_one]
 split<;>omega
theorem nN {v:Value}{o:Option Int}{Q:Option Int->Shared->Prop}(p:IsPart v o)(h:Q o s):wpAny (model prog w) A (Builtin.Slice.slicePartIndex v) Q E s:=by
 cases p with
 |none=>exact slicePart_none h
 |int i t=>exact slicePart_int h
theorem mz {sl:Addr}{vl vu:Value}{lo hi:Option Int}{n:Nat}{Q:Int×Int×Nat->Shared->Prop}(hs:s.heap.IsSliceOf sl vl vu .none)(pl:IsPart vl lo)(pu:IsPart vu hi)
  (h:Q (((sIx n 0 lo:Nat):Int),1,sIx n n hi - sIx n 0 lo) s):wpAny (model prog w) A (Builtin.Slice.sliceApplied (.ref sl) (pure (n:Int))) Q E s:=by
 obtain⟨os,hos,hcs,hds⟩:=id hs
 unfold Builtin.Slice.sliceApplied Builtin.Slice.sliceFields
 refine wpAny_bind (wpAny_bind (wpAny_field hos hds (x:=vl) rfl (wpAny_bind (wpAny_field hos hds (x:=vu) rfl (wpAny_bind (wpAny_field hos hds (x:=.none) rfl (wpAny_pure ?_)))))))
 refine wpAny_bind (slicePart_none ?_)
 show wpAny _ _ (if ((1:Int)==0)=true then _ else _) _ _ s
 rw[if_neg (by decide)]
 refine wpAny_bind (nN pl (wpAny_bind (nN pu (wpAny_bind (wpAny_pure ?_)))))
 show wpAny _ _ (match Builtin.Slice.sliceAdjust lo hi 1 (n:Int) with|(lo,hi)=>pure (lo,(1:Int),Builtin.Slice.slicePlaces lo hi 1)) _ _ s
 rw[va lo hi n]
 show wpAny _ _ (pure (((sIx n 0 lo:Nat):Int),(1:Int),Builtin.Slice.slicePlaces ((sIx n 0 lo:Nat):Int) ((sIx n n hi:Nat):Int) 1)) _ _ s
 rw[uB]
 exact wpAny_pure h
theorem zi (xs:Array Value)(i k:Nat):((List.range k).filterMap fun (m:Nat)=>xs[((i:Int)+(m:Int) * 1).toNat]?).toArray=((xs.toList.drop i).take k).toArray:=by
 have e:(fun (m:Nat)=>xs[((i:Int)+(m:Int) * 1).toNat]?)=fun m=>xs[i+m]?:=by
  funext m
  have:((i:Int)+(m:Int) * 1).toNat=i+m:=by omega
  rw[this]
 rw[e]
 have:=pick_run xs i k
 rw[List.filterMap_map] at this
 have e2:((fun x=>xs[x]?) ∘ fun x=>i+x)=fun m=>xs[i+m]?:=rfl
 rw[e2] at this
 rw[this]
theorem getItem_tuple_cut {t sl:Addr}{items:Array Value}{vl vu:Value}{lo hi:Option Int}{Q:Value->Shared->Prop}(ht:IsTup s.heap t items)(hs:s.heap.IsSliceOf sl vl vu .none)(pl:IsPart vl lo)(pu:IsPart vu hi)
  (hw:¬(sIx items.size 0 lo=0/\sIx items.size items.size hi=items.size))
  (h:Q (.ref s.heap.objs.size) { s with heap:=s.heap.push { cls:=.type "tuple",data:=.seq ((items.toList.drop (sIx items.size 0 lo)).take (sIx items.size items.size hi - sIx items.size 0 lo)).toArray } })
  (hsz:items.size≤sizeLine):wpAny (model prog w) A (getItem (.ref t) (.ref sl)) Q E s:=by
 have htake:sizeOk (.seq ((items.toList.drop (sIx items.size 0 lo)).take (sIx items.size items.size hi - sIx items.size 0 lo)).toArray):=by
  show ((items.toList.drop (sIx items.size 0 lo)).take (sIx items.size items.size hi - sIx items.size 0 lo)).toArray.size≤sizeLine
  rw[List.size_toArray,List.length_take,List.length_drop,Array.length_toList]
  omega
 have hj:sIx items.size items.size hi≤items.size:=FK _ _ (Nat.le_refl _) hi
 obtain⟨os,hos,hcs,hds⟩:=id hs
 have hTs:s.TypeIs (.ref sl) "slice":=⟨os,hos,hcs⟩
 unfold getItem
 try with_reducible refine wpAny_holding ?_
 first|refine wpAny_bind (wpAny_pure ?_)|skip
 refine wpAny_bind (wpAny_sequenceKey ht.typeIs (by decide) ?_)
 refine wpAny_bind (wpAny_callSpecial?_slot (name:=Str.ofString "__getitem__") ht.typeIs PyProof.Rows.slot_tuple_getitem
  (wpAny_call_entry PyProof.Rows.slot_tuple_getitem ht.typeIs entry_tuple_getitem ?_ (args_tuple_getitem _ _)))
 show wpAny _ _ (Builtin.Tuple.tupleItemsOf (.ref t) >>= _) _ _ s
 refine wpAny_bind (tupleItemsOf_ ht ?_)
 refine wpAny_bind (wpAny_typeOf hTs ?_)
 rw[if_pos (by decide)]
 refine wpAny_bind (mz hs pl pu ?_)
 have hno:¬((((sIx items.size 0 lo:Nat):Int)==0&&(1:Int)==1&&(sIx items.size items.size hi - sIx items.size 0 lo)==items.size)=true):=by
  intro q
  rw[Bool.and_eq_true,Bool.and_eq_true] at q
  have q1:((sIx items.size 0 lo:Nat):Int)=0:=eq_of_beq q.1.1
  have q2:sIx items.size items.size hi - sIx items.size 0 lo=items.size:=eq_of_beq q.2
  exact hw ⟨by omega,by omega⟩
 show wpAny _ _ (if (((sIx items.size 0 lo:Nat):Int)==0&&(1:Int)==1&&(sIx items.size items.size hi - sIx items.size 0 lo)==items.size)=true then _ else _) _ _ s
 rw[if_neg hno,zi]
 first
  |exact wpAny_bind (m:=Builtin.Tuple.tupleExact _) (wpAny_newObj_type (wpAny_pure ⟨_,rfl,wpAny_pure h⟩) htake)
  |exact wpAny_bind (m:=Builtin.Tuple.tupleExact _) (wpAny_newObj_type (wpAny_bind (wpAny_pure (wpAny_pure ⟨_,rfl,wpAny_pure h⟩))) htake)
  |exact wpAny_bind (wpAny_bind (m:=Builtin.Tuple.tupleExact _) (wpAny_newObj_type (wpAny_pure (wpAny_pure ⟨_,rfl,wpAny_pure h⟩)) htake))
  |exact wpAny_bind (wpAny_bind (m:=Builtin.Tuple.tupleExact _) (wpAny_newObj_type (wpAny_pure ⟨_,rfl,wpAny_pure h⟩) htake))
end
end HT
namespace L2
open PySem PySem.Spec PyProof.Rows
noncomputable abbrev TO:=St->Hp->(Option Int->Hp->Prop)->Prop
noncomputable def PO (X:Cx)(e:Option Expr)(t:TO):Prop:=
 ∀(pins:List (Addr×Obj)) (s:Shared) (σ:St) (H:Hp) (Q:Option Int->Hp->Prop),Inv X pins σ H s->t σ H Q →
  wpAny (model X.prog X.w) X.A (evalPart e X.env) (fun u s'=>∃o H',Inv X pins σ H' s'/\IsPart u o/\Q o H') X.xe s
noncomputable def bc:TO:=fun _ H Q=>Q none H
noncomputable def df (t:TE):TO:=fun σ H Q=>t σ H fun x H1=>∃i,x=.int i/\Q (some i) H1
section
variable {X:Cx}{e:Expr}{te:TE}{lo hi:Option Expr}{tl th:TO}{pos p2:Pos}
theorem CU:PO X none bc:=by
 intro pins s σ H Q I h
 rw[evalPart_none]
 exact wpAny_pure ⟨none,H,I,.none,h⟩
theorem Dq (h:PE X e te):PO X (some e) (df te):=by
 intro pins s σ H Q I hw
 rw[evalPart_some]
 refine dG (h pins s σ H _ I hw) fun u s1 ⟨x,H1,I1,r1,q1⟩=>?_
 obtain⟨i,rfl,q⟩:=q1
 obtain⟨t,rfl⟩:=r1
 exact⟨some i,H1,I1,.int i t,q⟩
noncomputable def SlR (X:Cx)(r:V->Option Int->Option Int->Hp->VK->Prop):Prop:=
 ∀(pins:List (Addr×Obj)) (s:Shared) (σ:St) (H:Hp) (x:V) (v vl vu:Value) (lo hi:Option Int) (sl:Addr) (Q:VK),Inv X pins σ H s->RelV x v->s.heap.IsSliceOf sl vl vu .none->IsPart vl lo->IsPart vu hi->r x lo hi H Q →
  ∃T id,typeLookup (.type T) "__getitem__" = pure (some (.builtin id))/\s.TypeIs v T/\wpAny (model X.prog X.w) X.A (getItem v (.ref sl)) (EP X pins σ Q) X.xe s
noncomputable def mk (r:V->Option Int->Option Int->Hp->VK->Prop)(te:TE)(tl th:TO):TE:=fun σ H Q=>te σ H fun x H1=>tl σ H1 fun l H2=>th σ H2 fun u H3=>r x l u H3 Q
theorem sN {r:V->Option Int->Option Int->Hp->VK->Prop}(hr:SlR X r)(he:PE X e te)(hl:PO X lo tl)(hu:PO X hi th):PE X (.Subscript e (.Slice lo hi none p2) pos) (mk r te tl th):=by
 intro pins s σ H Q I h
 refine Subscript_ (dG (he pins s σ H _ I h) fun v s1 ⟨x,H1,I1,r1,q1⟩=>?_)
 refine wpAny_Slice (dG (hl pins s1 σ H1 _ I1 q1) fun vl s2 ⟨l,H2,I2,pl,q2⟩=>dG (hu pins s2 σ H2 _ I2 q2) fun vu s3 ⟨u,H3,I3,pu,q3⟩=>?_)
 rw[evalPart_none]
 refine wpAny_pure ?_
 have I4:Inv X pins σ H3 { s3 with heap:=s3.heap.push { cls:=.type "slice",data:=.fields #[vl,vu,.none] } }:=I3.kept (t':=s3.toks) fun b ob q=>Heap.get?_push_of_some _ q
 obtain⟨T,id,hT,ht,hg⟩:=hr pins { s3 with heap:=s3.heap.push { cls:=.type "slice",data:=.fields #[vl,vu,.none] } } σ H3 x v vl vu l u s3.heap.objs.size Q I4 r1 (Heap.IsSliceOf.new ..) pl pu q3
 show wpAny (model X.prog X.w) X.A (subscriptTail e (.Slice lo hi none p2) v (.ref s3.heap.objs.size)) (EP X pins σ Q) X.xe { s3 with heap:=s3.heap.push { cls:=.type "slice",data:=.fields #[vl,vu,.none] } }
 exact tail_any (ops:=[.ref s3.heap.objs.size,v]) ht hT hg (by with_unfolding_all rfl)
noncomputable def sB (xs:List V)(lo hi:Option Int):List V:=(xs.drop (HT.sIx xs.length 0 lo)).take (HT.sIx xs.length xs.length hi - HT.sIx xs.length 0 lo)
theorem mS (xs:List V)(lo hi:Option Int):(sB xs lo hi).length≤xs.length:=by
 unfold sB
 rw[List.length_take,List.length_drop]
 omega
noncomputable def gx (K:PySem.W.Frag):V->Option Int->Option Int->Hp->VK->Prop:=fun x lo hi H Q=>∃a xs,x=.ref a/\SqT K H a xs ∧
 ¬(HT.sIx xs.length 0 lo=0/\HT.sIx xs.length xs.length hi=xs.length)/\∀p,H p=none->Q (.ref p) (upd H p (.tup (sB xs lo hi)))
theorem HQ:SlR X (gx X.K):=by
 intro pins s σ H x v vl vu lo hi sl Q I rx hs pl pu h
 obtain⟨a,xs,rfl,hx,hw,q⟩:=h
 cases rx
 obtain⟨its,r,ht,hz⟩:=I.tuple hx
 have hlen:its.toArray.size=xs.length:=by rw[List.size_toArray];exact r.length.symm
 refine⟨"tuple",_,PyProof.Rows.slot_tuple_getitem.lookup,ht.typeIs,?_⟩
 refine HT.getItem_tuple_cut ht hs pl pu (by rw[hlen];exact hw) ?_ (by rw[hlen];exact hz)
 rw[hlen]
 refine⟨.ref s.heap.objs.size,_,I.laid (t':=s.toks) (o:=.tup (sB xs lo hi)) (fun b ob q=>Heap.get?_push_of_some _ q) (Nat.le_refl _) ?_,rfl,q _ (I.hok.fresh (Nat.le_refl _))⟩
 exact⟨Nat.le_trans (mS xs lo hi) hz,_,(r.drop (HT.sIx xs.length 0 lo)).take (HT.sIx xs.length xs.length hi - HT.sIx xs.length 0 lo),IsTup.new _ _⟩
noncomputable def EK (K:PySem.W.Frag):R2:=fun x y H Q=>∃a b xs ys,x=.ref a/\y=.ref b/\SqT K H a xs/\SqT K H b ys/\xs≠[]/\xs.length+ys.length≤sizeLine ∧
 (ys=[]->Q (.ref a) H)/\(ys≠[]->∀p,H p=none->Q (.ref p) (upd H p (.tup (xs++ys))))
theorem Vals.nil_iff {xs:List V}{us:List Value}(r:Vals xs us):us=[]↔xs=[]:=by
 cases r with
 |nil=>simp
 |cons _ _=>simp
theorem CJ:kj X (binaryOp .Add) (EK X.K):=by
 intro pins s σ H x y v u Q I rx ry h
 obtain⟨a,b,xs,ys,rfl,rfl,ha,hb,hx,hz,q1,q2⟩:=h
 cases rx
 cases ry
 obtain⟨its,r1,p1,_⟩:=I.tuple ha
 obtain⟨its2,r2,p2,_⟩:=I.tuple hb
 refine HT.cat_tup p1 p2 (fun z=>hx (r1.nil_iff.mp z)) (fun z=>⟨.ref a,H,I,rfl,q1 (r2.nil_iff.mp z)⟩) (fun z=>?_) (by rw[←r1.length,←r2.length];exact hz)
 refine⟨.ref s.heap.objs.size,_,I.laid (t':=s.toks) (o:=.tup (xs++ys)) (fun b ob q=>Heap.get?_push_of_some _ q) (Nat.le_refl _) ?_,rfl,q2 (fun w=>z (r2.nil_iff.mpr w)) _ (I.hok.fresh (Nat.le_refl _))⟩
 exact⟨by rw[List.length_append];exact hz,_,r1.append r2,IsTup.new _ _⟩
end
end L2
namespace L2
open PySem PySem.Spec PyProof.Rows
noncomputable def qi (n:Nat)(i:Int):Option Nat:=if 0≤i then (if i<n then some i.toNat else none) else if -(n:Int)≤i then some (i+n).toNat else none
noncomputable def atI {α:Type}(xs:List α)(i:Int):Option α:=(qi xs.length i).bind fun j=>xs[j]?
theorem wx {n:Nat}{i:Int}{j:Nat}(h:qi n i=some j):seqIndex? i n=some j/\j<n/\-(n:Int)≤i/\i<n:=by
 unfold qi at h
 by_cases h0:0≤i
 ·rw[if_pos h0] at h
  by_cases h1:i<n
  ·rw[if_pos h1] at h
   have e:i.toNat=j:=Option.some.inj h
   exact⟨by rw[seqIndex_of h0 h1,e],by omega,by omega,h1⟩
  ·rw[if_neg h1] at h;cases h
 ·rw[if_neg h0] at h
  by_cases h1:-(n:Int)≤i
  ·rw[if_pos h1] at h
   have e:(i+n).toNat=j:=Option.some.inj h
   exact⟨by rw[seqIndex_neg (by omega) h1,e],by omega,h1,by omega⟩
  ·rw[if_neg h1] at h;cases h
theorem sn {α:Type}{xs:List α}{i:Int}{v:α}(h:atI xs i=some v):∃j,seqIndex? i xs.length=some j/\xs[j]?=some v/\j<xs.length/\-(xs.length:Int)≤i/\i<xs.length:=by
 unfold atI at h
 cases e:qi xs.length i with
 |none=>rw[e] at h;cases h
 |some j=>
  rw[e] at h
  obtain⟨h1,h2,h3,h4⟩:=wx e
  exact⟨j,h1,h,h2,h3,h4⟩
theorem eL {α:Type}{xs:List α}{j:Nat}{v:α}(h:xs[j]?=some v):atI xs (j:Int)=some v:=by
 have hj:j<xs.length:=(List.getElem?_eq_some_iff.mp h).1
 have e:qi xs.length (j:Int)=some j:=by
  unfold qi
  rw[if_pos (by omega),if_pos (by omega)];simp
 unfold atI;rw[e];exact h
theorem om {α:Type}(xs:List α)(v:α):atI (xs++[v]) (-1)=some v:=by
 have hl:(xs++[v]).length=xs.length+1:=by simp
 have e:qi (xs++[v]).length (-1)=some xs.length:=by
  unfold qi
  rw[hl,if_neg (by decide),if_pos (by omega)]
  congr 1
  omega
 unfold atI
 rw[e]
 show (xs++[v])[xs.length]?=some v
 simp
noncomputable def lH (b:Expr):Prop:=∀o i,subscripted b false o i=operate [o,i] (getItem o i)
noncomputable def IxR (X:Cx)(r:R2):Prop:=
 ∀(value slice:Expr) (pins:List (Addr×Obj)) (s:Shared) (σ:St) (H:Hp) (x y:V) (v u:Value) (Q:VK),Inv X pins σ H s->RelV x v->RelV y u->r x y H Q →
  subscripted slice false v u=operate [v,u] (getItem v u)->wpAny (model X.prog X.w) X.A (subscriptTail value slice v u) (EP X pins σ Q) X.xe s
noncomputable def Mt (X:Cx)(id:String)(r:V->List V->Hp->VK->Prop):Prop:=
 ∀(pins:List (Addr×Obj)) (s:Shared) (σ:St) (H:Hp) (x:V) (xs:List V) (v:Value) (us:List Value) (Q:VK),Inv X pins σ H s->RelV x v->Vals xs us->r x xs H Q →
  wpAny (model X.prog X.w) X.A (call (.builtin id) (v::us)) (EP X pins σ Q) X.xe s
section
variable {X:Cx}{a b:Expr}{ta tb:TE}{pos:Pos}
theorem IxR.or {r r':R2}(h:IxR X r)(h':IxR X r'):IxR X (fun x y H Q=>r x y H Q\/r' x y H Q):=by
 intro value slice pins s σ H x y v u Q I rx ry q hs
 rcases q with q|q
 ·exact h value slice pins s σ H x y v u Q I rx ry q hs
 ·exact h' value slice pins s σ H x y v u Q I rx ry q hs
theorem iC {r:R2}(hr:IxR X r)(ha:PE X a ta)(hb:PE X b tb)(hs:lH b):PE X (.Subscript a b pos) (kO r ta tb):=by
 intro pins s σ H Q I h
 exact Subscript_ (Fx ha hb I h fun v u s2 x y H2 I2 rx ry q=>hr a b pins s2 σ H2 x y v u Q I2 rx ry q (hs _ _))
noncomputable def ga (K:PySem.W.Frag):R2:=fun x y H Q=>∃p xs i v,x=.ref p/\y=.int i/\SqL K H p xs/\atI xs i=some v/\Q v H
noncomputable def gf (K:PySem.W.Frag):R2:=fun x y H Q=>∃p xs i v,x=.ref p/\y=.int i/\SqT K H p xs/\atI xs i=some v/\Q v H
noncomputable def Kb:R2:=fun x y H Q=>∃z i c,x=.str z/\y=.int i/\z.length≤sizeLine/\atI z.cps.toList i=some c/\Q (.str ⟨#[c]⟩) H
theorem ix_list:IxR X (ga X.K):=by
 intro value slice pins s σ H x y v u Q I rx ry h hs
 obtain⟨p,xs,i,z,rfl,rfl,hq,he,q⟩:=h
 cases rx
 obtain⟨t,rfl⟩:=ry
 obtain⟨its,r,pl,hz⟩:=I.list hq
 obtain⟨j,h1,h2,h3,h4,h5⟩:=sn he
 obtain⟨w,ew,rw'⟩:=r.get h2
 have hl:=r.length
 have hn:=oF
 have fin:EP X pins σ Q w s:=⟨z,H,I,rw',q⟩
 by_cases h0:0≤i
 ·have hj:i.toNat=j:=by
   rw[seqIndex_of h0 h5] at h1
   exact Option.some.inj h1
  exact item_listR pl.isList h0 (by omega) (by rw[hj];simpa using ew) fin hs
 ·have hj:(i+(its.toArray.size:Int)).toNat=j:=by
   rw[seqIndex_neg (by omega) h4] at h1
   rw[List.size_toArray,←hl]
   exact Option.some.inj h1
  exact subscriptTail_builtinR (x:=w) pl.isList.typeIs slot_list_getitem.lookup
   (wpAny_getItem_list_neg (Q:=fun r s'=>r=w/\EP X pins σ Q r s') pl.isList (by omega) (by rw[List.size_toArray]<;>omega) (by omega) (by rw[hj];simpa using ew) ⟨rfl,fin⟩) hs
theorem ix_tup:IxR X (gf X.K):=by
 intro value slice pins s σ H x y v u Q I rx ry h hs
 obtain⟨p,xs,i,z,rfl,rfl,hq,he,q⟩:=h
 cases rx
 obtain⟨t,rfl⟩:=ry
 obtain⟨its,r,pl,hz⟩:=I.tuple hq
 obtain⟨j,h1,h2,h3,h4,h5⟩:=sn he
 obtain⟨w,ew,rw'⟩:=r.get h2
 have hl:=r.length
 have hn:=oF
 have fin:EP X pins σ Q w s:=⟨z,H,I,rw',q⟩
 exact subscriptTail_builtinR (x:=w) pl.typeIs slot_tuple_getitem.lookup
  (getItem_tuple (j:=j) (Q:=fun r s'=>r=w/\EP X pins σ Q r s') pl (by omega) (by omega) (by rw[List.size_toArray,←hl];exact h1) (by simpa using ew) ⟨rfl,fin⟩) hs
theorem F6:IxR X Kb:=by
 intro value slice pins s σ H x y v u Q I rx ry h hs
 obtain⟨z,i,c,rfl,rfl,hz,he,q⟩:=h
 obtain⟨t,rfl⟩:=rx
 obtain⟨t',rfl⟩:=ry
 obtain⟨j,h1,h2,h3,h4,h5⟩:=sn he
 have hl:z.cps.toList.length=z.length:=by simp[Str.length]
 rw[hl] at h1 h4 h5
 have hn:=oF
 exact tail_any (typeIs_str s z t) slot_str_getitem.lookup (getItem_str (c:=c) (by
  have e1:decide (i < -(2 ^ 63:Int))=false:=decide_eq_false (by omega)
  have e2:decide (i ≥ 2 ^ 63)=false:=decide_eq_false (by omega)
  rw[e1,e2,Bool.or_false]) (by rw[h1];simpa using h2) ⟨.str ⟨#[c]⟩,H,I.tok _,⟨_,rfl⟩,q⟩) hs
noncomputable def aH (K:PySem.W.Frag):R2:=fun x y H Q=>ga K x y H Q\/gf K x y H Q\/Kb x y H Q
theorem Hj:IxR X (aH X.K):=ix_list.or (ix_tup.or F6)
theorem vJ (its:List Value)(n j:Nat)(u:Value):Obj.mapSeq (·.setIfInBounds j u) { cls:=.type "list",data:=.seq its.toArray n }={ cls:=.type "list",data:=.seq (its.set j u).toArray n }:=by
 simp[Obj.mapSeq]
theorem Inv.lst {pins:List (Addr×Obj)}{σ:St}{H:Hp}{s:Shared}{p:Addr}{xs:List V}(I:Inv X pins σ H s)(h:H p=some (.lst xs)) :
  ∃(its:List Value) (n:Nat),Vals xs its/\s.heap.get? p=some { cls:=.type "list",data:=.seq its.toArray n }/\xs.length≤sizeLine:=by
 obtain⟨z,its,n,r,e⟩:=I.hok p _ h
 exact⟨its,n,r,e,z⟩
theorem Inv.lstUpd {pins:List (Addr×Obj)}{σ:St}{H:Hp}{s:Shared}{p:Addr}{xs ys:List V}{its its':List Value}{n n':Nat}{f:Obj->Obj}(I:Inv X pins σ H s)(h:H p=some (.lst xs))
  (ho:s.heap.get? p=some { cls:=.type "list",data:=.seq its.toArray n }) (hf:f { cls:=.type "list",data:=.seq its.toArray n }={ cls:=.type "list",data:=.seq its'.toArray n' }) (r:Vals ys its') (hz:ys.length≤sizeLine) (t:Nat) :
  Inv X pins σ (upd H p (.lst ys)) { s with heap:=s.heap.update p f,toks:=t }:=by
 have e:(s.heap.update p f).get? p=some { cls:=.type "list",data:=.seq its'.toArray n' }:=by
  rw[Heap.get?_update_self f ho (by rw[hf]<;>rfl),hf]
 refine I.write (x:=p) (e:=p) (by rw[h];trivial) (.inl rfl) (fun b u hb q=>(Heap.get?_update_other _ _ (Ne.symm hb)).trans q) ⟨_,e⟩ ?_
 exact⟨hz,its',n',r,e⟩
noncomputable def cJ:V->V->V->Hp->(Hp->Prop)->Prop:=fun o i v H Q=>∃p xs k j,o=.ref p/\i=.int k/\H p=some (.lst xs)/\qi xs.length k=some j/\Q (upd H p (.lst (xs.set j v)))
theorem i5:Ky X cJ:=by
 intro pins s σ H o i v ov iv u Q I ro ri rv h
 obtain⟨p,xs,k,j,rfl,rfl,hp,hj,q⟩:=h
 cases ro
 obtain⟨t,rfl⟩:=ri
 obtain⟨its,n,r,ho,hz⟩:=I.lst hp
 obtain⟨h1,h2,h3,h4⟩:=wx hj
 have hl:=r.length
 have hn:=oF
 have I':Inv X pins σ (upd H p (.lst (xs.set j v))) { s with heap:=s.heap.update p (Obj.mapSeq (·.setIfInBounds j u)) }:=
  I.lstUpd hp ho (vJ its n j u) (r.set rv j) (by rw[List.length_set];exact hz) s.toks
 by_cases h0:0≤k
 ·have hk:k.toNat=j:=by
   rw[seqIndex_of h0 h4] at h1
   exact Option.some.inj h1
  exact PySem.W.ki_setAt ho h0 (by omega) (by rw[List.size_toArray,←hl];exact h4) (by rw[hk];exact⟨_,I',q⟩)
 ·have hk:(k+(its.toArray.size:Int)).toNat=j:=by
   rw[seqIndex_neg (by omega) h3] at h1
   rw[List.size_toArray,←hl]
   exact Option.some.inj h1
  exact PySem.W.ki_setBack ho (by omega) (by rw[List.size_toArray,←hl];exact h3) (by omega) (by rw[hk];exact⟨_,I',q⟩)
theorem qK (lo hi:Option Int)(n:Nat):(sliceBounds lo hi none n).1=((HT.sIx n 0 lo:Nat):Int)/\(sliceBounds lo hi none n).2.1=((HT.sIx n n hi:Nat):Int)/\(sliceBounds lo hi none n).2.2=1:=by
 refine⟨?_,?_,rfl⟩
 ·cases lo with
  |none=>simp[sliceBounds,HT.sIx]
  |some i=>
   simp only[sliceBounds,HT.sIx,Option.getD_none,show (1:Int) > 0 by decide,if_true]
   by_cases h:i<0
   ·simp only[h,if_true]<;>omega
   ·simp only[h,if_false]<;>omega
 ·cases hi with
  |none=>simp[sliceBounds,HT.sIx]
  |some i=>
   simp only[sliceBounds,HT.sIx,Option.getD_none,show (1:Int) > 0 by decide,if_true]
   by_cases h:i<0
   ·simp only[h,if_true]<;>omega
   ·simp only[h,if_false]<;>omega
theorem pw (its:List Value)(lo hi:Option Int):slicePick its.toArray lo hi none=((its.drop (HT.sIx its.length 0 lo)).take (HT.sIx its.length its.length hi - HT.sIx its.length 0 lo)).toArray:=by
 obtain⟨h1,h2,h3⟩:=qK lo hi its.toArray.size
 unfold slicePick
 rw[h1,h2,h3]
 simp only[sliceRange_one,pick_run,List.size_toArray]<;>rfl
noncomputable def gp (K:PySem.W.Frag):V->Option Int->Option Int->Hp->VK->Prop:=fun x lo hi H Q=>∃a xs,x=.ref a/\SqL K H a xs/\∀p,H p=none->Q (.ref p) (upd H p (.lst (sB xs lo hi)))
theorem D5:SlR X (gp X.K):=by
 intro pins s σ H x v vl vu lo hi sl Q I rx hs pl pu h
 obtain⟨a,xs,rfl,hx,q⟩:=h
 cases rx
 obtain⟨its,r,ht,hz⟩:=I.list hx
 have hlen:=r.length
 refine⟨"list",_,slot_list_getitem.lookup,ht.isList.typeIs,?_⟩
 refine wpAny_getItem_list_slice ht.isList hs pl pu .none (by simp) ?_ (by rw[List.size_toArray]<;>omega)
 rw[pw,←hlen]
 refine⟨.ref s.heap.objs.size,_,I.laid (t':=s.toks) (o:=.lst (sB xs lo hi)) (fun b ob q=>Heap.get?_push_of_some _ q) (Nat.le_refl _) ?_,rfl,q _ (I.hok.fresh (Nat.le_refl _))⟩
 exact⟨Nat.le_trans (mS xs lo hi) hz,_,0,(r.drop (HT.sIx xs.length 0 lo)).take (HT.sIx xs.length xs.length hi - HT.sIx xs.length 0 lo),Heap.get?_push_size _ rfl⟩
noncomputable def nB:V->Bool
 |.non=>true
 |.bl _=>true
 |.int _=>true
 |.str _=>true
 |_=>false
noncomputable def zy:V->V->Bool
 |.non,.non=>true
 |.bl a,.bl b=>a==b
 |.bl a,.int b=>(if a then 1 else 0)==b
 |.int a,.bl b=>a==(if b then 1 else 0)
 |.int a,.int b=>a==b
 |.str a,.str b=>a==b
 |_,_=>false
noncomputable def Mc (x:V)(xs:List V):Bool:=xs.any fun y=>zy y x
noncomputable def CW (K:PySem.W.Frag)(neg:Bool):R2:=fun x y H Q=>∃p xs,y=.ref p/\(SqL K H p xs\/SqT K H p xs)/\nB x=true/\xs.all nB=true/\Q (.bl (if neg then !Mc x xs else Mc x xs)) H
theorem le:gj X (.type "list") (fun xs H Q=>∃p ys,xs=[.ref p]/\(SqL X.K H p ys\/SqT X.K H p ys)/\∀l,H l=none->Q (.ref l) (upd H l (.lst ys))):=by
 intro pins s σ H xs us Q I r h
 obtain⟨p,ys,rfl,hq,q⟩:=h
 obtain⟨u,rfl,rx⟩:=jE r
 cases rx
 have fin:∀(its:List Value),Vals ys its->ys.length≤sizeLine->∀(h':Heap) (c':Nat),(∀b o',s.heap.get? b=some o'->h'.get? b=some o') →
   h'.get? s.heap.objs.size=some { cls:=.type "list",dict:=none,data:=.seq its.toArray c',slots:=#[] }->EP X pins σ Q (.ref s.heap.objs.size) { s with heap:=h' }:=fun its r' hz h' c' kp e=>
  ⟨.ref s.heap.objs.size,_,I.laid (t':=s.toks) kp (Nat.le_refl _) (show ObjOk X.prog X.w _ h' _ (.lst ys) from⟨hz,its,c',r',e⟩),rfl,q _ (I.hok.fresh (Nat.le_refl _))⟩
 rcases hq with hq|hq
 ·obtain⟨its,r',pl,hz⟩:=I.list hq
  have hlen:=r'.length
  obtain⟨o,ho,hc,n,hd⟩:=pl.isList
  exact call_list_seq p (.inl rfl) ho hc hd (fun h' c' kp e=>fin its r' hz h' c' kp e) (by simp only[List.size_toArray]<;>omega)
 ·obtain⟨its,r',pl,hz⟩:=I.tuple hq
  have hlen:=r'.length
  obtain⟨o,ho,hc,n,hd⟩:=pl
  exact call_list_seq p (.inr rfl) ho hc hd (fun h' c' kp e=>fin its r' hz h' c' kp e) (by simp only[List.size_toArray]<;>omega)
theorem cf:gj X (.type "tuple") (fun xs H Q=>∃p ys,xs=[.ref p]/\((SqL X.K H p ys/\∀l,H l=none->Q (.ref l) (upd H l (.tup ys)))\/(SqT X.K H p ys/\Q (.ref p) H))):=by
 intro pins s σ H xs us Q I r h
 obtain⟨p,ys,rfl,h⟩:=h
 obtain⟨u,rfl,rx⟩:=jE r
 cases rx
 rcases h with ⟨hq,q⟩|⟨hq,q⟩
 ·obtain⟨its,r',pl,hz⟩:=I.list hq
  have hlen:=r'.length
  refine call_tuple_list pl.isList (fun h' kp=>?_) (by simp only[List.size_toArray]<;>omega)
  have I1:Inv X pins σ H { s with heap:=h' }:=I.kept (t':=s.toks) kp
  have I2:Inv X pins σ (upd H h'.objs.size (.tup ys)) { s with heap:=h'.push { cls:=.type "tuple",data:=.seq its.toArray } }:=
   I1.laid (t':=s.toks) (fun b o e=>Heap.get?_push_of_some _ e) (Nat.le_refl _) (show ObjOk X.prog X.w _ _ _ (.tup ys) from⟨hz,its,r',IsTup.new _ _⟩)
  exact⟨.ref h'.objs.size,_,I2,rfl,q _ (I1.hok.fresh (Nat.le_refl _))⟩
 ·obtain⟨its,r',pl,hz⟩:=I.tuple hq
  exact call_tuple_same pl ⟨.ref p,H,I,rfl,q⟩
noncomputable def Mg (K:PySem.W.Frag)(T:String)(x:V)(H:Hp):Prop:=match x with
 |.str _=>T = "str"
 |.int _=>T = "int"
 |.ref p=>(T = "list"/\∃xs,SqL K H p xs)\/(T = "tuple"/\∃o,K.lookup p=some o/\o.cls=.type "tuple"/\o.dict=none) ∨
   (T = "dict"/\((∃kvs,H p=some (.dK kvs))\/∃kvs,H p=some (.dT kvs)))\/(T = "set"/\∃S n,H p=some (.set S n))
 |_=>False
theorem FV {pins:List (Addr×Obj)}{σ:St}{H:Hp}{s:Shared}{T:String}{x:V}{v:Value}(I:Inv X pins σ H s)(r:RelV x v)(ty:Mg X.K T x H) :
  s.TypeIs v T/\∀a,v=.ref a->∃ob,s.heap.get? a=some ob/\ob.dict=none:=by
 cases x with
 |str z=>
  obtain⟨t,rfl⟩:=r
  cases (show T = "str" from ty)
  exact⟨typeIs_str s z t,fun _ e=>nomatch e⟩
 |int i=>
  obtain⟨t,rfl⟩:=r
  cases (show T = "int" from ty)
  exact⟨typeIs_int s i t,fun _ e=>nomatch e⟩
 |ref p=>
  cases r
  rcases ty with ⟨rfl,xs,hq⟩|⟨rfl,o,hk,hc,hd⟩|⟨rfl,hk⟩|⟨rfl,S,n,hk⟩
  ·obtain⟨its,_,pl,_⟩:=I.list hq
   refine⟨pl.isList.typeIs,fun a e=>?_⟩
   cases e
   obtain⟨o,n,e,c,hd,_⟩:=pl
   exact⟨o,e,hd⟩
  ·refine⟨⟨o,I.kIn p o hk,hc⟩,fun a e=>?_⟩
   cases e
   exact⟨o,I.kIn _ o hk,hd⟩
  ·have z:∃o,s.heap.get? p=some o/\o.ExactDict:=by
    rcases hk with ⟨kvs,hk⟩|⟨kvs,hk⟩
    ·obtain⟨_,_,_,_,o,_,_,e,ex,_⟩:=I.hok p _ hk
     exact⟨o,e,ex⟩
    ·obtain⟨_,_,_,_,o,_,_,e,ex,_⟩:=I.hok p _ hk
     exact⟨o,e,ex⟩
   obtain⟨o,e,ex⟩:=z
   refine⟨⟨o,e,ex.1⟩,fun a e2=>?_⟩
   cases e2
   exact⟨o,e,ex.2.1⟩
  ·obtain⟨o,_,_,_,e,ex,_⟩:=I.hok p _ hk
   refine⟨⟨o,e,ex.1⟩,fun a e2=>?_⟩
   cases e2
   exact⟨o,e,ex.2.1⟩
 |_=>exact False.elim ty
noncomputable def lh (K:PySem.W.Frag)(T:String)(r:V->List V->Hp->VK->Prop)(to:TE)(t:TA):TE:=fun σ H Q=>to σ H fun x H1=>Mg K T x H1/\t σ H1 fun xs H2=>r x xs H2 Q
variable {o e:Expr}{es:List Expr}{to:TE}{t:TA}{name:Str}{apos cpos:Pos}{T id:String}{r:V->List V->Hp->VK->Prop}
theorem p8 (pa:PlainAttrs T)(slot:Slot T name id)(hty:typeOf (.builtin id)=pure (.type "method_descriptor"))(hm:Mt X id r)(ho:PE X o to)(ha:PA X (e::es) t)
  (hbase:attributeBase o name X.env (eval o X.env)=eval o X.env:=by rfl)
  (hfew:((backTo cpos (starEach (e::es) X.env)).all (fun x=>!x.1)&&(backToKw cpos (keywordEach [] X.env)).all (fun x=>x.1.isSome)
   && decide ((e::es).length+([]:List Keyword).length+(if ([]:List Keyword).isEmpty then 0 else 1)<30))=true:=by rfl)
  (hline:(apos.endLine==cpos.line)=true:=by rfl) (hs:starEach (e::es) X.env=(false,eval e X.env)::starEach es X.env:=by rfl) (hplain:(backTo cpos (starEach es X.env)).any (·.1)=false:=by rfl) :
  PE X (.Call (.Attribute o name apos) (e::es) [] cpos) (lh X.K T r to t):=by
 intro pins s σ H Q I h
 refine wpAny_Call_method_late hbase hfew hline rfl (dG (ho pins s σ H _ I h) fun v s1 ⟨x,H1,I1,r1,ty,q1⟩=>?_)
 obtain⟨h1,h2⟩:=FV I1 r1 ty
 refine⟨T,id,pa,slot,hty,h1,h2,?_⟩
 have hA:=ha cpos pins s1 σ H1 _ I1 q1
 rw[hs] at hA ⊢
 refine Calls.callWith_builtin (by show (false || (backTo cpos (starEach es X.env)).any (·.1))=false;rw[hplain]<;>rfl) (Calls.evalArgs_plain ?_)
 exact dG hA fun us s2 ⟨vs,H2,I2,r2,q2⟩=>hm pins s2 σ H2 x vs v us Q I2 r1 r2 q2
end
end L2
namespace L2
open PySem PySem.Spec PyProof.Rows
noncomputable def My (X:Cx)(id:String)(r:V->List V->Hp->VK->Prop):Prop:=
 ∀(pins:List (Addr×Obj)) (s:Shared) (σ:St) (H:Hp) (x:V) (xs:List V) (v:Value) (us:List Value) (Q:VK),Inv X pins σ H s->RelV x v->Vals xs us->r x xs H Q →
  wpAny (model X.prog X.w) X.A (call (.builtin id) (v::us)) (EP X pins σ Q) X.xe s
theorem Vals.one:∀{x:V} {us:List Value},Vals [x] us->∃u,us=[u]/\RelV x u
 |_,_,.cons r .nil=>⟨_,rfl,r⟩
theorem Vals.rep {xs:List V}{us:List Value}(h:Vals xs us):∀k:Nat,Vals (List.replicate k xs).flatten (List.replicate k us).flatten
 |0=>.nil
 |k+1=>by
  rw[List.replicate_succ,List.replicate_succ,List.flatten_cons,List.flatten_cons]
  exact Vals.append h (Vals.rep h k)
theorem mK (its:List Value):∀(k:Nat) (acc:List Value),
  List.foldl (fun x1 x2=>x1++x2) acc.toArray (List.replicate k its.toArray)=(acc++(List.replicate k its).flatten).toArray
 |0,acc=>by simp
 |k+1,acc=>by
  have e:acc.toArray++its.toArray=(acc++its).toArray:=by simp
  have e2:(acc++its)++(List.replicate k its).flatten=acc++(List.replicate (k+1) its).flatten:=by
   rw[List.replicate_succ,List.flatten_cons,List.append_assoc]
  rw[←e2,←mK its k (acc++its),←e,List.replicate_succ,List.foldl_cons]
section
variable {X:Cx}{pins:List (Addr×Obj)}{σ:St}{H:Hp}{s:Shared}{l b:Addr}{xs ys zs:List V}
theorem Inv.lset {its its':List Value}{n:Nat}{f:Array Value->Array Value}{t':Nat}(I:Inv X pins σ H s)(hH:H l=some (.lst xs))
  (e:s.heap.get? l=some { cls:=.type "list",data:=.seq its.toArray n }) (hf:f its.toArray=its'.toArray) (hv:Vals ys its') (hz:ys.length≤sizeLine) :
  Inv X pins σ (upd H l (.lst ys)) { s with heap:=s.heap.update l (Obj.mapSeq f),toks:=t' }:=by
 have q:=PySem.IsL.update e f
 rw[hf] at q
 refine I.write (x:=l) (e:=l) (by rw[hH];exact trivial) (.inl rfl) (fun b' u hb hu=>(Heap.get?_update_other s.heap (Obj.mapSeq f) (Ne.symm hb)).trans hu) ⟨_,q⟩ ?_
 exact⟨hz,its',_,hv,q⟩
theorem Inv.lnew {its:List Value}{t':Nat}(I:Inv X pins σ H s)(hv:Vals ys its)(hz:ys.length≤sizeLine) :
  Inv X pins σ (upd H s.heap.objs.size (.lst ys)) { s with heap:=s.heap.push { cls:=.type "list",data:=.seq its.toArray },toks:=t' }:=
 I.laid (fun _ _ q=>Heap.get?_push_of_some _ q) (Nat.le_refl _) ⟨hz,its,0,hv,Heap.get?_push_size _ rfl⟩
theorem Inv.fresh (I:Inv X pins σ H s):H s.heap.objs.size=none:=I.hok.fresh (Nat.le_refl _)
theorem Inv.lstM (I:Inv X pins σ H s)(hH:H l=some (.lst xs)):xs.length≤sizeLine/\∃(its:List Value) (n:Nat),Vals xs its/\xs.length=its.length/\s.heap.get? l=some { cls:=.type "list",data:=.seq its.toArray n }:=by
 obtain⟨z,its,n,r,e⟩:=I.hok l _ hH
 exact⟨z,its,n,r,r.length,e⟩
theorem Ay {n:Nat}(h:n≤sizeLine):Builtin.List.listTooLong n=false:=by
 unfold Builtin.List.listTooLong
 exact decide_eq_false (by omega)
end
section
variable {X:Cx}
noncomputable def rX:V->List V->Hp->VK->Prop:=fun x vs H Q=>∃l xs y,x=.ref l/\vs=[y]/\H l=some (.lst xs)/\xs.length<sizeLine/\Q .non (upd H l (.lst (xs++[y])))
theorem ic:My X "list.append" rX:=by
 intro pins s σ H x vs v us Q I rx rv h
 obtain⟨l,xs,y,rfl,rfl,hH,hz,q⟩:=h
 cases rx
 obtain⟨u,rfl,ru⟩:=rv.one
 obtain⟨z,its,n,r,hl,e⟩:=I.lstM hH
 refine call_meets F.slot_list_append ⟨_,e,rfl⟩ F.entry_list_append (F.args_list_append_2 _ _) (PySem.list_append l its.toArray n u (by rw[List.size_toArray];omega)) ⟨e,?_⟩
 refine⟨.non,_,I.lset (its':=its++[u]) hH e (by simp) (r.append (.cons ru .nil)) ?_,rfl,q⟩
 rw[List.length_append,List.length_singleton]
 omega
noncomputable def LI:R2:=fun x y H Q=>∃l b xs zs,x=.ref l/\y=.ref b/\H l=some (.lst xs)/\H b=some (.lst zs)/\xs.length+zs.length≤sizeLine/\∀p,H p=none->Q (.ref p) (upd H p (.lst (xs++zs)))
theorem Fd:kj X (binaryOp .Add) LI:=by
 intro pins s σ H x y v u Q I rx ry h
 obtain⟨l,b,xs,zs,rfl,rfl,hH,hB,hz,q⟩:=h
 cases rx
 cases ry
 obtain⟨z,its,n,r,hl,e⟩:=I.lstM hH
 obtain⟨z2,its2,n2,r2,hl2,e2⟩:=I.lstM hB
 refine PySem.P.add_list e e2 ?_ (by rw[List.size_toArray,List.size_toArray];omega)
 have ea:its.toArray++its2.toArray=(its++its2).toArray:=by simp
 rw[ea]
 exact⟨.ref _,_,I.lnew (t':=s.toks) (r.append r2) (by rw[List.length_append];omega),rfl,q _ I.fresh⟩
noncomputable def KU:R2:=fun x y H Q=>∃l k xs,x=.ref l/\y=.int k/\H l=some (.lst xs)/\-(2 ^ 63)≤k/\k<2 ^ 63/\xs.length * k.toNat≤sizeLine ∧
 ∀p,H p=none->Q (.ref p) (upd H p (.lst (List.replicate k.toNat xs).flatten))
theorem rW {α:Type}(xs:List α)(k:Nat):(List.replicate k xs).flatten.length=k * xs.length:=by
 induction k with
 |zero=>simp
 |succ k ih=>rw[List.replicate_succ,List.flatten_cons,List.length_append,ih,Nat.succ_mul,Nat.add_comm]
theorem FX:kj X (binaryOp .Mult) KU:=by
 intro pins s σ H x y v u Q I rx ry h
 obtain⟨l,k,xs,rfl,rfl,hH,h1,h2,hz,q⟩:=h
 cases rx
 obtain⟨t,rfl⟩:=ry
 obtain⟨z,its,n,r,hl,e⟩:=I.lstM hH
 have hlen:its.toArray.size * k.toNat≤sizeLine:=by rw[List.size_toArray,←hl];exact hz
 have hcap:¬its.toArray.size * k.toNat > (2 ^ 63 - 1) / 8:=by
  have:(sizeLine:Nat)≤(2 ^ 63 - 1) / 8:=by decide
  omega
 have hfit:¬(!Builtin.List.listFitsIndex k)=true:=by
  rw[fitsIndex_both h1 h2]
  exact Bool.false_ne_true
 have hlong:¬Builtin.List.listTooLong (its.toArray.size * k.toNat)=true:=by
  rw[Ay hlen]
  exact Bool.false_ne_true
 have hnew:List.foldl (fun x1 x2=>x1++x2) #[] (List.replicate (if its.toArray.isEmpty=true then 0 else k.toNat) its.toArray)=(List.replicate k.toNat its).flatten.toArray:=by
  have f0:∀m:Nat,List.foldl (fun x1 x2=>x1++x2) #[] (List.replicate m its.toArray)=(List.replicate m its).flatten.toArray:=fun m=>by
   have:=mK its m []
   rw[List.nil_append] at this
   exact this
  rw[f0]
  cases its with
  |nil=>simp
  |cons a r'=>rw[if_neg (by simp)]
 refine wpAny_binaryOp_repeat_ref (T:="list") (U:="int") (by decide) ⟨_,e,rfl⟩ (fun s'=>typeIs_int s' k t) noFill_list_mul F.fills_int_mul F.slot_int_rmul repeat_list F.slot_int_index.lookup
  (call_meets F.slot_int_rmul (typeIs_int s k t) F.entry_int_rmul (F.args_int_rmul_2 _ _) (int___rmul___int_list k t l its.toArray n)
   ⟨e,rfl,⟨_,e,rfl⟩,call_meets F.slot_list_mul ⟨_,e,rfl⟩ F.entry_list_mul (F.args_list_mul_2 _ _) (AutoListH.list___mul___list_int_3 l its.toArray n k t hfit hcap hlong) ⟨e,?_⟩⟩)
 rw[hnew]
 exact⟨.ref _,_,I.lnew (t':=s.toks) (r.rep k.toNat) (by rw[rW,Nat.mul_comm];exact hz),rfl,q _ I.fresh⟩
end
section
variable {prog:Program}{w:World}{A:Around}{E:Value->Shared->Prop}{s:Shared}
set_option maxRecDepth 100000 in
end
end L2
namespace Att
open PySem PySem.W PySem.Calls PyProof.Rows
theorem mZ {P:Params}{h:Heap}:∀(ns:List Int) (vs:List Value),WellAll P h vs (ns.map WData.int)->IntsAre vs ns:=by
 intro ns
 induction ns with
 |nil=>
  intro vs w
  rw[List.map_nil] at w
  cases w
  exact .nil
 |cons n ns ih=>
  intro vs w
  rw[List.map_cons] at w
  cases w with
  |cons a b=>
   cases a
   exact .cons _ _ (ih _ b)
theorem ya {l:OpenLaw}{n:Nat}(hn:l.most=some n){P:Params}{h:Heap}{args:List WData}{vals:List Value}
  (hpre:l.row.toRowW.claim.pre args=true) (hwl:WellAll P h vals args) :
  ∃a vs ns,vals=[Value.ref a]/\args=[WData.list (ns.map WData.int)]/\h.get? a=some { cls:=.type "list",data:=.seq vs.toArray }/\IntsAre vs ns/\ns.length≤n:=by
 have hsh:WShape.hasAll [] args [.list .int]=true:=(pre_splitW hpre).1
 have hc:l.pre.holds [] { args:=args }=true:=(pre_splitW hpre).2
 obtain⟨d,r,rfl,h1,h2⟩:=hasAllW_cons hsh
 obtain rfl:=hasAllW_nil h2
 obtain⟨xs,rfl,h3⟩:=hasW_list h1
 obtain⟨ns,rfl⟩:=items_int h3
 have hlen:ns.length≤n:=by
  unfold OpenLaw.pre at hc
  have h4:(WTm.not (.lt (.lit (.int (n:Int))) (.len (.arg 0)))).holds [] { args:=[.list (ns.map .int)] }=true:=by
   have h4:=(holds_andW hc).1
   rw[hn] at h4
   exact h4
  have h5:=condW_of h4 (w_not (w_lt w_lit (w_len_list (w_arg rfl))))
  rw[List.length_map] at h5
  refine Nat.le_of_not_lt fun q=>?_
  have q':(n:Int)<((ns.length:Nat):Int):=by omega
  first
   |(rw[decide_eq_true q'] at h5;exact absurd h5 (by decide))
   |(simp at h5;omega)
 cases hwl with
 |cons w1 w2=>
  cases w2
  cases w1 with
  |list ho hall=>exact⟨_,_,ns,rfl,rfl,ho,mZ ns _ hall,hlen⟩
theorem xF (l:OpenLaw)(args:List WData):l.row.toRowW.claim.post args (.bool true) args=true:=
 postW_of (r:=l.row.toRowW) (X:=(true==true))
  (show WShape.has [] (.bool true) .bool=true by first|rfl|decide|simp[WShape.has,WShape.arms,WShape.armsAll])
  (show (WTm.eq .res (.lit (.bool true))).value [] { args:=args,res:=some (.bool true),after:=args }=some (.bool (true==true)) from w_eq_bool (w_res rfl) w_lit) rfl
theorem attach_call {l:OpenLaw}{n:Nat}{q:Program}{loose:List Str}{XP:(Str->Option Value)->Heap->Prop}{YP:World->Heap->Prop}{d:DefRec}
  (hn:l.most=some n) (hdf:d.params.defaults=[])
  (call:∀(w:World) (s₀ s₁:Shared) (mg mb:Str->Option Value) (fa:Addr) (o:Obj) (pm cd doc:Value) (a:Addr) (vs:List Value) (ns:List Int),
   Ground q loose [] XP w s₀ mg mb s₁.heap->YP w s₁.heap →
   s₁.heap.get? fa=some o->o.data=.func (docDef d.name d.params d.body d.scope pm cd doc)->s₁.heap.CodeRec cd d.name->mg d.name=some (.ref fa) →
   s₁.heap.get? a=some { cls:=.type "list",data:=.seq vs.toArray }->IntsAre vs ns->ns.length≤n->s₁.gens = #[] →
   codeAny (model l.prog w) callerA (.call (.ref fa) ⟨[.ref a],[]⟩) (fun r s'=>r=.ok (.ret (.bool true))/\OldK s₁.heap s'.heap/\s'.os=s₁.os/\AllBare s'.gens) s₁) :
  WalkO q loose XP YP l.row.toRowW d [] (fun f vs=>PySem.call f vs):=by
 intro w s₀ s₁ mg mb G Y fa o pm cd doc dV kV ho hd hcd hD hmg hg args vals as hpre hlay hrd hwl hlo
 obtain rfl:dV=.none:=Dflts.none hD hdf
 obtain rfl:kV=.none:=Dflts.noKw hD
 obtain⟨a,vs,ns,rfl,rfl,hobj,hints,hlen⟩:=ya hn hpre hwl
 refine enter_call (codeAny_mono (call w s₀ s₁ mg mb fa o pm cd doc a vs ns G Y ho (fd_plain hd) hcd hmg hobj hints hlen hg) fun r s' hq=>?_)
 obtain⟨rfl,h2,h3,h4⟩:=hq
 exact⟨.inl ⟨.bool true,.bool true,[],rfl,fun _=>rfl,.bool true,xF l _,fun _=>⟨List.Pairwise.nil,fun _ hm=>(nomatch hm)⟩⟩,h2,h3,h4⟩
section
variable {prog:Program}{w:World}{A:Around}{E:Value->Shared->Prop}{s:Shared}{K:Frag}
noncomputable def ledger (h:Heap)(L d:Addr):List (Addr×Obj):=(List.range h.objs.size).filterMap fun a=>if a=L\/a=d then none else (h.get? a).map fun o=>(a,o)
end
end Att
namespace L2
open PySem PySem.Spec PyProof.Rows
theorem qx:∀{vs:List Value} {ns:List Int},IntsAre vs ns->Vals (ns.map V.int) vs
 |_,_,.nil=>.nil
 |_,_,.cons n t h=>.cons ⟨t,rfl⟩ (qx h)
noncomputable def HP (H:Hp):Prop:=∀b,H b=none\/∃o xs,H b=some (.frz o (.lst xs))
theorem Av {P:Program}{w:World}{K:PySem.W.Frag}{mg mb:Str->Option Value}{CX:wn}{k:Nat}{fa a:Addr}{fd:FuncData}{x:Str}{sp:Sp}{s₁:Shared}{vs:List Value}{ns:List Int}
  (KX:K.In s₁.heap) (hns:s₁.heap.Ns mainGlobals mg) (hb:s₁.heap.Ns builtinsNs mb) (hbb:∀x:Str,x ≠ "__name__"->mb x=bootBuiltins x) (hlim:s₁.heap.NoLimit) (hg:s₁.gens = #[])
  (ha:s₁.heap.get? a=some { cls:=.type "list",data:=.seq vs.toArray }) (hi:IntsAre vs ns) (hl:ns.length≤sizeLine) (hr:Room k callerA)
  (F:∀base:Heap,K.In base->base.Ns mainGlobals mg->FnOk P w K mg base CX k fa fd [x] sp) (hbind:∀(s:Shared) (u:Value),BindsTo s fd ⟨[u],[]⟩ [(x,u)])
  (hsp:∀H:Hp,HP H->SqL K H a (ns.map V.int)->sp [.ref a] H (fun v _=>v=.bl true) fun _ _ _=>False)
  (hCX:∀H e s',CX [] H s₁ (fun _ _ _=>False) e s'->False) :
  codeAny (model P w) callerA (.call (.ref fa) ⟨[.ref a],[]⟩) (fun r s'=>r=.ok (.ret (.bool true))/\OldK s₁.heap s'.heap/\s'.os=s₁.os/\AllBare s'.gens) s₁:=by
 have rv:=qx hi
 have lenV:=hi.length
 have core:∀H:Hp,HP H->SqL K H a (ns.map V.int)->HOk P w H s₁.heap->(∀b,H b≠none->b=a)->(H a≠none->K.lookup a=none) →
   codeAny (model P w) callerA (.call (.ref fa) ⟨[.ref a],[]⟩) (fun r s'=>r=.ok (.ret (.bool true))/\OldK s₁.heap s'.heap/\s'.os=s₁.os/\AllBare s'.gens) s₁:=by
  intro H hO hS hok hA hK
  have base_of:∀{b:Addr} {o:Obj},s₁.heap.get? b=some o->H b=none->(rF s₁.heap H).get? b=some o:=fun e n=>yJ e n
  have noA:∀{b:Addr} {o:Obj} {es:Array DictEntry} {ep:Nat},s₁.heap.get? b=some o->o.data=.dict es ep->H b=none:=fun {b o es ep} e d=>by
   cases q:H b with
   |none=>rfl
   |some u=>
    have e':b=a:=hA b (by rw[q];simp)
    subst e'
    rw[ha] at e;cases e
    have d':Data.seq vs.toArray _=Data.dict es ep:=d
    cases d'
  have nsK:∀{b:Addr} {m:Str->Option Value},s₁.heap.Ns b m->(rF s₁.heap H).Ns b m:=fun {b m} ⟨o,es,ep,e,d,r⟩=>⟨o,es,ep,base_of e (noA e d),d,r⟩
  have hKb:K.In (rF s₁.heap H):=fun b o e=>base_of (KX b o e) (by
   cases q:H b with
   |none=>rfl
   |some u=>
    have e':b=a:=hA b (by rw[q];simp)
    subst e'
    rw[hK (by rw[q];simp)] at e;cases e)
  have hM:Mod K mg (rF s₁.heap H):=⟨hKb,nsK hns,⟨mb,nsK hb,hbb⟩,let ⟨mc,h1,h2⟩:=hlim;⟨mc,nsK h1,h2⟩⟩
  have e0:Env0 P w K mg (rF s₁.heap H) callerA [] s₁ H:=⟨rfl,hM,fun b o e=>Bu e,Nat.le_of_eq (xq _ _),trivial,fun b hb=>absurd (show b∈([]:List Addr) from hb) (by simp),hok,.of_eq hg⟩
  refine codeAny_mono ((F _ hKb (nsK hns)).run callerA [] s₁ H ⟨[.ref a],[]⟩ [.ref a] [.ref a] _ _ hr e0 (hbind s₁ (.ref a)) (.cons rfl .nil) (hsp H hO hS)) fun r s' h=>?_
  cases r with
  |error e=>exact (hCX H e s' h).elim
  |ok fl=>
   cases fl with
   |next=>exact False.elim h
   |brk=>exact False.elim h
   |cont=>exact False.elim h
   |ret u=>
    obtain⟨v,H',os,bare,un,hok',r',q⟩:=h
    have q':v=.bl true:=q
    subst q'
    obtain rfl:u=Value.bool true:=r'
    refine⟨rfl,OldK.of_keep fun b o e=>?_,os,bare⟩
    cases q:H b with
    |none=>exact un.keep b o e q (by intro z;exact absurd (show b∈([]:List Addr) from z) (by simp)) (by simp)
    |some u=>
     rcases hO b with z|⟨ob,xs,z⟩
     ·rw[q] at z;cases z
     ·have z2:=un.frzs b ob _ z
      obtain⟨e1,_⟩:=hok b _ z
      obtain⟨e2,_⟩:=hok' b _ z2
      rw[e] at e1;cases e1
      exact e2
 cases hk:K.lookup a with
 |some o=>
  have e:=KX a o hk
  rw[ha] at e
  cases e
  refine core (fun _=>none) (fun _=>.inl rfl) (.inr ⟨_,vs.toArray,_,hk,rfl,rfl,rfl,by rw[List.size_toArray,lenV];exact hl,by simpa using rv⟩) (fun b u z=>by have z':(none:Option HO)=some u:=z;cases z') (fun b z=>absurd rfl z) fun z=>absurd rfl z
 |none=>
  refine core (fun b=>if b=a then some (.frz { cls:=.type "list",data:=.seq vs.toArray } (.lst (ns.map V.int))) else none) (fun b=>?_) (.inl (.inr ⟨{ cls:=.type "list",data:=.seq vs.toArray },if_pos rfl⟩)) (fun b u z=>?_) (fun b z=>?_) fun _=>hk
  ·by_cases hb:b=a
   ·exact .inr ⟨_,_,if_pos hb⟩
   ·exact .inl (if_neg hb)
  ·by_cases hb:b=a
   ·have z':=(if_pos hb).symm.trans z
    cases z'
    subst hb
    exact⟨ha,by rw[List.length_map];exact hl,vs,_,rv,ha⟩
   ·have z':=(if_neg hb).symm.trans z
    cases z'
  ·by_cases hb:b=a
   ·exact hb
   ·exact absurd (if_neg hb) z
end L2
namespace L2
open PySem PySem.Spec PyProof.Rows
theorem CY {l:PySem.W.OpenLaw}{n k:Nat}{q:Program}{loose:List Str}{XP:(Str->Option Value)->Heap->Prop}{YP:World->Heap->Prop}{d:DefRec}{K:Params->PySem.W.Frag}{CX:World->wn}{sp:World->Sp}{x:Str}
  (hn:l.most=some n) (hn2:n≤sizeLine) (hdf:d.params.defaults=[]) (hr:Room k callerA)
  (hY:∀(w:World) (h:Heap),YP w h->(K w.params).In h)
  (F:∀(w:World) (mg:Str->Option Value) (fa:Addr) (h:Heap),(K w.params).In h->h.Ns mainGlobals mg->mg d.name=some (.ref fa) →
   ∃fd:FuncData,(∀(s:Shared) (u:Value),BindsTo s fd ⟨[u],[]⟩ [(x,u)]) ∧
    ∀base:Heap,(K w.params).In base->base.Ns mainGlobals mg->FnOk l.prog w (K w.params) mg base (CX w) k fa fd [x] (sp w))
  (hsp:∀(w:World) (H:Hp) (a:Addr) (ns:List Int),ns.length≤n->HP H->SqL (K w.params) H a (ns.map V.int)->sp w [.ref a] H (fun v _=>v=.bl true) fun _ _ _=>False)
  (hCX:∀(w:World) (H:Hp) (s:Shared) (e:Value) (s':Shared),CX w [] H s (fun _ _ _=>False) e s'->False) :
  PySem.W.WalkO q loose XP YP l.row.toRowW d [] (fun f vs=>PySem.call f vs):=by
 refine Att.attach_call hn hdf fun w s₀ s₁ mg mb fa o pm cd doc a vs ns G Y ho hd hcd hmg hobj hints hlen hg=>?_
 have KX:=hY w _ Y
 obtain⟨fd,hb,hF⟩:=F w mg fa _ KX G.T.g hmg
 exact Av KX G.T.g G.T.b G.T.builtins G.T.nolimit hg hobj hints (Nat.le_trans hlen hn2) hr hF hb (fun H hO hS=>hsp w H a ns hlen hO hS) fun H e s'=>hCX w H s₁ e s'
end L2
namespace L2
open PySem PySem.Spec PyProof.Rows
noncomputable def aG (s:Stmt):Arguments:=match s with
 |.FunctionDef _ a _ _ _ _ _ _ _ _=>a
 |_=>{ posonlyargs:=[],args:=[],vararg:=none,kwonlyargs:=[],kw_defaults:=[],kwarg:=none,defaults:=[] }
noncomputable def aA (s:Stmt):List Stmt:=match s with
 |.FunctionDef _ _ b _ _ _ _ _ _ _=>b
 |_=>[]
noncomputable def af (s:Stmt):Scope:=match s with
 |.FunctionDef _ _ _ _ _ _ sc _ _ _=>sc
 |_=>{ kind:=.function,names:=[],isGenerator:=false,isCoroutine:=false }
noncomputable abbrev uQ:wn:=fun _ _ _ _ _ _=>False
noncomputable abbrev E0:XK:=fun _ _ _=>False
theorem Ed {X:Cx}:vz uQ X E0:=fun _ _ _ _ _ _ _ h=>h.elim
structure Fun (K:PySem.W.Frag)(x qual:Str)(st:Stmt)(f:Addr)(fd:FuncData):Prop where
 ex:∃(oc:Value) (od:Option Addr) (kV doc pm:Value) (an:Option Addr) (cdv ct:Value) (osl:Array (Option Value)),
  fd=PySem.W.fnOf x qual (aG st) (aA st) (af st) .none kV doc pm an cdv ct/\K.lookup f=some ⟨oc,od,.func fd,osl⟩/\PySem.W.codeIn K cdv qual=true
 kp:PySem.W.keepIn K (.ref f)=true
section
variable {P:Program}{w:World}{K:PySem.W.Frag}{mg:Str->Option Value}{base:Heap}
theorem Fun.ok {x qual:Str}{st:Stmt}{f:Addr}{fd:FuncData}{N ps:List Str}{k:Nat}{sp:Sp}(F:Fun K x qual st f fd)(S:FnScope N ps (af st))(len:∀vs H Q E,sp vs H Q E->vs.length=ps.length)
  (hbody:∀(cdv:Value) (A:Around) (outer:List Env) (s:Shared) (H:Hp) (vs:List V) (Q:VK) (E:XK),Room k (A.deeper (envOfC qual (af st) s.heap.objs.size f cdv))->sp vs H Q E →
   ∃t,PSs (lV uQ P w K mg base N qual (af st) f cdv A outer s H E).nox (aA st) t/\t { nx:=fun _ H'=>Q .non H',rt:=Q } (be N vs) H):FnOk P w K mg base uQ (k+1) f fd ps sp:=by
 obtain⟨oc,od,kV,doc,pm,an,cdv,ct,osl,rfl,lk,hcd⟩:=F.ex
 refine Je lk hcd S len fun A outer s H vs Q E hr hsp=>?_
 obtain⟨t,h,q⟩:=hbody cdv A outer s H vs Q E hr hsp
 exact⟨t,h.nox,q⟩
theorem HK {x qual:Str}{st:Stmt}{f:Addr}{oc:Value}{od an:Option Addr}{osl:Array (Option Value)}{kV doc pm cdv ct:Value}(l:K.lookup f=some ⟨oc,od,.func (PySem.W.fnOf x qual (aG st) (aA st) (af st) .none kV doc pm an cdv ct),osl⟩)
  (c:PySem.W.codeIn K cdv qual=true) (k:PySem.W.keepIn K (.ref f)=true):Fun K x qual st f (PySem.W.fnOf x qual (aG st) (aA st) (af st) .none kV doc pm an cdv ct):=⟨⟨oc,od,kV,doc,pm,an,cdv,ct,osl,rfl,l,c⟩,k⟩
end
theorem yj {n:Nat}(h:n≤1000):n<sizeLine:=Nat.lt_of_le_of_lt h (by decide)
section
variable {X:Cx}
theorem pv (i:Nat){x:Str}{pos:Pos}(hN:X.N[i]?=some x:=by rfl)(hv:Ii X.env.scope x:=by first|exact Or.inl rfl|exact Or.inr (Or.inl rfl)|exact Or.inr (Or.inr rfl))(hd:(x==("__debug__" : Str))=false:=by decide)
  (hcd:(x==("__classdict__" : Str))=false:=by decide):PE X (.Name x pos) (eE i):=yI hN hv hd hcd
end
noncomputable def Same (H H':Hp):Prop:=∀b o,H b=some o->H' b=some o
theorem Same.refl (H:Hp):Same H H:=fun _ _ h=>h
theorem Same.trans {H H1 H2:Hp}(a:Same H H1)(b:Same H1 H2):Same H H2:=fun c o h=>b c o (a c o h)
theorem Same.free {H H':Hp}(e:Same H H'){l:Addr}(h:H' l=Option.none):H l=Option.none:=by
 cases q:H l with
 |none=>rfl
 |some o=>
  rw[e l o q] at h
  cases h
theorem Same.seq {K:PySem.W.Frag}{H H':Hp}{a:Addr}{xs:List V}(e:Same H H')(h:SqL K H a xs):SqL K H' a xs:=by
 rcases h with (h|⟨o,h⟩)|h
 ·exact .inl (.inl (e _ _ h))
 ·exact .inl (.inr ⟨o,e _ _ h⟩)
 ·exact .inr h
end L2
set_option maxHeartbeats 4000000
section
namespace L2
open PySem PySem.Spec PyProof.Rows
section
variable {κ:Type}[DecidableEq κ]
end
theorem AI {P:Program}{w:World}{k:jD}{u:Value}(r:RelV (kV k) u):(dX P w).is k u=true:=by
 cases k with
 |inl i=>obtain⟨t,e⟩:=(show ∃t,u=Value.int i t from r);subst e;exact sO P w i t
 |inr x=>obtain⟨t,e⟩:=(show ∃t,u=Value.str x t from r);subst e;exact gW P w x t
section
variable {X:Cx}{pins:List (Addr×Obj)}{σ:St}{H:Hp}{s:Shared}{a:Addr}{y v:V}{u r:Value}{o:Option V}{A:Around}{E:Value->Shared->Prop}
end
noncomputable def Ku (i:Expr):Prop:=∀ov iv,subscripted i false ov iv=operate [ov,iv] (getItem ov iv)
theorem Ea {prog:Program}{w:World}{A:Around}{E:Value->Shared->Prop}{s:Shared}{env:Env}{value slice:Expr}{pos:Pos}{T id:String}{Q:Value->Shared->Prop}
  (hl:typeLookup (.type T) "__getitem__" = pure (some (.builtin id))) (hs:Ku slice)
  (h:wpAny (model prog w) A (eval value env) (fun o s₁=>wpAny (model prog w) A (eval slice env) (fun i s₂=>s₂.TypeIs o T/\wpAny (model prog w) A (getItem o i) Q E s₂) E s₁) E s) :
  wpAny (model prog w) A (eval (.Subscript value slice pos) env) Q E s:=by
 refine Subscript_ (wpAny_mono h (fun o s₁ h₁=>wpAny_mono h₁ (fun i s₂ h₂=>?_) fun _ _ x=>x) fun _ _ x=>x)
 obtain⟨hT,h₂⟩:=h₂
 unfold subscriptTail
 refine wpAny_bind ?_
 rw[getitemInPython_of_ne hT.not_modules]
 refine wpAny_bind (wpAny_specialOf hT hl ?_)
 have fin:wpAny (model prog w) A (subscripted slice false o i) (fun r s₃=>wpAny (model prog w) A (letTemporaryGo value o r >>= fun _=>pure r) Q E s₃) E s₂:=by
  rw[hs o i]
  exact wpAny_operating (wpAny_mono h₂ (fun r s₃ h₃=>wpAny_bind (wpAny_letTemporaryGo (wpAny_pure h₃))) fun _ _ x=>x)
 first
  |exact wpAny_pure (wpAny_bind fin)
  |exact wpAny_bind (wpAny_pure (wpAny_bind fin))
  |exact wpAny_bind fin
structure M1 (X:Cx)(o:Expr)(m:Str)(apos:Pos)(e:Expr)(cpos:Pos):Prop where
 base:attributeBase o m X.env (eval o X.env)=eval o X.env
 few:((backTo cpos (starEach [e] X.env)).all (fun x=>!x.1)&&(backToKw cpos (keywordEach [] X.env)).all (fun x=>x.1.isSome)
  && decide (([e]:List Expr).length+([]:List Keyword).length+(if ([]:List Keyword).isEmpty then 0 else 1)<30))=true
 line:(apos.endLine==cpos.line)=true
 trees:backTo cpos (starEach [e] X.env)=[(false,eval e X.env)]
structure M2 (X:Cx)(o:Expr)(m:Str)(apos:Pos)(e f:Expr)(cpos:Pos):Prop where
 base:attributeBase o m X.env (eval o X.env)=eval o X.env
 few:((backTo cpos (starEach [e,f] X.env)).all (fun x=>!x.1)&&(backToKw cpos (keywordEach [] X.env)).all (fun x=>x.1.isSome)
  && decide (([e,f]:List Expr).length+([]:List Keyword).length+(if ([]:List Keyword).isEmpty then 0 else 1)<30))=true
 line:(apos.endLine==cpos.line)=true
 trees:backTo cpos (starEach [e,f] X.env)=[(false,eval e X.env),(false,eval f X.env)]
end L2
end
section
namespace L2
open PySem PySem.Spec PyProof.Rows
noncomputable def kx (cells:List (Str×Addr)):List (Str×NameKind)->List (Str×Addr)->List (Str×Addr)
 |[],acc=>acc
 |(n,k)::r,acc=>if k==.free then kx cells r ((n,(cells.lookup n).getD 0)::acc) else kx cells r acc
theorem vG {scope:Scope}{env:Env}(h:∀y∈scope.names,y.2=.free->(env.cells.lookup y.1).isSome=true):closureFor scope env=pure (kx env.cells scope.names []):=by
 unfold closureFor
 generalize scope.names=names at h ⊢
 generalize ([]:List (Str×Addr))=acc
 dsimp only
 induction names generalizing acc with
 |nil=>rfl
 |cons x r ih=>
  obtain⟨n,k⟩:=x
  have hr:=ih (fun y hy=>h y (List.mem_cons_of_mem _ hy))
  rw[List.forIn_cons]
  unfold kx
  by_cases hk:(k==NameKind.free)=true
  ·have hs:=h (n,k) List.mem_cons_self (by simpa using hk)
   obtain⟨c,hc⟩:=Option.isSome_iff_exists.mp hs
   have hc':cellOf env n=pure c:=by unfold cellOf;rw[show env.cells.lookup n=some c from hc]
   simp only[hk,if_true]
   rw[hc',show (env.cells.lookup n).getD 0=c by rw[show env.cells.lookup n=some c from hc];rfl]
   exact hr _
  ·simp only[hk]
   exact hr _
theorem li {cells:List (Str×Addr)}{x:Str}{c:Addr}:∀{names:List (Str×NameKind)} {acc:List (Str×Addr)},(∀y∈names,y.2=.free->(cells.lookup y.1).isSome=true)->(∀x c,acc.lookup x=some c->cells.lookup x=some c) →
  (kx cells names acc).lookup x=some c->cells.lookup x=some c
 |[],_,_,ha,h=>ha x c h
 |(n,k)::r,acc,hs,ha,h=>by
  unfold kx at h
  by_cases hk:(k==NameKind.free)=true
  ·rw[if_pos hk] at h
   refine li (fun y hy=>hs y (List.mem_cons_of_mem _ hy)) (fun z d hz=>?_) h
   obtain⟨e,he⟩:=Option.isSome_iff_exists.mp (hs (n,k) List.mem_cons_self (by simpa using hk))
   have he':cells.lookup n=some e:=he
   rw[List.lookup_cons] at hz
   cases hzn:z==n with
   |true=>
    rw[hzn] at hz
    have:z=n:=by simpa using hzn
    subst this
    rw[he'] at hz ⊢
    exact hz
   |false=>rw[hzn] at hz;exact ha z d hz
  ·rw[if_neg hk] at h
   exact li (fun y hy=>hs y (List.mem_cons_of_mem _ hy)) ha h
theorem nZ {cells:List (Str×Addr)}{x:Str}:∀{names:List (Str×NameKind)} {acc:List (Str×Addr)},(acc.lookup x).isSome=true->((kx cells names acc).lookup x).isSome=true
 |[],_,h=>h
 |(n,k)::r,acc,h=>by
  unfold kx
  split
  ·refine nZ ?_
   rw[List.lookup_cons]
   split
   ·rfl
   ·exact h
  ·exact nZ h
theorem lz {cells:List (Str×Addr)}{x:Str}:∀{names:List (Str×NameKind)} {acc:List (Str×Addr)},(x,NameKind.free)∈names->((kx cells names acc).lookup x).isSome=true
 |[],_,h=>nomatch h
 |(n,k)::r,acc,h=>by
  unfold kx
  rcases List.mem_cons.mp h with e|h
  ·cases e
   rw[if_pos (by rfl)]
   exact nZ (by rw[List.lookup_cons];simp)
  ·split
   ·exact lz h
   ·exact lz h
noncomputable def Cx.blk (X:Cx)(scope:Scope)(N':List Str)(C:Addr)(s:Shared)(H:Hp)(ex:List Addr):Cx:=
 { X with N:=N',s₀:=s,H₀:=H,env:=compEnvC scope (kx X.env.cells scope.names []) C X.env,outer:=X.stack,ex:=ex,fn:=fun _=>false,pn:=[],xe:=fun _ _=>False }
noncomputable def cT (fm:List (Option Nat))(σ:St):St:=fm.map fun o=>o.bind fun j=>(σ[j]?).join
structure BlkOk (X:Cx)(scope:Scope)(N':List Str)(fm:List (Option Nat)):Prop where
 kind:scope.kind=.function
 nocell:∀y∈scope.names,y.2≠.cell
 names:∀y∈scope.names,y.2=.local->scope.names.lookup y.1=some .local
 free:∀y∈scope.names,y.2=.free->X.env.kindOf y.1=some .cell
 len:fm.length=N'.length
 out:∀(i j:Nat) (x:Str),fm[i]?=some (some j)->N'[i]?=some x->X.N[j]?=some x/\scope.names.lookup x=some .free/\X.env.kindOf x=some .cell
theorem BlkOk.has {X:Cx}{scope:Scope}{N':List Str}{fm:List (Option Nat)}(B:BlkOk X scope N' fm)(ok:X.Ok):∀y∈scope.names,y.2=.free->(X.env.cells.lookup y.1).isSome=true:=fun y hy e=>by
 obtain⟨c,hc⟩:=ok.has y.1 (.inl (B.free y hy e))
 rw[hc];rfl
noncomputable def vA (kind:ScopeKind)(names:List (Str×NameKind))(kindOf:Str->Option NameKind)(N N':List Str)(fm:List (Option Nat)):Bool:=
 kind==.function&&(names.all fun y=>y.2 != .cell)&&(names.all fun y=>y.2 != .local || names.lookup y.1==some .local)&&(names.all fun y=>y.2 != .free || kindOf y.1==some .cell)&&fm.length==N'.length &&
  ((fm.zip N').all fun p=>match p.1 with|none=>true|some j=>N[j]?==some p.2&&names.lookup p.2==some .free&&kindOf p.2==some .cell)
theorem FM {X:Cx}{scope:Scope}{N':List Str}{fm:List (Option Nat)}(h:vA scope.kind scope.names X.env.kindOf X.N N' fm=true):BlkOk X scope N' fm:=by
 unfold vA at h
 simp only[Bool.and_eq_true,beq_iff_eq,List.all_eq_true,Bool.or_eq_true,bne_iff_ne,ne_eq] at h
 obtain⟨⟨⟨⟨⟨h1,h2⟩,h3⟩,h4⟩,h5⟩,h6⟩:=h
 refine⟨h1,h2,fun y hy e=>(h3 y hy).resolve_left fun z=>z e,fun y hy e=>(h4 y hy).resolve_left fun z=>z e,h5,fun i j x e1 e2=>?_⟩
 have hm:(some j,x)∈fm.zip N':=by
  refine List.mem_of_getElem? (i:=i) ?_
  rw[List.getElem?_zip_eq_some]
  exact⟨e1,e2⟩
 have z:=h6 _ hm
 simp only[Bool.and_eq_true,beq_iff_eq] at z
 exact⟨z.1.1,z.1.2,z.2⟩
theorem gc {env:Env}:∀{names:List (Str×NameKind)} {x:Str} {k:NameKind},(names.map fun (n,k)=>if (k==NameKind.free&&env.scope.kind==.function&&env.kindOf n==some .cell) then (n,NameKind.cell) else (n,k)).lookup x=some k →
  (k=.cell/\env.kindOf x=some .cell/\(x,NameKind.free)∈names)\/(x,k)∈names
 |[],_,_,h=>by simp at h
 |(n,k0)::r,x,k,h=>by
  rw[List.map_cons] at h
  by_cases hc:(k0==NameKind.free&&env.scope.kind==.function&&env.kindOf n==some .cell)=true
  ·dsimp only at h
   rw[if_pos hc,List.lookup_cons] at h
   cases hx:x==n with
   |true=>
    rw[hx] at h
    have e:x=n:=by simpa using hx
    subst e
    cases h
    simp only[Bool.and_eq_true,beq_iff_eq] at hc
    exact .inl ⟨rfl,hc.2,by rw[←hc.1.1];exact List.mem_cons_self⟩
   |false=>
    rw[hx] at h
    rcases gc h with ⟨a,b,c⟩|c
    ·exact .inl ⟨a,b,List.mem_cons_of_mem _ c⟩
    ·exact .inr (List.mem_cons_of_mem _ c)
  ·dsimp only at h
   rw[if_neg hc,List.lookup_cons] at h
   cases hx:x==n with
   |true=>
    rw[hx] at h
    have e:x=n:=by simpa using hx
    subst e
    cases h
    exact .inr List.mem_cons_self
   |false=>
    rw[hx] at h
    rcases gc h with ⟨a,b,c⟩|c
    ·exact .inl ⟨a,b,List.mem_cons_of_mem _ c⟩
    ·exact .inr (List.mem_cons_of_mem _ c)
theorem hV {env:Env}(hk:env.scope.kind=.function):∀{names:List (Str×NameKind)} {x:Str},names.lookup x=some .free->env.kindOf x=some .cell →
  (names.map fun (n,k)=>if (k==NameKind.free&&env.scope.kind==.function&&env.kindOf n==some .cell) then (n,NameKind.cell) else (n,k)).lookup x=some .cell
 |[],_,h,_=>by simp at h
 |(n,k)::r,x,h,hc=>by
  rw[List.map_cons]
  dsimp only
  cases hx:x==n with
  |true=>
   rw[List.lookup_cons,hx] at h
   cases h
   have e:x=n:=by simpa using hx
   subst e
   rw[hc,hk,if_pos (by rfl),List.lookup_cons,hx]
  |false=>
   rw[List.lookup_cons,hx] at h
   have ih:=hV hk h hc
   split
   ·rw[List.lookup_cons,hx];exact ih
   ·rw[List.lookup_cons,hx];exact ih
section
variable {X:Cx}{scope:Scope}{N':List Str}{fm:List (Option Nat)}{pins:List (Addr×Obj)}{σ:St}{H:Hp}{s:Shared}
theorem EN (B:BlkOk X scope N' fm)(I:Inv X pins σ H s){C:Addr}{ex:List Addr}(hC:s.heap.objs.size≤C)(hex:∀b∈ex,mE X pins H b)(hlt:∀b∈ex,b<s.heap.objs.size):(X.blk scope N' C s H ex).Ok:=by
 have sub:∀x c,(kx X.env.cells scope.names []).lookup x=some c->X.env.cells.lookup x=some c:=fun x c h=>li (B.has I.ok) (fun _ _ z=>by simp at z) h
 refine⟨I.ok.mod,?_,I.ok.glob,I.ok.blt,hC,fun x y c h1 h2=>I.ok.inj x y c (sub x c h1) (sub y c h2),fun x hx=>?_,fun x c h _=>(Bool.false_ne_true h).elim,I.ok.hd,I.ok.frames,.inl rfl,fun b hb=>⟨?_,fun x c h=>(hex b hb).2.2.2.2.1 x c (sub x c h)⟩,I.bs,?_,fun b o e hb=>?_,fun b hb hf=>?_,I.stack,I.stkFree⟩
 ·show (relabel scope X.env).kind=.function
  exact B.kind
 ·have hx':(relabel scope X.env).names.lookup x=some .cell\/(relabel scope X.env).names.lookup x=some .free:=hx
  have mem:(x,NameKind.free)∈scope.names:=by
   rcases hx' with h|h
   ·rcases gc h with ⟨_,_,z⟩|z
    ·exact z
    ·exact absurd rfl (B.nocell _ z)
   ·rcases gc h with ⟨z,_,_⟩|z
    ·cases z
    ·exact z
  exact Option.isSome_iff_exists.mp (lz (cells:=X.env.cells) (acc:=[]) mem)
 ·exact Nat.ne_of_lt (Nat.lt_of_lt_of_le (hlt b hb) hC)
 ·exact Nat.le_trans I.ok.bsz I.sz
 ·have hb':b∈ex:=hb
  rcases (hex b hb').2.2.2.1 with z|z
  ·exact I.ok.noex b o e z
  ·exact absurd (Nat.lt_of_lt_of_le (Heap.lt_size (I.ok.bs b o e).1) z) (Nat.lt_irrefl _)
 ·have hb':b∈ex:=hb
  have hf':b∈uv X.stack:=hf
  rcases List.mem_cons.mp (I.stkSub b hf') with z|z
  ·exact (hex b hb').2.1 z
  ·exact (hex b hb').2.2.1 z
theorem tI {fm:List (Option Nat)}{σ:St}{i:Nat}{v:V}(h:(cT fm σ)[i]?=some (some v)):∃j,fm[i]?=some (some j)/\σ[j]?=some (some v):=by
 unfold cT at h
 rw[List.getElem?_map] at h
 cases e:fm[i]? with
 |none=>rw[e] at h;cases h
 |some o=>
  rw[e] at h
  cases o with
  |none=>cases h
  |some j=>
   refine⟨j,rfl,?_⟩
   have h':some ((σ[j]?).join)=some (some v):=h
   cases e2:σ[j]? with
   |none=>rw[e2] at h';cases h'
   |some w=>rw[e2] at h';exact congrArg some (Option.some.inj h')
theorem Dw (B:BlkOk X scope N' fm)(I:Inv X pins σ H s){C:Addr}{ex:List Addr}{h1:Heap}{tk:Nat}{m:Str->Option Value}(hC:s.heap.objs.size≤C)(hex:∀b∈ex,mE X pins H b)(hlt:∀b∈ex,b<s.heap.objs.size)
  (hn:h1.Ns C m) (old:∀b o,s.heap.get? b=some o->h1.get? b=some o):Inv (X.blk scope N' C s H ex) [] (cT fm σ) H { s with heap:=h1,toks:=tk }:=by
 have sub:∀x c,(kx X.env.cells scope.names []).lookup x=some c->X.env.cells.lookup x=some c:=fun x c h=>li (B.has I.ok) (fun _ _ z=>by simp at z) h
 refine⟨EN B I hC hex hlt,rfl,I.bare,Un.kept old,⟨m,hn,fun i x v hi hσ hv=>?_⟩,fun x c h=>?_,I.hok.fresh hC,fun x c h=>I.freeC x c (sub x c h),fun p hp=>absurd (show p∈([]:List (Addr×Obj)) from hp) (by simp),I.hok.kept old,?_⟩
 ·obtain⟨j,ej,es⟩:=tI hσ
  obtain⟨hN,hf,hk⟩:=B.out i j x ej hi
  obtain⟨m0,_,hl⟩:=I.loc
  obtain⟨u,r,l⟩:=hl j x v hN es (.inr (.inl hk))
  refine⟨u,r,.inr ⟨.inl (hV I.ok.kind hf hk),?_⟩⟩
  rcases l with ⟨z,_⟩|⟨_,c,hc,z⟩
  ·rw[hk] at z;cases z
  ·obtain⟨c',hc'⟩:=Option.isSome_iff_exists.mp (lz (cells:=X.env.cells) (acc:=[]) (PySem.mem_of_lookup hf))
   have e:=sub x c' hc'
   rw[hc] at e
   cases e
   exact⟨c,hc',z.keeps old⟩
 ·obtain⟨v,z⟩:=I.cell x c (sub x c h)
  exact⟨v,z.keeps old⟩
 ·show (cT fm σ).length=N'.length
  unfold cT
  rw[List.length_map]
  exact B.len
end
noncomputable def PIf (X:Cx)(ifs:List Expr)(t:TT):Prop:=
 ∀(pins:List (Addr×Obj)) (s:Shared) (σ:St) (H:Hp) (Q:Bool->Hp->Prop),Inv X pins σ H s->t σ H Q →
  wpAny (model X.prog X.w) X.A (forIn ifs true fun c r=>if r=true then do let ok ←isTrue c X.env (eval c X.env);pure (ForInStep.yield ok) else pure (ForInStep.yield r)) (TP X pins σ Q) X.xe s
noncomputable def ge:TT:=fun _ H Q=>Q true H
theorem DN {X:Cx}:PIf X [] ge:=fun _ s _ H _ I h=>wpAny_tests_nil ⟨H,I,h⟩
theorem jW {prog:Program}{w:World}{A:Around}{R:Result->Shared->Prop}{s:Shared}{elt target iter:Expr}{ifs:List Expr}{scope:Scope}{pos:Pos}{it acc:Value}{env:Env}(I:Nat->Shared->Prop)
  (turn:∀n s,I n s->wpAny (model prog w) A (pyNext it) (fun r s₁=>match r with
   |none=>R (.ok .next) s₁
   |some v=>wpAny (model prog w) A (letOwnedTupleGo target it v) (fun _ s₁=>wpAny (model prog w) A (assign target env v) (fun _ s₂=>
     wpAny (model prog w) A (forIn ifs true fun c r=>if r=true then do let ok ←isTrue c env (eval c env);pure (ForInStep.yield ok) else pure (ForInStep.yield r)) (fun ok s₃=>
      if ok=true then wpAny (model prog w) A (eval elt env) (fun x s₄=>
       wpAny (model prog w) A (call (.builtin "list.append") [acc,x]) (fun _ s₅=>∃m,m<n/\I m s₅) (fun _ _=>False) s₄) (fun _ _=>False) s₃
      else ∃m,m<n/\I m s₃) (fun _ _=>False) s₂) (fun _ _=>False) s₁) (fun _ _=>False) s₁) (fun _ _=>False) s)
  (n:Nat) (h:I n s) :
  codeAny (model prog w) A (.compLoop (.ListComp elt [⟨target,iter,ifs,0⟩] scope pos) 0 it acc env) R s:=by
 refine codeAny_loop rfl I (fun n s hI=>?_) n h
 show wpAny _ A ((compTurn (.ListComp elt [⟨target,iter,ifs,0⟩] scope pos) 0 it acc env).onRaise (fun x=>do noteFrame x env;theTreesLotGoes x)) _ _ s
 refine wpAny_noted ?_
 rw[compTurn_list]
 refine wpAny_bind (wpAny_standAt (wpAny_bind (wpAny_mono (turn n s hI) (fun r s₁ h₁=>?_) fun _ _ h'=>h'.elim)))
 cases r with
 |none=>exact wpAny_pure h₁
 |some v=>
  refine wpAny_bind (wpAny_mono h₁ (fun _ s₁ h₁=>?_) fun _ _ h'=>h'.elim)
  refine wpAny_bind (wpAny_mono h₁ (fun _ s₂ h₂=>wpAny_bind (wpAny_mono h₂ (fun ok s₃ h₃=>?_) fun _ _ h'=>h'.elim)) fun _ _ h'=>h'.elim)
  cases ok with
  |false=>exact wpAny_pure ⟨rfl,h₃⟩
  |true=>
   exact wpAny_bind (wpAny_bind (wpAny_mono h₃ (fun x s₄ h₄=>wpAny_bind (wpAny_mono h₄ (fun _ s₅ h₅=>wpAny_pure (wpAny_pure ⟨rfl,h₅⟩)) fun _ _ h'=>h'.elim)) fun _ _ h'=>h'.elim))
noncomputable def zS (fm:List (Option Nat))(g:TG)(tc:TT)(te:TE)(σ:St)(J:It)(H1:Hp)(Q:List V->Hp->Prop):Prop:=
 ∃(W:Nat->List V->Hp->Prop) (n:Nat),W 0 [] H1/\(∀i ys H,W i ys H->i≤n/\ys.length<sizeLine)/\∀i ys H,W i ys H →
  (J.stop i H/\Q ys H)\/(J.go i H/\∀x H',J.yld i H x H'->g x (cT fm σ) H' fun σ2 H2=>tc σ2 H2 fun b H3=>if b=true then te σ2 H3 fun y H4=>W (i+1) (ys++[y]) H4 else W (i+1) ys H3)
noncomputable def tz (fm:List (Option Nat))(wi:TI)(g:TG)(tc:TT)(te:TE):TE:=fun σ H Q=>wi σ H fun J H1=>zS fm g tc te σ J H1 fun ys H2=>∀l,H2 l=none->Q (.ref l) (upd H2 l (.lst ys))
noncomputable def wt (fm:List (Option Nat))(g:TG):Prop:=∀x σ H N,g x σ H N->g x σ H fun σ' H'=>N σ' H'/\σ'.length=σ.length/\∀(i j:Nat),fm[i]?=some (some j)->σ'[i]?=σ[i]?
theorem bJ {fm:List (Option Nat)}{i:Nat}(hi:fm[i]?=some none):wt fm (bO i):=fun x σ H N h=>by
 refine⟨h,List.length_set,fun k j hk=>?_⟩
 have:i≠k:=fun e=>by subst e;rw[hi] at hk;cases hk
 exact List.getElem?_set_ne this
end L2
end
section
namespace L2
open PySem PySem.Spec PyProof.Rows
section
variable {X:Cx}{scope:Scope}{N':List Str}{fm:List (Option Nat)}{pins:List (Addr×Obj)}{σ:St}{H:Hp}{s:Shared}{tg iter elt:Expr}{ifs:List Expr}{pos:Pos}{g:TG}{tc:TT}{te:TE}
theorem vc (B:BlkOk X scope N' fm)(hc:X.calm=true)(hg:∀C s H ex,PG (X.blk scope N' C s H ex) tg g)(hk:wt fm g)(ht:∀C s H ex,PIf (X.blk scope N' C s H ex) ifs tc)(he:∀C s H ex,PE (X.blk scope N' C s H ex) elt te)
  (I:Inv X pins σ H s) {it:Addr} {fp:List Addr} {tn:Nat->Heap->Prop} {J:It} (T:Turn X.prog X.w X.K tg J fp it tn) (st:tn 0 s.heap) (hf:∀b∈fp,mE X pins H b) {Qf:List V->Hp->Prop} (q:zS fm g tc te σ J H Qf)
  {RR:Value->Addr->Result->Shared->Prop} {E:Value->Shared->Prop}
  (hRR:∀D C H' ys s',Inv X pins σ (upd H' D (.lst ys)) s'->H' D=none->Qf ys H'->mE X pins (upd H' D (.lst ys)) C->(∃m,s'.heap.Ns C m)->RR (.ref D) C (.ok .next) s') :
  wpAny (model X.prog X.w) X.A (newList []) (fun acc s₃=>wpAny (model X.prog X.w) X.A (newFunctionEnv scope X.env.globals (kx X.env.cells scope.names []) [] X.env.qual none .none (some X.env)) (fun cenv s₄=>
   codeAny (model X.prog X.w) X.A (.compStart (.ListComp elt [⟨tg,iter,ifs,0⟩] scope pos) 0 (.ref it) acc { cenv with scope:=relabel scope X.env }) (RR acc cenv.locals) s₄) E s₃) E s:=by
 refine wpAny_newObj_type (wpAny_newFunctionEnv B.nocell (by intro y hy;simp at hy) (fun h₁ hns₁ hsb₁=>?_) B.kind)
 dsimp only at hns₁ hsb₁ ⊢
 generalize hH2:s.heap.push { cls:=.type "list",dict:=none,data:=.seq ([]:List Value).toArray }=H2 at hns₁ hsb₁ ⊢
 have hC:H2.objs.size=s.heap.objs.size+1:=by rw[←hH2,Heap.size_push]
 generalize hCC:H2.objs.size=C at hns₁ hsb₁ hC ⊢
 generalize hDD:s.heap.objs.size=D at hC ⊢
 have hDC:D≠C:=by omega
 have hCle:s.heap.objs.size≤C:=by omega
 have lt:∀(b:Nat) (o:Obj),s.heap.get? b=some o->b<D:=fun b o e=>by rw[←hDD];exact Heap.lt_size e
 have old:∀b o,s.heap.get? b=some o->h₁.get? b=some o:=fun b o e=>hsb₁.extBut b o (Nat.ne_of_lt (Nat.lt_trans (lt b o e) (by rw[hC];exact Nat.lt_succ_self _))) (Heap.get?_push_of_some _ (hH2▸Heap.get?_push_of_some _ e))
 have hacc:h₁.PlainList D #[]:=⟨_,hsb₁.extBut _ _ hDC (Heap.get?_push_of_some _ (by rw[←hH2,←hDD];exact Heap.get?_push_size _ rfl))⟩
 have hlt:∀b∈fp,b<s.heap.objs.size:=fun b hb=>by
  obtain⟨o,e,_⟩:=T.obj 0 s.heap st b hb
  exact Heap.lt_size e
 have hDf:D∉fp:=fun hm=>by have z:=hlt _ hm;rw[hDD] at z;exact Nat.lt_irrefl D z
 have st1:tn 0 h₁:=T.keep 0 _ _ st fun b _ o e=>old b o e
 obtain⟨W,n0,w0,hb,turn⟩:=q
 have sub:∀x c,(kx X.env.cells scope.names []).lookup x=some c->X.env.cells.lookup x=some c:=fun x c h=>li (B.has I.ok) (fun _ _ z=>by simp at z) h
 have I1:∀tk,Inv (X.blk scope N' C s H fp) [] (cT fm σ) H { s with heap:=h₁,toks:=tk }:=fun tk=>Dw B I hCle hf hlt hns₁ old
 have hDfs:D∉uv X.stack:=fun hm=>by
  obtain⟨_,o,e,_⟩:=I.stack.mem hm
  exact Nat.lt_irrefl D (lt D o e)
 have stat:∀{H':Hp} {oD:Obj},(∀b∈fp,H' b=none)->∀b∈fp,mE (X.blk scope N' C s H fp) [(D,oD)] H' b:=fun {H' oD} hn b hb=>by
  have l:=hlt b hb
  obtain⟨f0,f1,f2,f3,f4,f5⟩:=hf b hb
  refine⟨hn b hb,fun z=>?_,fun z=>?_,.inl hb,fun x c h=>f4 x c (sub x c h),fun p hp z=>?_⟩
  ·have z':b=C:=z
   exact Nat.lt_irrefl C (by rw[←z'] at hCle ⊢;exact Nat.lt_of_lt_of_le l hCle)
  ·rcases List.mem_cons.mp (I.stkSub b z) with y|y
   ·exact f1 y
   ·exact f2 y
  ·have e:p=(D,oD):=by simpa [Cx.blk] using hp
   subst e
   have z':D=b:=z
   exact hDf (z'▸hb)
 have loop:∀tk,codeAny (model X.prog X.w) X.A (.compLoop (.ListComp elt [⟨tg,iter,ifs,0⟩] scope pos) 0 (.ref it) (.ref D) (compEnvC scope (kx X.env.cells scope.names []) C X.env)) (RR (.ref D) C) { s with heap:=h₁,toks:=tk }:=by
  intro tk
  refine jW (fun n s'=>∃i ys its H',n=n0+1 - i/\Inv (X.blk scope N' C s H fp) [] (cT fm σ) H' s'/\tn i s'.heap/\(∀b∈fp,H' b=none)/\Vals ys its/\s'.heap.PlainList D its.toArray/\H' D=none/\W i ys H') ?_ (n0+1)
   ⟨0,[],[],H,rfl,I1 tk,st1,fun b hb=>(hf b hb).1,.nil,hacc,I.hok.fresh (by omega),w0⟩
  rintro n s3 ⟨i,ys,its,H3,rfl,I3,xr,fr3,rv,⟨nn,hd⟩,hD,w3⟩
  obtain⟨hi,hys⟩:=hb i ys H3 w3
  have I3':Inv (X.blk scope N' C s H fp) [(D,{ cls:=.type "list",data:=.seq its.toArray nn })] (cT fm σ) H3 s3:=I3.pins_of fun p hp=>by
   have e:p=(D,{ cls:=.type "list",data:=.seq its.toArray nn }):=by simpa using hp
   subst e
   exact⟨hd,hD,hDC,hDfs,fun v z=>by cases z⟩
  rcases turn i ys H3 w3 with ⟨stop,qf⟩|⟨go,step⟩
  ·refine dG (T.done (X.blk scope N' C s H fp) rfl rfl rfl hc i _ s3 _ H3 _ I3' (stat fr3) xr stop) fun r s4 ⟨hr,I4⟩=>?_
   subst hr
   have hd4:=(I4.pin (D,{ cls:=.type "list",data:=.seq its.toArray nn }) (by simp)).1
   have ne:∀b o,H3 b=some o->b≠D:=fun b o e z=>by subst z;rw[hD] at e;cases e
   have U:Un (uv X.stack) fp H H3 s.heap s4.heap:=I4.base
   have U':Un (uv X.stack) fp H (upd H3 D (.lst ys)) s.heap s4.heap:=⟨U.keep,U.slot,fun b o e n hx=>by rw[aC (Nat.ne_of_lt (lt b o e))];exact U.free b o e n hx,U.there,
    fun b xs e=>by have z:=U.tups b xs e;rw[aC (ne b _ z)];exact z,fun b o u e=>by have z:=U.frzs b o u e;rw[aC (ne b _ z)];exact z,
    fun b ps e=>by obtain⟨more,z⟩:=U.tbls b ps e;exact⟨more,by rw[aC (ne b _ z)];exact z⟩⟩
   have hok:HOk X.prog X.w (upd H3 D (.lst ys)) s4.heap:=fun b o e=>by
    by_cases hbD:b=D
    ·subst hbD
     rw[aw] at e
     cases e
     exact⟨Nat.le_of_lt hys,its,nn,rv,hd4⟩
    ·rw[aC hbD] at e
     exact (show ObjOk X.prog X.w H3 s4.heap b o from I4.hok b o e).stay (fun _ _ _ z=>z) (fun c z=>by rw[aC (ne c _ z)];exact z) fun c xs z=>by rw[aC (ne c _ z)];exact z
   have I5:Inv X pins σ (upd H3 D (.lst ys)) s4:=I.call' (I4.os) U' hok I4.bare fun b hb=>by
    obtain⟨f0,f1,f2,f3,f4,f5⟩:=hf b hb
    exact⟨f3,f1,f4,f5⟩
   obtain⟨m4,hn4,_⟩:=I4.loc
   exact hRR D C H3 ys s4 I5 hD qf (I.fpOk hCle (by rw[aC (Ne.symm hDC)];exact I4.free)) ⟨m4,hn4⟩
  ·refine dG (T.item (X.blk scope N' C s H fp) rfl rfl rfl hc i _ s3 _ H3 _ I3' (stat fr3) xr go) fun r s4 ⟨u,hr,h4⟩=>?_
   subst hr
   refine dG h4 fun _ s5 ⟨x,H5,I5,r5,y5,st5,fr5⟩=>?_
   have I5':=I5.pinned (stat fr5) (T.obj _ _ st5)
   refine dG (hg C s H fp _ s5 _ H5 x u _ I5' r5 (hk _ _ _ _ (step x H5 y5))) fun _ s6 ⟨σ6,H6,I6,q6,l6,k6⟩=>?_
   have back:∀{H7:Hp} {s7:Shared} {P7:List (Addr×Obj)},Inv (X.blk scope N' C s H fp) P7 σ6 H7 s7->Inv (X.blk scope N' C s H fp) [] (cT fm σ) H7 s7:=fun {H7 s7 P7} I7=>(I7.weak l6.symm fun a v e=>by
     obtain⟨j,ej,_⟩:=tI e
     rw[k6 a j ej];exact e).pins_of fun p hp=>nomatch hp
   have still:∀{H7:Hp} {s7:Shared},Inv (X.blk scope N' C s H fp) ([(D,{ cls:=.type "list",data:=.seq its.toArray nn })]++oS fp s5.heap) σ6 H7 s7->tn (i+1) s7.heap/\(∀b∈fp,H7 b=none)/\s7.heap.get? D=some { cls:=.type "list",data:=.seq its.toArray nn }/\H7 D=none:=fun {H7 s7} I7=>by
    refine⟨T.keep _ _ _ st5 fun b hb o e=>(I7.pin (b,o) (List.mem_append_right _ (List.mem_append_right _ (jg hb e)))).1,fun b hb=>?_,?_,?_⟩
    ·obtain⟨o,e,d⟩:=T.obj _ _ st5 b hb
     exact (I7.pin (b,o) (List.mem_append_right _ (List.mem_append_right _ (jg hb e)))).2.1
    ·exact (I7.pin (D,_) (List.mem_append_right _ (List.mem_append_left _ (List.mem_singleton.mpr rfl)))).1
    ·exact (I7.pin (D,{ cls:=.type "list",data:=.seq its.toArray nn }) (List.mem_append_right _ (List.mem_append_left _ (List.mem_singleton.mpr rfl)))).2.1
   refine dG (ht C s H fp _ s6 σ6 H6 _ I6 q6) fun ok s7 ⟨H7,I7,q7⟩=>?_
   cases ok with
   |false=>
    rw[if_neg Bool.false_ne_true] at q7 ⊢
    obtain⟨a1,a2,a3,a4⟩:=still I7
    exact⟨n0+1 - (i+1),by omega,i+1,ys,its,H7,rfl,back I7,a1,a2,rv,⟨nn,a3⟩,a4,q7⟩
   |true=>
    rw[if_pos rfl] at q7 ⊢
    refine dG (he C s H fp _ s7 σ6 H7 _ I7 q7) fun y s8 ⟨v8,H8,I8,r8,w8⟩=>?_
    obtain⟨a1,a2,a3,a4⟩:=still I8
    have hsz:its.toArray.size≤sizeLine:=by
     have:=rv.length
     rw[List.size_toArray]
     omega
    refine wpAny_list_append_plain (hsz:=hsz) ⟨nn,a3⟩ fun h9 hl9 sb9=>?_
    have I8':=back I8
    have I9:Inv (X.blk scope N' C s H fp) [] (cT fm σ) H8 { s8 with heap:=h9 }:=I8'.turned (t':=s8.toks) (fun b o hb e=>(sb9.2 b hb).trans e) a4 hDC (.inr (by show s.heap.objs.size≤D;omega)) (fun x c h z=>by
      obtain⟨v,o,ho,hdd⟩:=I8'.cell x c h
      rw[z,a3] at ho
      cases ho
      cases hdd) fun p hp=>nomatch hp
    refine⟨n0+1 - (i+1),by omega,i+1,ys++[v8],its++[y],H8,rfl,I9,T.keep _ _ _ a1 fun b hb o e=>(sb9.2 b (fun z=>hDf (z▸hb))).trans e,a2,Vals.append rv (.cons r8 .nil),?_,a4,w8⟩
    have e:its.toArray.push y=(its++[y]).toArray:=by simp
    rw[←e]
    exact hl9
 refine codeAny_compStart_list (loop _) (T.self _ 0 _ _ _ st1 (loop _))
end
end L2
end
section
namespace L2
open PySem PySem.Spec PyProof.Rows
section
variable {X:Cx}{scope:Scope}{N':List Str}{fm:List (Option Nat)}{tg iter elt:Expr}{ifs:List Expr}{pos spos px:Pos}{g:TG}{tc:TT}{te:TE}{wi:TI}
theorem BF (B:BlkOk X scope N' fm)(hc:X.calm=true)(hi:PI X tg iter wi)(hg:∀C s H ex,PG (X.blk scope N' C s H ex) tg g)(hk:wt fm g)(ht:∀C s H ex,PIf (X.blk scope N' C s H ex) ifs tc)(he:∀C s H ex,PE (X.blk scope N' C s H ex) elt te)
  (hs:∀x,foldedSetIterable iter X.env x=pure x:=by intro _;rfl):PE X (.ListComp elt [⟨tg,iter,ifs,0⟩] scope pos) (tz fm wi g tc te):=by
 intro pins s σ H Q I h
 rw[eval_ListComp]
 refine wpAny_comprehension_free (use:=none) rfl hs (vG (B.has I.ok)) B.kind B.names (dG (hi pins s σ H _ I h) fun v s1 h1=>dG h1 fun itv s2 h2=>?_)
 obtain⟨it,fp,tn,J,H2,e,I2,T,tV,f2,q⟩:=h2
 subst e
 refine vc B hc hg hk ht he I2 T tV f2 q (RR:=fun acc C=>compPost (model X.prog X.w) X.A X.xe none (EP X pins σ Q) acc C) fun D C H' ys s' I' hD qf fC ⟨m,hn⟩=>?_
 refine⟨m,hn,fun h' sb=>⟨.ref D,upd H' D (.lst ys),?_,rfl,qf D hD⟩⟩
 obtain⟨f0,f1,f2,f3,f4,f5⟩:=fC
 exact I'.turned (t':=s'.toks) (fun b o hb e=>sb.extBut b o hb e) f0 f1 f3 f4 f5
end
theorem ez {X:Cx}:gj X (.builtin "isinstance") (fun xs H Q=>∃x n t b,xs=[x,.ty n]/\TyOf X.K H x t/\PySem.W.kitOne X.K t (.type n)=some b/\Q (.bl b) H):=by
 intro pins s σ H xs us Q I r h
 obtain⟨x,n,t,b,rfl,ty,e,q⟩:=h
 cases r with
 |cons r1 r2=>
  cases r2 with
  |cons r2 r3=>
   cases r3
   cases (show _=Value.type n from r2)
   exact xV I r1 ty e fun tk=>⟨.bl b,H,I.tok tk,rfl,q⟩
theorem GN {bs:List Bool}{its:List Value}(r:Vals (bs.map V.bl) its){i:Nat}{v:Value}(h:its[i]?=some v):v=Value.bool (bs.getD i false):=by
 have hl:=r.length
 have hi:i<its.length:=(List.getElem?_eq_some_iff.mp h).1
 rw[List.length_map] at hl
 have hb:i<bs.length:=by omega
 obtain⟨u,e1,e2⟩:=r.get (i:=i) (x:=V.bl bs[i]) (by rw[List.getElem?_map,List.getElem?_eq_getElem hb]<;>rfl)
 rw[h] at e1
 cases e1
 have e2':v=Value.bool bs[i]:=e2
 rw[e2',List.getD_eq_getElem?_getD,List.getElem?_eq_getElem hb]<;>rfl
theorem xp {bs:List Bool}:(List.range bs.length).all (fun i=>bs.getD i false)=bs.all id:=by
 induction bs with
 |nil=>rfl
 |cons b r ih=>
  rw[List.length_cons,List.range_succ_eq_map,List.all_cons,List.all_map,List.all_cons,←ih]<;>rfl
end L2
end
section
namespace L2
open PySem PySem.Spec PyProof.Rows
theorem sT {h:Heap}{a:Addr}{o:Obj}(e:h.get? a=some o):a≠h.objs.size:=Nat.ne_of_lt (Heap.lt_size e)
theorem oG {X:Cx}(hc:X.calm=true):gj X (.builtin "all") (fun xs H Q=>∃(p:Addr) (bs:List Bool),xs=[.ref p]/\SqL X.K H p (bs.map V.bl)/\Q (.bl (bs.all id)) H):=by
 intro pins s σ H xs us Q I r h
 obtain⟨p,bs,rfl,hq,q⟩:=h
 obtain⟨u,rfl,rx⟩:=jE r
 cases rx
 obtain⟨its,rv,pl,hz⟩:=I.list hq
 have hl:its.length=bs.length:=by rw[←rv.length,List.length_map]
 refine call_all_walk (wpAny_pyIter_list pl.isList ?_)
 obtain⟨o,ho,hrest⟩:=id pl.isList
 have hne:p≠s.heap.objs.size:=sT ho
 refine⟨s.heap.objs.size,_,_,_,_,_,fun i=>bs.getD i false,rfl,Walks.list (A:=X.A.in1) (I.ok.hd hc) s.heap.objs.size p hne its.toArray,⟨⟨_,Heap.get?_push_size _ rfl,rfl,rfl⟩,⟨o,Heap.get?_push_of_some _ ho,hrest⟩⟩,fun i v s' Q' E' hP hQ=>?_,fun h' tk hk=>?_⟩
 ·have e:v=Value.bool (bs.getD i false):=GN rv (by simpa using hP)
  subst e
  exact wpAny_truthy_bool hQ
 ·have e2:(List.range its.toArray.size).all (fun i=>bs.getD i false)=bs.all id:=by rw[List.size_toArray,hl];exact xp
  rw[e2]
  exact⟨.bl (bs.all id),H,I.kept (t':=tk) fun b o' e=>hk b o' (fun z=>sT e (List.mem_singleton.mp z)) (Heap.get?_push_of_some _ e),rfl,q⟩
noncomputable def nA (n:Nat):List V:=(List.range n).map fun i:Nat=>V.int (i:Int)
theorem mQ (n:Nat):(nA n).length=n:=by unfold nA;simp
noncomputable def Eh:List V->Hp->VK->Prop:=fun xs H Q=>∃j:Int,xs=[.int j]/\-(2 ^ 62)≤j/\j<2 ^ 62/\∀p,H p=none->Q (.ref p) (upd H p (.rng 0 j))
theorem tJ {X:Cx}:gj X (.type "range") Eh:=by
 intro pins s σ H xs us Q I r h
 obtain⟨j,rfl,h1,h2,q⟩:=h
 obtain⟨u,rfl,t,rfl⟩:=jE r
 refine call_range_1 ?_
 exact⟨.ref s.heap.objs.size,_,I.laid (fun b o e=>Heap.get?_push_of_some _ e) (Nat.le_refl _) (show ObjOk X.prog X.w _ _ _ (.rng 0 j) from⟨_,_,_,Heap.get?_push_size _ rfl⟩),rfl,q _ (I.hok.fresh (Nat.le_refl _))⟩
theorem oh {n:Nat}{acc:Array Value}(h:ItemsOf (fun i v=>∃t,v=.int ((0:Int)+i * 1) t) acc n):Vals (nA n) acc.toList:=by
 obtain⟨hs,hi⟩:=h
 have gen:∀(l:List Value) (k:Nat),(∀j v,l[j]?=some v->∃t,v=Value.int ((k+j:Nat):Int) t)->Vals ((List.range' k l.length).map fun i:Nat=>V.int (i:Int)) l:=by
  intro l
  induction l with
  |nil=>intro k _;exact .nil
  |cons a r ih=>
   intro k hk
   rw[List.length_cons,List.range'_succ,List.map_cons]
   refine .cons ?_ (ih (k+1) fun j v hj=>?_)
   ·obtain⟨t,e⟩:=hk 0 a rfl
    exact⟨t,by simpa using e⟩
   ·obtain⟨t,e⟩:=hk (j+1) v (by simpa using hj)
    exact⟨t,by rw[e];congr 1;omega⟩
 have e:acc.toList.length=n:=by simpa using hs
 have z:=gen acc.toList 0 fun j v hj=>by
  obtain⟨t,e⟩:=hi j v (by simpa using hj)
  exact⟨t,by rw[e];congr 1;omega⟩
 rw[e] at z
 unfold nA
 rw[List.range_eq_range']
 exact z
theorem pF {X:Cx}(hc:X.calm=true):gj X (.type "list") (fun xs H Q=>∃p j,xs=[.ref p]/\H p=some (.rng 0 j)/\0≤j/\j≤1000000/\∀l,H l=none->Q (.ref l) (upd H l (.lst (nA j.toNat)))):=by
 intro pins s σ H xs us Q I r h
 obtain⟨p,j,rfl,hp,h1,h2,q⟩:=h
 obtain⟨u,rfl,rx⟩:=jE r
 cases rx
 obtain⟨t,u,v,e⟩:=(show ObjOk X.prog X.w H s.heap p (.rng 0 j) from I.hok p _ hp)
 refine call_list_range (I.ok.hd hc) (r:=p) (a:=0) (b:=j) (c:=1) (n:=j.toNat) e (small_one (by omega) (by omega) (by omega) (by omega)) (by rw[rangeSize_one];split<;>omega) (by omega) fun h' tk acc' c' hk hS hacc=>?_
 have z:sizeLine ≥ 1000000:=by decide
 refine⟨.ref s.heap.objs.size,_,I.laid (t':=tk) hk (Nat.le_refl _) (show ObjOk X.prog X.w _ h' _ (.lst (nA j.toNat)) from⟨by rw[mQ];omega,acc'.toList,c',oh hacc,hS⟩),rfl,q _ (I.hok.fresh (Nat.le_refl _))⟩
theorem qq {xs:List V}{its:List Value}(r:Vals xs its){j:Nat}(h:j<its.toArray.size):RelV (xs.getD j .non) its.toArray[j]:=by
 have hl:=r.length
 have h1:j<its.length:=by simpa using h
 have h2:j<xs.length:=by omega
 obtain⟨u,e1,e2⟩:=r.get (i:=j) (x:=xs[j]) (List.getElem?_eq_getElem h2)
 have e3:its.toArray[j]=u:=by
  rw[List.getElem?_eq_getElem h1] at e1
  simpa using e1
 rw[e3,List.getD_eq_getElem?_getD,List.getElem?_eq_getElem h2]
 exact e2
end L2
end
section
namespace L2
open PySem PySem.Spec PyProof.Rows
theorem b0 {H:Hp}{p:Addr}(h:H p=none)(o:HO):Same H (upd H p o):=fun b u q=>by rw[aC (bf q h)];exact q
theorem SqT.of' {K:PySem.W.Frag}{H:Hp}{a:Addr}{xs:List V}(h:H a=some (.tup xs)):SqT K H a xs:=SqT.of h
theorem mt:fillsNumberSlot (.type "tuple") "mul" = pure false:=by first|rfl|decide +kernel|kernel_rfl
end L2
end
section
namespace L2
open PySem PySem.Spec PyProof.Rows
theorem rB:seqRepeat? (.type "tuple")=pure (some (.builtin "tuple.__mul__")):=by
 unfold seqRepeat?
 rw[PySem.seqSlot_of (T:="tuple") (name:="__mul__") (id:="tuple.__mul__") PySem.F.slot_tuple_mul.lookup (by decide +kernel),PySem.seqSlot_of (T:="tuple") (name:="__rmul__") (id:="tuple.__rmul__") PySem.F.slot_tuple_rmul.lookup (by decide +kernel)]
 rfl
theorem oT (a:Int)(t:Tok)(l:Addr)(items:Array Value)(n:Nat)(dd:Option Addr)(sl:Array (Option Value)) :
  Meets (Builtin.«int.__rmul__» ⟨[.int a t,.ref l],[]⟩) (fun _ R s=>s.heap.get? l=some { cls:=.type "tuple",dict:=dd,data:=.seq items n,slots:=sl }/\R (.ok (.ret Value.notImplemented)) s):=
 .of_wp fun prog w A R s h=>by obtain⟨hp,g,d,tk,os⟩:=s;obtain⟨hl,h⟩:=h;wp_walk;exact⟨_,rfl,h⟩
theorem nY (l:Addr)(items:Array Value)(n:Nat)(dd:Option Addr)(sl:Array (Option Value))(t:Tok) :
  Meets (Builtin.«tuple.__mul__» ⟨[.ref l,.int 1 t],[]⟩) (fun _ R s=>s.heap.get? l=some { cls:=.type "tuple",dict:=dd,data:=.seq items n,slots:=sl }/\R (.ok (.ret (Value.ref l))) s):=
 .of_wp fun prog w A R s h=>by obtain⟨hp,g,d,tk,os⟩:=s;obtain⟨hl,h⟩:=h;have f1:=AutoSeq1.idx_int;have f2:=AutoSeq1.sub_tuple_tuple;have hc:(items.isEmpty || (1:Int)==1)=true:=(by simp);wp_walk using wpAny_loadPart' hl;exact⟨_,rfl,h⟩
theorem pH (l:Addr)(items:Array Value)(n:Nat)(dd:Option Addr)(sl:Array (Option Value))(k:Int)(t:Tok)(h1:¬(decide (k < -(2 ^ 63)) || decide (k ≥ 2 ^ 63))=true)(h2:¬(items.isEmpty || k==1)=true)(h3:¬(decide (k≤0) || items.isEmpty)=true)
  (h4:¬(items.size * k > (2 ^ 63 - 1) / 8)) (h5:¬Builtin.Tuple.tupleTooMany (items.size * k)=true) (h6:((List.replicate k.toNat items).foldl (·++·) #[]).size≤sizeLine) :
  Meets (Builtin.«tuple.__mul__» ⟨[.ref l,.int k t],[]⟩) (fun _ R s=>s.heap.get? l=some { cls:=.type "tuple",dict:=dd,data:=.seq items n,slots:=sl }/\R (.ok (.ret (Value.ref s.heap.objs.size))) { s with heap:=s.heap.push { cls:=Value.type "tuple",data:=Data.seq ((List.replicate k.toNat items).foldl (·++·) #[]) },toks:=s.toks }):=
 .of_wp fun prog w A R s h=>by obtain⟨hp,g,d,tk,os⟩:=s;obtain⟨hl,h⟩:=h;have f1:=AutoSeq1.idx_int;have f2:=AutoSeq1.sub_tuple_tuple;wp_walk using wpAny_loadPart' hl;rw[if_neg h1];wp_walk using wpAny_loadPart' hl;rw[if_neg h4];(try dsimp only);rw[if_neg h5];wp_walk using wpAny_loadPart' hl;exact⟨_,rfl,h⟩
theorem ou (its:List Value)(m:Nat):List.foldl (fun x1 x2=>x1++x2) #[] (List.replicate m its.toArray)=(List.replicate m its).flatten.toArray:=by
 have:=mK its m []
 rw[List.nil_append] at this
 exact this
end L2
end
section
namespace L2
open PySem PySem.Spec PyProof.Rows
namespace HT
end HT
end L2
end
section
namespace L2
open PySem PySem.Spec PyProof.Rows PySem.W
noncomputable def Leaf {α:Type}(n:Nat)(P:α->Prop):KasT α->Prop
 |.ret a=>P a
 |.ask i j k=>i<n/\j<n/\∀b,Leaf n P (k b)
theorem Leaf.bind {α β:Type}{n:Nat}{P:α->Prop}{R:β->Prop}{f:α->KasT β}(hf:∀a,P a->Leaf n R (f a)):∀{t:KasT α},Leaf n P t->Leaf n R (t.bind f)
 |.ret a,h=>hf a h
 |.ask i j k,h=>⟨h.1,h.2.1,fun b=>Leaf.bind hf (h.2.2 b)⟩
noncomputable abbrev OfN (n:Nat)(p:Array Nat):Prop:=p.toList.Perm (List.range n)
theorem OfN.lt {n:Nat}{p:Array Nat}(h:OfN n p)(hn:0<n)(k:Nat):p.getD k 0<n:=by
 by_cases hk:k<p.size
 ·have e:p.getD k 0=p[k]:=by simp[Array.getD,hk]
  rw[e]
  exact List.mem_range.mp (h.subset (by simp))
 ·have e:p.getD k 0=0:=by simp[Array.getD,hk]
  rw[e];exact hn
theorem OfN.rev {n:Nat}{p:Array Nat}(h:OfN n p)(i j:Nat):OfN n (kas_rev p i j):=(mirror_perm p i j _).toList.trans h
theorem OfN.bub {n:Nat}{p:Array Nat}(h:OfN n p)(i j:Nat):OfN n (bubble p i j):=(bubble_perm p i j).toList.trans h
theorem oP {n:Nat}{p:Array Nat}(hp:OfN n p)(hn:0<n):∀f k,Leaf n (fun _=>True) (kas_asc p f k)
 |0,_=>True.intro
 |f+1,k=>⟨hp.lt hn _,hp.lt hn _,fun b=>by
  cases b with
  |true=>exact True.intro
  |false=>exact oP hp hn f (k+1)⟩
theorem kb {n:Nat}(hn:0<n):∀f (p:Array Nat) k q,OfN n p->Leaf n (fun r=>OfN n r.1) (kas_desc f p k q)
 |0,_,_,_,hp=>hp
 |f+1,p,k,q,hp=>⟨hp.lt hn _,hp.lt hn _,fun b=>by
  cases b with
  |true=>
   show Leaf n _ (if q > 0 then kas_desc f (kas_rev p (k - (q+1)) k) (k+1) 0 else kas_desc f p (k+1) 0)
   split
   ·exact kb hn f _ _ _ (hp.rev _ _)
   ·exact kb hn f _ _ _ hp
  |false=>
   refine⟨hp.lt hn _,hp.lt hn _,fun c=>?_⟩
   cases c with
   |true=>exact hp
   |false=>exact kb hn f _ _ _ hp⟩
theorem oX {n:Nat}(hn:0<n){p:Array Nat}(hp:OfN n p)(a b:Nat):Leaf n (fun r=>OfN n r.2) (kas_tail3 a b p):=by
 unfold kas_tail3
 exact Leaf.bind (P:=fun _=>True) (R:=fun r:Nat×Array Nat=>OfN n r.2) (f:=fun m=>KasT.ret (m,kas_rev p 0 a)) (fun m _=>(show OfN n (kas_rev p 0 a) from hp.rev 0 a)) (oP (hp.rev 0 a) hn _ _)
theorem kB {n:Nat}(hn:0<n){p:Array Nat}(hp:OfN n p)(a b:Nat):Leaf n (fun r=>OfN n r.2) (kas_descPart a b p):=by
 refine Leaf.bind (fun r hr=>?_) (kb hn _ _ _ _ hp)
 split
 ·exact oX hn (OfN.rev hr _ _) _ _
 ·exact oX hn hr _ _
theorem uO {n:Nat}(hn:0<n){p:Array Nat}(hp:OfN n p)(b:Nat):Leaf n (fun r=>OfN n r.2) (kas_count b p):=by
 refine Leaf.bind (fun r _=>?_) (oP hp hn _ _)
 split
 ·exact hp
 ·split
  ·refine⟨hp.lt hn _,hp.lt hn _,fun c=>?_⟩
   cases c with
   |true=>exact hp
   |false=>exact kB hn (hp.rev _ _) _ _
  ·exact kB hn hp _ _
theorem kU {n:Nat}(hn:0<n){p:Array Nat}(hp:OfN n p)(k:Nat):∀f l r,Leaf n (fun _=>True) (kas_place p k f l r)
 |0,_,_=>True.intro
 |f+1,l,r=>by
  show Leaf n _ (if l ≥ r then .ret l else .ask (p.getD k 0) (p.getD ((l+r) / 2) 0) fun c=>if c=true then kas_place p k f l ((l+r) / 2) else kas_place p k f ((l+r) / 2+1) r)
  split
  ·exact True.intro
  ·refine⟨hp.lt hn _,hp.lt hn _,fun c=>?_⟩
   cases c with
   |true=>exact kU hn hp k f _ _
   |false=>exact kU hn hp k f _ _
theorem tE {n:Nat}(hn:0<n):∀f (p:Array Nat) k,OfN n p->Leaf n (OfN n) (kas_bin f p k)
 |0,_,_,hp=>hp
 |f+1,p,k,hp=>Leaf.bind (fun l _=>tE hn f _ _ (hp.bub _ _)) (kU hn hp k _ _ _)
theorem pR {n:Nat}(hn:0<n):Leaf n (OfN n) (kas_sort n):=by
 refine Leaf.bind (fun r hr=>?_) (uO hn (show OfN n (List.toArray (List.range n)) from .refl _) n)
 split
 ·exact tE hn _ _ _ hr
 ·exact hr
theorem HOk.stands {P:Program}{w:World}{H:Hp}{h:Heap}{a:Addr}{o:HO}(x:HOk P w H h)(e:H a=some o):∃ob,h.get? a=some ob:=by
 have y:=x a o e
 cases o with
 |lst xs=>obtain⟨_,_,_,_,z⟩:=y;exact⟨_,z⟩
 |tup xs=>obtain⟨_,_,_,ob,z,_⟩:=y;exact⟨_,z⟩
 |dK kvs=>obtain⟨_,_,_,_,ob,_,_,z,_⟩:=y;exact⟨_,z⟩
 |dT kvs=>obtain⟨_,_,_,_,ob,_,_,z,_⟩:=y;exact⟨_,z⟩
 |set S n=>obtain⟨ob,_,_,_,z,_⟩:=y;exact⟨_,z⟩
 |ins C dx fs=>obtain⟨_,_,_,z,_⟩:=y;exact⟨_,z⟩
 |own y'=>exact y
 |xd fs=>obtain⟨_,⟨ob,_,_,z,_⟩,_⟩:=y;exact⟨_,z⟩
 |rng lo hi=>obtain⟨_,_,_,z⟩:=y;exact⟨_,z⟩
 |frz ob u=>exact⟨_,y.1⟩
 |tbl ps=>exact⟨_,(show h.get? a=some { cls:=.none,data:=.fields ps } from y)⟩
 |met f y'=>exact⟨_,(show h.get? a=some (PySem.W.methodObj (.ref f) (.ref y')) from y)⟩
 |ext φ=>exact y.2.1
theorem G7 {h:Heap}{L:Addr}{m m':Str->Option Value}(a:h.Ns L m)(b:h.Ns L m'):m=m':=by
 obtain⟨o,es,ep,h1,h2,h3,h4⟩:=a
 obtain⟨o',es',ep',h1',h2',h3',h4'⟩:=b
 rw[h1] at h1'
 cases h1'
 rw[h2] at h2'
 cases h2'
 funext x
 rw[←h4 x,←h4' x]
section
variable {X:Cx}{pins:List (Addr×Obj)}{σ:St}{H:Hp}{s:Shared}
theorem Inv.ledger {h':Heap}{m:Str->Option Value}{D:Addr}{ys:List V}{out:List Value}{c:Nat}(I:Inv X pins σ H s)(F0:Fr X.base X.env.locals s.heap m)(F:Fr X.base X.env.locals h' m)(N:News X.base X.env.locals h' ((D,listOf (List.toArray out) c)::lK X.base s.heap X.env.locals))
  (hD:s.heap.get? D=none) (r:Vals ys out) (hz:ys.length≤sizeLine):Inv X pins σ (upd H D (.lst ys)) { s with heap:=h' }/\H D=none:=by
 have hHD:H D=none:=by
  cases e:H D with
  |none=>rfl
  |some o=>
   obtain⟨ob,z⟩:=I.hok.stands e
   rw[hD] at z;cases z
 have kept:∀b o,b≠X.env.locals->s.heap.get? b=some o->h'.get? b=some o:=fun b o hb e=>by
  cases q:X.base.get? b with
  |some u=>
   have z:=I.bk b u q
   rw[e] at z;cases z
   exact F.keep b _ q
  |none=>exact (N (b,o) (List.mem_cons_of_mem _ (j2 hb q e))).1
 have ne:∀b o,H b=some o->b≠D:=fun b o e z=>by subst z;rw[hHD] at e;cases e
 have neL:∀b o,H b=some o->b≠X.env.locals:=fun b o e z=>by subst z;rw[I.free] at e;cases e
 have hd:=(N (D,listOf (List.toArray out) c) (List.mem_cons_self)).1
 refine⟨I.step (g':=s.gens) (t':=s.toks) (d':=s.drawn) (ch:=[]) (fun _ z=>nomatch z) (fun b o hL _ _ e _=>kept b o hL e) (fun b o hL _ _ e _=>⟨o.slots,kept b o hL e⟩) (fun b o _ e n=>?_) (fun b o _ e=>?_)
  (fun b xs e=>by rw[aC (ne b _ e)];exact e) (fun b o u e=>by rw[aC (ne b _ e)];exact e) (fun b ps e=>⟨#[],by rw[aC (ne b _ e),e];simp⟩) (fun m1 hm=>?_) (fun b o e=>?_) I.bare,hHD⟩
 ·rw[aC (fun z=>by subst z;rw[hD] at e;cases e)];exact n
 ·by_cases hb:b=X.env.locals
  ·subst hb
   obtain⟨o',_,_,z,_⟩:=F.ns
   exact⟨o',z⟩
  ·exact⟨o,kept b o hb e⟩
 ·rw[G7 hm F0.ns];exact F.ns
 ·by_cases hb:b=D
  ·subst hb
   rw[aw] at e
   cases e
   exact⟨hz,out,c,r,hd⟩
  ·rw[aC hb] at e
   refine (I.hok b o e).stay (fun d u hc q=>kept d u ?_ q) (fun d z=>by rw[aC (ne d _ z)];exact z) fun d xs z=>by rw[aC (ne d _ z)];exact z
   rcases hc with z|z
   ·rw[z];exact neL b _ e
   ·exact neL d _ z
end
section
variable {prog:Program}{w:World}{A:Around}{E:Value->Shared->Prop}{s:Shared}
theorem vf {a:Addr}{vs:List Value}{n:Nat}{P:PySem.Fin->Shared->Prop}(ho:s.heap.get? a=some (seqObj "list" vs.toArray n))(h2:vs.length<2)
  (h:P (.done (.ret .none)) { s with heap:=sortedHeap s.heap a vs vs.toArray }):wpAny (model prog w) A (Builtin.«list.sort» ⟨[.ref a],[]⟩) P E s:=by
 rw[list_sort_plain]
 have ha:=Heap.lt_size ho
 refine wpAny_bind (listItems_at ho rfl (wpAny_bind (listUpdate_at ho rfl ?_ (by rw[List.size_toArray,sizeLine_eq];omega) (Nat.zero_le _))))
 obtain⟨e1,ho1⟩:∃e1,(s.heap.update a (Obj.mapSeq fun _=>(#[]:Array Value))).get? a=some (seqObj "list" #[] e1):=⟨_,get?_update_seq ho fun _=>#[]⟩
 refine wpAny_bind (seqEpoch_at ho1 rfl (wpAny_bind (wpAny_newTuple (wpAny_bind (wpAny_newList (wpAny_holding ?_) (Nat.zero_le _))) (by show vs.length≤_;rw[sizeLine_eq];omega))))
 have ho6:(((s.heap.update a (Obj.mapSeq fun _=>(#[]:Array Value))).push (seqObj "tuple" vs.toArray 0)).push (seqObj "list" #[] 0)).get? a=some (seqObj "list" #[] e1):=Heap.get?_push_of_some _ (Heap.get?_push_of_some _ ho1)
 show wpAny (model prog w) A _ P E { s with heap:=((s.heap.update a (Obj.mapSeq fun _=>(#[]:Array Value))).push (seqObj "tuple" vs.toArray 0)).push (seqObj "list" #[] 0) }
 dsimp only
 have hlt:vs.toArray.size<2:=by rw[List.size_toArray];exact h2
 rw[if_pos hlt,if_pos hlt]
 refine wpAny_bind (wpAny_pure ?_)
 rw[StateT.run_pure]
 have hsn:(arrOf (SortSt.mk' general' (vs.toArray.zip vs.toArray) #[] 7 none)).map (·.2)=vs.toArray:=by
  show (vs.toArray.zip vs.toArray).map (·.2)=vs.toArray
  apply Array.toList_inj.mp
  simp
  exact List.map_snd_zip (by simp)
 refine wpAny_bind (wpAny_pure ?_)
 dsimp only
 refine wpAny_bind (seqEpoch_at ho6 rfl ?_)
 refine wpAny_bind (listUpdate_at ho6 rfl ?_ (Nat.zero_le _) (by rw[hsn,List.size_toArray,sizeLine_eq];omega))
 simp only[bne_self_eq_false,Bool.false_eq_true,if_false]
 rw[hsn]
 exact wpAny_pure h
theorem rh {l:Addr}{vs:List Value}{Q:Value->Shared->Prop}(hl:s.heap.IsList l vs.toArray)(h2:vs.length<2)(h:Q (.ref (s.heap.objs.size+1)) { s with heap:=sortedAll s.heap vs vs.toArray }) :
  wpAny (model prog w) A (call (.builtin "sorted") [.ref l]) Q E s:=by
 refine Calls.call_function_entry kind_sorted plain_sorted entry_sorted (args_sorted1 _) ?_
 unfold Builtin.«sorted»
 refine wpAny_bind (m:=checkCount "sorted" 1 1 _) (wpAny_pure (wpAny_bind (collect_list hl (wpAny_bind (wpAny_newList ?_ (by rw[sizeLine_eq];omega))) (by rw[sizeLine_eq];omega))))
 have hsz:((s.heap.push (seqObj "list" #[] 0)).update s.heap.objs.size (Obj.mapSeq (·++vs.toArray))).objs.size=s.heap.objs.size+1:=(Heap.size_update ..).trans (size_push' ..)
 have hoL:(((s.heap.push (seqObj "list" #[] 0)).update s.heap.objs.size (Obj.mapSeq (·++vs.toArray))).push (seqObj "list" vs.toArray 0)).get? (s.heap.objs.size+1)=some (seqObj "list" vs.toArray 0):=hsz▸Heap.get?_push_size _ rfl
 show wpAny _ _ _ _ _ { s with heap:=((s.heap.push (seqObj "list" #[] 0)).update s.heap.objs.size (Obj.mapSeq (·++vs.toArray))).push (seqObj "list" vs.toArray 0) }
 rw[hsz]
 refine wpAny_bind (wpAny_holding (wpAny_call_entry slot_list_sort ⟨_,hoL,rfl⟩ entry_list_sort (vf hoL h2 ⟨_,rfl,?_⟩) (args_list_sort _)))
 exact wpAny_pure ⟨_,rfl,h⟩
end
end L2
end
section
namespace L2
open PySem PySem.Spec PyProof.Rows PySem.W
theorem jK {α:Type}(d:α):∀(xs:List α),(List.range xs.length).map (fun i=>xs.getD i d)=xs:=fun xs=>by
 apply List.ext_getElem
 ·simp
 ·intro i h1 h2
  rw[List.getElem_map,List.getElem_range]
  simp[h2]
theorem sU {ts:List V}{its:List Value}(r:Vals ts its):∀{p:List Nat},(∀i∈p,i<its.length)->Vals (p.map fun i=>ts.getD i .non) (p.map fun i=>its.getD i Value.none)
 |[],_=>.nil
 |i::p,h=>by
  have hi:=h i List.mem_cons_self
  have hz:=qq r (j:=i) (by simpa using hi)
  have e:its.getD i Value.none=its.toArray[i]'(by simpa using hi):=by simp[hi]
  refine .cons ?_ (sU r fun j hj=>h j (List.mem_cons_of_mem _ hj))
  show RelV (ts.getD i .non) (its.getD i Value.none)
  rw[e];exact hz
end L2
end
section
namespace L2
open PySem PySem.Spec PyProof.Rows
noncomputable def FunD (K:PySem.W.Frag)(mg:Str->Option Value)(x:Str)(st:Stmt)(ps:List Str):Prop:=∃f fd,Fun K x x st f fd/\(∀us:List Value,us.length=ps.length->bindArgs fd ⟨us,[]⟩=pure (ps.zip us))/\mg x=some (.ref f)
noncomputable def Def (P:Program)(w:World)(K:PySem.W.Frag)(mg:Str->Option Value)(base:Heap)(k:Nat)(x:Str)(ps:List Str)(sp:Sp):Prop:=
 ∃f fd,FnOk P w K mg base uQ k f fd ps sp/\Binds K fd ps []/\PySem.W.keepIn K (.ref f)=true/\mg x=some (.ref f)
section
variable {P:Program}{w:World}{K:PySem.W.Frag}{mg:Str->Option Value}{base:Heap}
theorem FunD.ok {x:Str}{st:Stmt}{N ps:List Str}{k:Nat}{sp:Sp}(F:FunD K mg x st ps)(S:FnScope N ps (af st))(len:∀vs H Q E,sp vs H Q E->vs.length=ps.length)
  (hbody:∀(f:Addr) (cdv:Value) (A:Around) (outer:List Env) (s:Shared) (H:Hp) (vs:List V) (Q:VK) (E:XK),Room k (A.deeper (envOfC x (af st) s.heap.objs.size f cdv))->sp vs H Q E →
   ∃t,PSs (lV uQ P w K mg base N x (af st) f cdv A outer s H E).nox (aA st) t/\t { nx:=fun _ H'=>Q .non H',rt:=Q } (be N vs) H):Def P w K mg base (k+1) x ps sp:=by
 obtain⟨f,fd,F,b,m⟩:=F
 exact⟨f,fd,F.ok S len (hbody f),.all b,F.kp,m⟩
end
theorem FunD.top {P:Program}{w:World}{K:PySem.W.Frag}{mg:Str->Option Value}{x y:Str}{st:Stmt}{fa:Addr}{k:Nat}{sp:Sp}{N:List Str}{R:Heap->Prop}(F:FunD K mg x st [y])(hm:mg x=some (.ref fa))(S:FnScope N [y] (af st))(len:∀vs H Q E,sp vs H Q E->vs.length=1)
  (hbody:∀base,R base->∀(f:Addr) (cdv:Value) (A:Around) (outer:List Env) (s:Shared) (H:Hp) (vs:List V) (Q:VK) (E:XK),Room k (A.deeper (envOfC x (af st) s.heap.objs.size f cdv))->sp vs H Q E →
   ∃t,PSs (lV uQ P w K mg base N x (af st) f cdv A outer s H E).nox (aA st) t/\t { nx:=fun _ H'=>Q .non H',rt:=Q } (be N vs) H) :
  ∃fd:FuncData,(∀(s:Shared) (u:Value),BindsTo s fd ⟨[u],[]⟩ [(y,u)])/\∀base:Heap,R base->FnOk P w K mg base uQ (k+1) fa fd [y] sp:=by
 obtain⟨f,fd,F,b,m⟩:=F
 rw[hm] at m
 cases m
 exact⟨fd,fun s u=>.of_eq (b [u] rfl),fun base hb=>F.ok S len (hbody base hb fa)⟩
section
variable {X:Cx}{k j:Nat}{ps:List Str}{sp:Sp}{x:Str}{p pos:Pos}{e:Expr}{es:List Expr}{t:TA}
theorem kZ (d:Def X.prog X.w X.K X.mg X.base j x ps sp)(hr:Room k X.A)(ha:PA X (e::es) t)(hj:j≤k:=by decide)(hg:Gl X x:=by rfl)(hdb:(x==("__debug__" : Str))=false:=by decide)(he:starEach (e::es) X.env=(false,eval e X.env)::starEach es X.env:=by rfl)
  (hpl:(backTo pos (starEach es X.env)).any (·.1)=false:=by rfl):PE X (.Call (.Name x p) (e::es) [] pos) (bY sp [] E0 t):=by
 obtain⟨f,fd,F,b,kp,m⟩:=d
 exact Di F (hr.mono hj) hg m kp b .nil Ed ha hdb he hpl
end
section
variable {X:Cx}{scope:Scope}{tg iter elt:Expr}{ifs:List Expr}{pos spos px:Pos}{g:TG}{tc:TT}{te:TE}{wi:TI}
theorem eN (N':List Str)(fm:List (Option Nat))(hi:PI X tg iter wi)(hg:∀C s H ex,PG (X.blk scope N' C s H ex) tg g)(ht:∀C s H ex,PIf (X.blk scope N' C s H ex) ifs tc)(he:∀C s H ex,PE (X.blk scope N' C s H ex) elt te)(hk:wt fm g)
  (hB:vA scope.kind scope.names X.env.kindOf X.N N' fm=true:=by rfl) (hc:X.calm=true:=by rfl) (hs:∀x,foldedSetIterable iter X.env x=pure x:=by intro _;rfl):PE X (.ListComp elt [⟨tg,iter,ifs,0⟩] scope pos) (tz fm wi g tc te):=
 BF (FM hB) hc hi hg hk ht he hs
end
theorem aQ {K:PySem.W.Frag}{mg:Str->Option Value}{x:Str}{st:Stmt}{f:Addr}{oc:Value}{od an:Option Addr}{osl:Array (Option Value)}{kV doc pm cdv ct:Value}{ps:List Str}(l:K.lookup f=some ⟨oc,od,.func (PySem.W.fnOf x x (aG st) (aA st) (af st) .none kV doc pm an cdv ct),osl⟩)
  (c:PySem.W.codeIn K cdv x=true) (k:PySem.W.keepIn K (.ref f)=true) (m:mg x=some (.ref f))
  (h:∀(kV doc pm:Value) (an:Option Addr) (cdv ct:Value) (us:List Value),us.length=ps.length->bindArgs (PySem.W.fnOf x x (aG st) (aA st) (af st) .none kV doc pm an cdv ct) ⟨us,[]⟩=pure (ps.zip us)):FunD K mg x st ps:=
 ⟨f,_,HK l c k,h kV doc pm an cdv ct,m⟩
noncomputable def tR (H:Hp):V->Option (List V)
 |.ref a=>match H a with
  |some (.tup xs)=>some xs
  |_=>none
 |_=>none
noncomputable def jc (H:Hp):V->Option (List V)
 |.ref a=>match H a with
  |some (.lst xs)=>some xs
  |_=>none
 |_=>none
section
variable {X:Cx}{x:Str}{pos:Pos}
theorem nX {n:String}(hm:X.mg x=none)(hv:bootBuiltins x=some (.type n))(hg:Gl X x:=by rfl)(hn:x ≠ "__name__":=by decide)(hd:(x==("__debug__" : Str))=false:=by decide):PE X (.Name x pos) (tC (.ty n)):=DJ hg hm hv rfl hn hd
theorem FL {i:Int}(h:∃t,X.mg x=some (.int i t))(hg:Gl X x:=by rfl)(hd:(x==("__debug__" : Str))=false:=by decide):PE X (.Name x pos) (tC (.int i)):=by
 obtain⟨t,h⟩:=h
 exact km hg h ⟨t,rfl⟩ hd
end
theorem gb:bootBuiltins "len" = some (.builtin "len"):=by decide +kernel
theorem Fu:bootBuiltins "abs" = some (.builtin "abs"):=by decide +kernel
theorem Gi:bootBuiltins "max" = some (.builtin "max"):=by decide +kernel
theorem uF:bootBuiltins "min" = some (.builtin "min"):=by decide +kernel
theorem vO:bootBuiltins "all" = some (.builtin "all"):=by decide +kernel
theorem cO:bootBuiltins "isinstance" = some (.builtin "isinstance"):=by decide +kernel
theorem yn:bootBuiltins "sorted" = some (.builtin "sorted"):=by decide +kernel
theorem qQ:bootBuiltins "int" = some (.type "int"):=by decide +kernel
theorem Bv:bootBuiltins "bool" = some (.type "bool"):=by decide +kernel
theorem vH:bootBuiltins "str" = some (.type "str"):=by decide +kernel
theorem qW:bootBuiltins "list" = some (.type "list"):=by decide +kernel
theorem d8:bootBuiltins "tuple" = some (.type "tuple"):=by decide +kernel
theorem zo:bootBuiltins "range" = some (.type "range"):=by decide +kernel
end L2
end
section
namespace L2
open PySem PySem.Spec PyProof.Rows
theorem Same.upd {H H':Hp}{l:Addr}(s:Same H H')(h:H' l=none)(o:HO):Same H (L2.upd H' l o):=s.trans (b0 h o)
section
variable {X:Cx}{K:PySem.W.Frag}(h:X.K=K)
include h
theorem jo:IxR X (ga K):=by subst h;exact ix_list
theorem Ao:gj X (.builtin "isinstance") (fun xs H Q=>∃x n t b,xs=[x,.ty n]/\TyOf K H x t/\PySem.W.kitOne K t (.type n)=some b/\Q (.bl b) H):=by subst h;exact ez
theorem wP:gj X (.type "list") (fun xs H Q=>∃p ys,xs=[.ref p]/\(SqL K H p ys\/SqT K H p ys)/\∀l,H l=none->Q (.ref l) (upd H l (.lst ys))):=by subst h;exact le
theorem uU:gj X (.type "tuple") (fun xs H Q=>∃p ys,xs=[.ref p]/\((SqL K H p ys/\∀l,H l=none->Q (.ref l) (upd H l (.tup ys)))\/(SqT K H p ys/\Q (.ref p) H))):=by subst h;exact cf
theorem dv {es:List Expr}{k:Nat}{t:wN}{n:Nat}{pos:Pos}(hc:X.calm=true)(hh:JN X es t)(hn:(assignEach es X.env).length=n:=by rfl)(hst:(assignEach es X.env).findIdx? (·.1)=none:=by rfl):PG X (.Tuple es k pos) (fP K n t):=by subst h;exact GK hc hh hn hst
end
theorem gM {CX:wn}{P:Program}{w:World}{K:PySem.W.Frag}{mg:Str->Option Value}{base:Heap}{N:List Str}{qual:Str}{scope:Scope}{f:Addr}{cd:Value}{A:Around}{outer:List Env}{s:Shared}{H:Hp}{E:XK}:(lV CX P w K mg base N qual scope f cd A outer s H E).K=K:=rfl
theorem i8 {X:Cx}{scope:Scope}{N':List Str}{C:Addr}{s:Shared}{H:Hp}{ex:List Addr}:(X.blk scope N' C s H ex).K=X.K:=rfl
noncomputable def NS (e:Expr):Prop:=∀(es:List Expr) (env:Env),starEach (e::es) env=(false,eval e env)::starEach es env
theorem aB {k v p}:NS (.Constant k v p):=fun _ _=>rfl
theorem ad {k p}:NS (.Name k p):=fun _ _=>rfl
theorem gU {k v p}:NS (.Tuple k v p):=fun _ _=>rfl
theorem bT {a o b p}:NS (.BinOp a o b p):=fun _ _=>rfl
theorem gL {a o b p}:NS (.Compare a o b p):=fun _ _=>rfl
theorem aO {a o b p}:NS (.Call a o b p):=fun _ _=>rfl
theorem ap {a b p}:NS (.Subscript a b p):=fun _ _=>rfl
theorem bE {a b c p}:NS (.ListComp a b c p):=fun _ _=>rfl
theorem aW {X:Cx}{e:Expr}{es:List Expr}{te:TE}{t:TA}(h:NS e)(ha:PE X e te)(hr:PA X es t):PA X (e::es) (cS te t):=DC ha hr (h es X.env)
end L2
end
section
namespace L2
open PySem PySem.Spec PyProof.Rows
inductive TabEs (w:World):List DictEntry->List (Str×Addr)->Prop where
 |nil:TabEs w [] []
 |cons {x:Str} {t:Tok} {f:Addr} {es:List DictEntry} {kvs:List (Str×Addr)}:TabEs w es kvs->TabEs w (⟨PyData.keyHash w.params x,.str x t,.ref f⟩::es) ((x,f)::kvs)
structure Tab (w:World)(K:PySem.W.Frag)(a:Addr)(kvs:List (Str×Addr)):Prop where
 sys:(a==sysModules)=false
 nd:(kvs.map (·.1)).Nodup
 it:∃(es:Array DictEntry) (ep:Nat),K.lookup a=some ⟨.type "dict",none,.dict es ep,#[]⟩/\TabEs w es.toList kvs
noncomputable def vq (kvs:List (Str×Addr)):List (jD×Value):=kvs.map fun p=>(.inr p.1,.ref p.2)
theorem TabEs.ok {P:Program}{w:World}:∀{es:List DictEntry} {kvs:List (Str×Addr)},TabEs w es kvs->(∀e∈es,∃k,(dX P w).is k e.key=true/\e.hash=(dX P w).hash k)/\Pairs (dX P w) es (vq kvs)
 |_,_,.nil=>⟨fun _ h=>(by cases h),.nil⟩
 |_,_,@TabEs.cons _ x t f es kvs r=>by
  obtain⟨a,b⟩:=r.ok (P:=P)
  refine⟨fun e he=>?_,.cons (gW P w x t) rfl b⟩
  rcases List.mem_cons.mp he with rfl|he
  ·exact⟨.inr x,gW P w x t,rfl⟩
  ·exact a e he
theorem Tab.dict {w:World}{K:PySem.W.Frag}{a:Addr}{kvs:List (Str×Addr)}{P:Program}{h:Heap}(T:Tab w K a kvs)(X:K.In h):h.DictOf (dX P w) a (vq kvs):=by
 obtain⟨s,nd,es,ep,l,r⟩:=T
 obtain⟨a1,a2⟩:=r.ok (P:=P)
 refine⟨_,es,ep,X a _ l,⟨rfl,rfl,rfl⟩,rfl,fun e he=>a1 e (Array.mem_toList_iff.mpr he),a2,?_⟩
 have:(vq kvs).map (·.1)=(kvs.map (·.1)).map (Sum.inr:Str->jD):=by simp[vq]
 rw[this]
 exact nd.map _ fun _ _ ne e=>ne (Sum.inr.inj e)
noncomputable def dR (kvs:List (Str×Addr))(x:Str):Option Addr:=(kvs.find? fun p=>decide (p.1=x)).map (·.2)
theorem wM (kvs:List (Str×Addr))(x:Str):valueAt (vq kvs) (.inr x)=(dR kvs x).map Value.ref:=by
 induction kvs with
 |nil=>rfl
 |cons p t ih=>
  by_cases h:p.1=x
  ·simp[valueAt,vq,dR,h]
  ·have h':¬((Sum.inr p.1:jD)=Sum.inr x):=fun e=>h (Sum.inr.inj e)
   simp only[valueAt,vq,dR,List.map_cons,List.find?_cons,decide_eq_false h,decide_eq_false h'] at ih ⊢
   exact ih
section
variable {X:Cx}{a:Addr}{kvs:List (Str×Addr)}{o i:Expr}{to ti:TE}{pos:Pos}
noncomputable def LZ (kvs:List (Str×Addr))(a:Addr)(to ti:TE):TE:=fun σ H Q=>to σ H fun x H1=>ti σ H1 fun y H2=>∃n f,x=.ref a/\y=.str n/\dR kvs n=some f/\Q (.ref f) H2
noncomputable def Hn (kvs:List (Str×Addr))(a:Addr)(ti to:TE):TE:=fun σ H Q=>ti σ H fun y H1=>to σ H1 fun x H2=>∃n,x=.ref a/\y=.str n/\Q (.bl (dR kvs n).isSome) H2
theorem Ga (T:Tab X.w X.K a kvs)(ho:PE X o to)(hi:PE X i ti)(hs:Ku i):PE X (.Subscript o i pos) (LZ kvs a to ti):=by
 intro pins s σ H Q I h
 refine Ea PySem.F.slot_dict_getitem.lookup hs (dG (ho pins s σ H _ I h) fun u s1 ⟨x,H1,I1,rx,q1⟩=>dG (hi pins s1 σ H1 _ I1 q1) fun iv s2 ⟨y,H2,I2,ry,n,f,ex,ey,g,q2⟩=>?_)
 subst ex ey
 obtain rfl:u=Value.ref a:=rx
 have d:=T.dict (P:=X.prog) I2.kIn
 refine⟨d.mapOf.typeIs,wpAny_getItem_of (AI (k:=.inr n) ry) d.mapOf (by rw[wM,g];rfl) ?_⟩
 exact⟨.ref f,H2,I2.tok _,rfl,q2⟩
theorem FC (T:Tab X.w X.K a kvs)(hi:PE X i ti)(ho:PE X o to):PC X .In i o (Hn kvs a ti to):=by
 intro pins s σ H Q I h
 refine dG (hi pins s σ H _ I h) fun iv s1 ⟨y,H1,I1,ry,q1⟩=>dG (ho pins s1 σ H1 _ I1 q1) fun u s2 ⟨x,H2,I2,rx,n,ex,ey,q2⟩=>?_
 subst ex ey
 obtain rfl:u=Value.ref a:=rx
 have d:=T.dict (P:=X.prog) I2.kIn
 refine wpAny_in_of (AI (k:=.inr n) ry) T.sys d.mapOf ?_
 rw[wM,Option.isSome_map]
 exact⟨.bl _,H2,I2.tok _,rfl,q2⟩
end
noncomputable def DefA (P:Program)(w:World)(K:PySem.W.Frag)(mg:Str->Option Value)(base:Heap)(k:Nat)(f:Addr)(ps:List Str)(sp:Sp):Prop:=
 ∃fd,FnOk P w K mg base uQ k f fd ps sp/\Binds K fd ps []/\PySem.W.keepIn K (.ref f)=true
theorem Def.at {P:Program}{w:World}{K:PySem.W.Frag}{mg:Str->Option Value}{base:Heap}{k:Nat}{x:Str}{ps:List Str}{sp:Sp}{f:Addr}(d:Def P w K mg base k x ps sp)(h:mg x=some (.ref f)):DefA P w K mg base k f ps sp:=by
 obtain⟨f',fd,F,b,kp,m⟩:=d
 rw[h] at m
 cases m
 exact⟨fd,F,b,kp⟩
theorem DefA.imp {P:Program}{w:World}{K:PySem.W.Frag}{mg:Str->Option Value}{base:Heap}{k:Nat}{f:Addr}{ps:List Str}{sp sp':Sp}(d:DefA P w K mg base k f ps sp)(h:∀vs H Q E,sp' vs H Q E->sp vs H Q E):DefA P w K mg base k f ps sp':=by
 obtain⟨fd,F,r⟩:=d
 exact⟨fd,F.imp h,r⟩
section
variable {X:Cx}{k j:Nat}{ps:List Str}{D:Addr->Sp->Prop}{x:Str}{p pos:Pos}{e:Expr}{es:List Expr}{t:TA}{i:Nat}
noncomputable def EM (i:Nat)(D:Addr->Sp->Prop)(t:TA):TE:=fun σ H Q=>∃f sp,σ[i]?=some (some (.ref f))/\D f sp/\t σ H fun vs H1=>sp vs H1 Q E0
theorem ue (d:∀f sp,D f sp->DefA X.prog X.w X.K X.mg X.base j f ps sp)(hr:Room k X.A)(hN:X.N[i]?=some x)(hv:Ii X.env.scope x)(ha:PA X (e::es) t)(hj:j≤k:=by decide)(hdb:(x==("__debug__" : Str))=false:=by decide)(hcd:(x==("__classdict__" : Str))=false:=by decide)
  (he:starEach (e::es) X.env=(false,eval e X.env)::starEach es X.env:=by rfl) (hpl:(backTo pos (starEach es X.env)).any (·.1)=false:=by rfl):PE X (.Call (.Name x p) (e::es) [] pos) (EM i D t):=by
 intro pins s σ H Q I h
 obtain⟨f,sp,hf,hok,h⟩:=h
 obtain⟨fd,F,b,kp⟩:=d f sp hok
 refine wpAny_Call_Name_kw (dG (yI (pos:=p) hN hv hdb hcd pins s σ H (fun v H'=>v=.ref f/\H'=H) I ⟨_,hf,rfl,rfl⟩) fun u s1 ⟨v,H1,I1,r,e1,e2⟩=>?_)
 subst e1 e2
 obtain rfl:u=Value.ref f:=r
 refine PySem.W.callWith_K (h₀:=X.base) I1.ok.mod.kin kp (dG (ha pos pins s1 σ H1 _ I1 h) fun us s2 ⟨vs,H2,I2,r,q⟩=>⟨I2.kIn,?_⟩) he hpl
 exact Ak F (hr.mono hj) b .nil Ed I2 r (by rw[List.append_nil];exact q)
end
end L2
end
section
namespace L2
open PySem PySem.Spec PyProof.Rows
section
variable {X:Cx}{pins:List (Addr×Obj)}{σ:St}{H:Hp}{s:Shared}{h':Heap}
theorem Inv.turned2 {t':Nat}{e it:Addr}(I:Inv X pins σ H s)(k:∀b o,b≠e->b≠it->s.heap.get? b=some o->h'.get? b=some o)(f:∀b∈[e,it],mE X pins H b):Inv X pins σ H { s with heap:=h',toks:=t' }:=by
 have ne:∀b u,H b=some u->b≠e/\b≠it:=fun b u q=>⟨fun z=>(by rw[z,(f e (by simp)).1] at q;cases q),fun z=>(by rw[z,(f it (by simp)).1] at q;cases q)⟩
 have kk:∀b o,b∉[e,it]->s.heap.get? b=some o->h'.get? b=some o:=fun b o hb q=>k b o (fun z=>hb (by simp[z])) (fun z=>hb (by simp[z])) q
 refine I.step (g':=s.gens) (d':=s.drawn) (ch:=[e,it]) (fun b hb=>?_) (fun b o _ _ hc q _=>kk b o hc q) (fun b o _ _ hc q _=>⟨o.slots,kk b o hc q⟩) (fun _ _ _ _ n=>n)
  (fun b o hc q=>⟨o,kk b o hc q⟩) (fun _ _ q=>q) (fun _ _ _ q=>q) (fun b ps q=>⟨#[],by rw[q];simp⟩) (fun m hm=>?_) (fun b u q=>?_) I.bare
 ·obtain⟨f0,f1,f2,f3,f4,f5⟩:=f b hb
  exact⟨f3,f1,f4,f5⟩
 ·obtain⟨o,es,ep,ho,r⟩:=hm
  exact⟨o,es,ep,k _ o (Ne.symm (f e (by simp)).2.1) (Ne.symm (f it (by simp)).2.1) ho,r⟩
 ·refine (I.hok b u q).stay (fun c v hc g=>?_) (fun _ g=>g) fun _ _ g=>g
  rcases hc with z|z
  ·subst z;exact k _ v (ne _ u q).1 (ne _ u q).2 g
  ·exact k c v (ne c _ z).1 (ne c _ z).2 g
end
theorem qG:bootBuiltins "enumerate" = some (.type "enumerate"):=by decide +kernel
end L2
end
section
namespace L2
open PySem PySem.Spec PyProof.Rows PySem.SeqAt
end L2
end
section
namespace L2
open PySem PySem.Spec PyProof.Rows PySem.W
noncomputable def vF {α:Type}(c:Nat->Nat->Bool):KasT α->α
 |.ret a=>a
 |.ask i j k=>vF c (k (c i j))
theorem AB {α:Type}{n:Nat}{P:α->Prop}{cmp:Nat->Nat->(Bool->Shared->Prop)->Shared->Prop}{Q:α->Shared->Prop}{s:Shared}(lt:Nat->Nat->Bool)(hc:∀i j C,i<n->j<n->C (lt i j) s->cmp i j C s) :
  ∀{t:KasT α},Leaf n P t->(P (vF lt t)->Q (vF lt t) s)->t.kasWp cmp Q s
 |.ret a,h,hq=>hq h
 |.ask i j k,h,hq=>hc i j _ h.1 h.2.1 (AB lt hc (h.2.2 (lt i j)) hq)
theorem sG {α:Type}{n:Nat}{P:α->Prop}(lt:Nat->Nat->Bool):∀{t:KasT α},Leaf n P t->P (vF lt t)
 |.ret a,h=>h
 |.ask i j k,h=>sG (t:=k (lt i j)) lt (h.2.2 (lt i j))
noncomputable def Bz (fin:Bool):List (Int×Int)->Bool
 |[]=>fin
 |(x,y)::r=>if x=y then Bz fin r else decide (x<y)
noncomputable def Ip (xs ys:List Int):Bool:=Bz (decide (xs.length<ys.length)) (xs.zip ys)
noncomputable def mX (ks:List (List Int)):List Nat:=if ks.length<2 then List.range ks.length else (vF (fun i j=>Ip (ks.getD i []) (ks.getD j [])) (kas_sort ks.length)).toList
theorem qb (ks:List (List Int)):(mX ks).Perm (List.range ks.length):=by
 unfold mX
 split
 ·exact .refl _
 ·exact sG _ (pR (by omega))
inductive TupsIn (H:Hp):List V->List (List Int)->Prop where
 |nil:TupsIn H [] []
 |cons {a:Addr} {is:List Int} {ts:List V} {ks:List (List Int)}:H a=some (.tup (is.map V.int))->is≠[]->TupsIn H ts ks->TupsIn H (.ref a::ts) (is::ks)
theorem TupsIn.length {H:Hp}{ts:List V}{ks:List (List Int)}(h:TupsIn H ts ks):ts.length=ks.length:=by
 induction h with
 |nil=>rfl
 |cons _ _ _ ih=>rw[List.length_cons,List.length_cons,ih]
theorem TupsIn.get {H:Hp}{ts:List V}{ks:List (List Int)}(h:TupsIn H ts ks):∀{i:Nat},i<ts.length->∃a,ts.getD i .non=.ref a/\H a=some (.tup ((ks.getD i []).map V.int))/\ks.getD i []≠[]:=by
 induction h with
 |nil=>intro i hi;exact absurd hi (Nat.not_lt_zero _)
 | @cons a is ts ks h1 h2 h3 ih=>
  intro i hi
  cases i with
  |zero=>exact⟨a,rfl,h1,h2⟩
  |succ i=>exact ih (by simpa using hi)
section
variable {X:Cx}{pins:List (Addr×Obj)}{σ:St}{H:Hp}{s:Shared}
theorem zF (I:Inv X pins σ H s){a:Addr}{is:List Int}(h:H a=some (.tup (is.map V.int))):a≠X.env.locals/\∃o n vs,Vals (is.map V.int) vs/\s.heap.get? a=some o/\o.cls=.type "tuple"/\o.data=.seq vs.toArray n:=by
 refine⟨fun z=>?_,?_⟩
 ·rw[z,I.free] at h;cases h
 ·obtain⟨_,its,r,o,e,c,n,d⟩:=(show ObjOk X.prog X.w H s.heap a (.tup (is.map V.int)) from I.hok a _ h)
  exact⟨o,n,its,r,e,c,d⟩
theorem Cl (I:Inv X pins σ H s){h':Heap}(kept:∀b o,b≠X.env.locals->s.heap.get? b=some o->h'.get? b=some o):∀{ts:List V} {ks:List (List Int)} {its:List Value},Vals ts its->TupsIn H ts ks →
  ∃fs:List Value,KatTups h' its fs/\fs.length=its.length/\∀v∈fs,∃i t,v=Value.int i t:=by
 intro ts ks its r hp
 induction hp generalizing its with
 |nil=>cases r;exact⟨[],KatTups.nil,rfl,fun _ z=>nomatch z⟩
 | @cons a is ts ks ha ne hp ih=>
  cases r with
  |cons r1 r2=>
   obtain⟨fs,h1,h2,h3⟩:=ih r2
   cases r1
   obtain⟨nl,o,n,vs,rv,eo,ec,ed⟩:=zF I ha
   cases is with
   |nil=>exact absurd rfl ne
   |cons i is=>
    cases rv with
    |cons q1 q2=>
     obtain⟨tk,rfl⟩:=q1
     refine⟨.int i tk::fs,KatTups.cons (kept a o nl eo) ec ed rfl h1,by rw[List.length_cons,List.length_cons,h2],fun v hv=>?_⟩
     rcases List.mem_cons.mp hv with rfl|hv
     ·exact⟨i,tk,rfl⟩
     ·exact h3 v hv
theorem zb {prog:Program}{w:World}{A:Around}{fin:Bool}{C:Bool->Shared->Prop}{s':Shared}:∀{xs ys:List Int} {us vs:List Value} {k:Nat},Vals (xs.map V.int) us->Vals (ys.map V.int) vs->C (Bz fin (xs.zip ys)) s'->KatLex prog w A true fin C (us.zip vs) k s'
 |[],ys,us,vs,k,r1,r2,h=>by cases r1;exact kat_nil h
 |x::xs,[],us,vs,k,r1,r2,h=>by cases r2;cases us<;>exact kat_nil h
 |x::xs,y::ys,us,vs,k,r1,r2,h=>by
  cases r1 with
  |cons a1 r1=>
   cases r2 with
   |cons a2 r2=>
    obtain⟨t,rfl⟩:=a1
    obtain⟨u,rfl⟩:=a2
    rw[List.zip_cons_cons] at h ⊢
    rw[Bz] at h
    refine kat_cons (wpAny_eqBool_int ?_)
    by_cases e:x=y
    ·rw[if_pos e] at h
     rw[show (x==y)=true by rw[e];exact beq_self_eq_true _]
     exact kat_yes (zb r1 r2 h)
    ·rw[if_neg e] at h
     rw[show (x==y)=false from beq_eq_false_iff_ne.mpr e]
     refine kat_no ?_
     by_cases hk:k=0
     ·subst hk;exact oneLt_int h
     ·rw[show (true&&k==0)=false by simp[hk]]
      exact kat_one _ _ (lt_int h)
end
theorem r9 {X:Cx}:gj X (.builtin "sorted") (fun xs H Q=>∃p ts ks,xs=[.ref p]/\SqL X.K H p ts/\ts.length<64/\TupsIn H ts ks/\∀l,H l=none->Q (.ref l) (upd H l (.lst ((mX ks).map fun i=>ts.getD i .non)))):=by
 intro pins s σ H xs us Q I r h
 obtain⟨p,ts,ks,rfl,hq,h64,hp,q⟩:=h
 obtain⟨u,rfl,rx⟩:=jE r
 cases rx
 obtain⟨its,rv,pl,hz⟩:=I.list hq
 have hl:=rv.length
 have hk:=hp.length
 by_cases h2:its.length<2
 ·refine rh pl.isList h2 ?_
  obtain⟨e,he⟩:=sortedAll_at s.heap its its.toArray
  have es:(mX ks).map (fun i=>ts.getD i .non)=ts:=by
   unfold mX
   rw[if_pos (by omega),←hk]
   exact jK _ _
  have q':=q (s.heap.objs.size+1) (I.hok.fresh (Nat.le_succ _))
  rw[es] at q'
  exact⟨.ref (s.heap.objs.size+1),_,I.laid (t':=s.toks) (fun b o z=>sortedAll_old z) (Nat.le_succ _) (show ObjOk X.prog X.w _ _ _ (.lst ts) from⟨hz,its,e,rv,he⟩),rfl,q'⟩
 ·obtain⟨m,F0⟩:=I.fr
  refine kat_sorted F0 zC pl.isList (by omega) (by omega) fun D e1 h' F' N' hlt=>?_
  have nD:=N' (D,seqObj "list" #[] e1) List.mem_cons_self
  have hD:s.heap.get? D=none:=by
   cases e:s.heap.get? D with
   |none=>rfl
   |some o=>exact absurd (hlt (D,o) (j2 nD.2.1 nD.2.2 e)) (Nat.lt_irrefl _)
  have kept:∀b o,b≠X.env.locals->s.heap.get? b=some o->h'.get? b=some o:=fun b o hb e=>by
   cases z:X.base.get? b with
   |some v=>
    have y:=I.bk b v z
    rw[e] at y;cases y
    exact F'.keep b _ z
   |none=>exact (N' (b,o) (List.mem_cons_of_mem _ (j2 hb z e))).1
  obtain⟨fs,k1,k2,k3⟩:=Cl I kept rv hp
  refine kat_kind (s:={ s with heap:=h' }) k1 (by omega) (T:=.type "int") (fun v hv=>?_) (by decide) ?_
  ·obtain⟨i,t,rfl⟩:=k3 v hv
   exact Looks.of_pure rfl
  ·refine AB (n:=its.length) (P:=OfN its.length) (fun i j=>Ip (ks.getD i []) (ks.getD j [])) (fun i j C hi hj hC=>?_) (pR (by omega)) (fun hpm=>?_)
   ·have get:∀i,i<its.length->∃a o n vs,Vals ((ks.getD i []).map V.int) vs/\its.getD i Value.none=.ref a/\h'.get? a=some o/\o.data=.seq vs.toArray n:=fun i hi=>by
     have hi':i<ts.length:=by omega
     obtain⟨a,e,ha,_⟩:=hp.get hi'
     have hr:=qq rv (j:=i) (by simpa using hi)
     have e2:its.getD i Value.none=its.toArray[i]'(by simpa using hi):=by simp[hi]
     rw[e] at hr
     obtain⟨nl,o,n,vs,rvs,eo,ec,ed⟩:=zF I ha
     exact⟨a,o,n,vs,rvs,e2.trans hr,kept a o nl eo,ed⟩
    obtain⟨a,o,n,vs,rvs,g1,g2,g3⟩:=get i hi
    obtain⟨a',o',n',vs',rvs',g1',g2',g3'⟩:=get j hj
    show wpAny (model X.prog X.w) X.A.in1.in1 (keyLt' (tuples' (Value.type "int" != Value.type "tuple")) (its.getD i Value.none) (its.getD j Value.none)) C (fun _ _=>False) _
    rw[g1,g1',show (Value.type "int" != Value.type "tuple")=true by decide]
    refine kat_lt g2 g3 g2' g3' ?_
    have l1:=rvs.length
    have l2:=rvs'.length
    rw[List.length_map] at l1 l2
    refine zb rvs rvs' ?_
    have e9:decide (vs.toArray.size<vs'.toArray.size)=decide ((ks.getD i []).length<(ks.getD j []).length):=by rw[List.size_toArray,List.size_toArray,l1,l2]
    rw[e9]
    exact hC
   ·have eo:mX ks=(vF (fun i j=>Ip (ks.getD i []) (ks.getD j [])) (kas_sort its.length)).toList:=by
     unfold mX
     rw[if_neg (by omega),show ks.length=its.length by omega]
    generalize hpme:vF (fun i j=>Ip (ks.getD i []) (ks.getD j [])) (kas_sort its.length)=pm at hpm eo ⊢
    have hmem:∀i∈pm.toList,i<its.length:=fun i hi=>List.mem_range.mp (hpm.subset hi)
    have ry:Vals (pm.toList.map fun i=>ts.getD i .non) (pm.toList.map fun i=>its.getD i Value.none):=sU rv hmem
    have perm:(pm.toList.map fun i=>ts.getD i .non).Perm ts:=by
     have z:=hpm.map (fun i=>ts.getD i V.non)
     rw[←hl,jK] at z
     exact z
    refine KasFin.intro F' N' (.head fun _ z=>?_) fun h'' c F'' N''=>?_
    ·exact Nat.ne_of_lt (hlt _ z)
    ·obtain⟨I2,hHD⟩:=I.ledger F0 F'' N'' hD ry (by rw[perm.length_eq];exact hz)
     have q':=q D hHD
     rw[eo] at q'
     exact⟨.ref D,_,I2,rfl,q'⟩
end L2
end
section
namespace Pu
open PySem PySem.Spec L2
inductive PV where
 |non|bl (b:Bool)|int (i:Int)|str (x:Str)|ty (n:String)|fn (a:Addr)
 |tup (ps:List PV)|lst (ps:List PV)|dct (ks:List jD) (ps:List PV)
 |src (ps:List PV)|ktu (ps:List PV)
 |rng (lo hi:Int)
mutual
noncomputable def Rep (K:PySem.W.Frag)(F:Hp):PV->V->Prop
 |.non,v=>v=.non
 |.bl b,v=>v=.bl b
 |.int i,v=>v=.int i
 |.str x,v=>v=.str x
 |.ty n,v=>v=.ty n
 |.fn a,v=>v=.ref a
 |.tup ps,v=>∃a vs,v=.ref a/\F a=some (.tup vs)/\Reps K F ps vs
 |.lst ps,v=>∃a vs,v=.ref a/\F a=some (.lst vs)/\Reps K F ps vs
 |.src ps,v=>∃a vs,v=.ref a/\SqL K F a vs/\Reps K F ps vs
 |.ktu ps,v=>∃a vs,v=.ref a/\SqT K F a vs/\Reps K F ps vs
 |.rng lo hi,v=>∃a,v=.ref a/\F a=some (.rng lo hi)
 |.dct ks ps,v=>∃a kvs,v=.ref a/\F a=some (.dK kvs)/\kvs.map (·.1)=ks/\Reps K F ps (kvs.map (·.2))
noncomputable def Reps (K:PySem.W.Frag)(F:Hp):List PV->List V->Prop
 |[],vs=>vs=[]
 |p::ps,vs=>∃v r,vs=v::r/\Rep K F p v/\Reps K F ps r
end
theorem wY {K:PySem.W.Frag}{F F':Hp}{a:Addr}{xs:List V}(e:Same F F')(h:SqT K F a xs):SqT K F' a xs:=by
 rcases h with (h|⟨o,h⟩)|h
 ·exact .inl (.inl (e _ _ h))
 ·exact .inl (.inr ⟨o,e _ _ h⟩)
 ·exact .inr h
mutual
theorem Rep.mono {K:PySem.W.Frag}{F F':Hp}(e:Same F F'):∀{p:PV} {v:V},Rep K F p v->Rep K F' p v
 |.non,_,h=>h
 |.bl _,_,h=>h
 |.int _,_,h=>h
 |.str _,_,h=>h
 |.ty _,_,h=>h
 |.fn _,_,h=>h
 |.tup ps,_,h=>by
  obtain⟨a,vs,e1,e2,e3⟩:=h
  exact⟨a,vs,e1,e _ _ e2,Reps.mono e e3⟩
 |.lst ps,_,h=>by
  obtain⟨a,vs,e1,e2,e3⟩:=h
  exact⟨a,vs,e1,e _ _ e2,Reps.mono e e3⟩
 |.src ps,_,h=>by
  obtain⟨a,vs,e1,e2,e3⟩:=h
  exact⟨a,vs,e1,e.seq e2,Reps.mono e e3⟩
 |.ktu ps,_,h=>by
  obtain⟨a,vs,e1,e2,e3⟩:=h
  exact⟨a,vs,e1,wY e e2,Reps.mono e e3⟩
 |.rng lo hi,_,h=>by
  obtain⟨a,e1,e2⟩:=h
  exact⟨a,e1,e _ _ e2⟩
 |.dct ks ps,_,h=>by
  obtain⟨a,kvs,e1,e2,e3,e4⟩:=h
  exact⟨a,kvs,e1,e _ _ e2,e3,Reps.mono e e4⟩
theorem Reps.mono {K:PySem.W.Frag}{F F':Hp}(e:Same F F'):∀{ps:List PV} {vs:List V},Reps K F ps vs->Reps K F' ps vs
 |[],_,h=>h
 |_::_,_,h=>by
  obtain⟨v,r,e1,e2,e3⟩:=h
  exact⟨v,r,e1,Rep.mono e e2,Reps.mono e e3⟩
end
theorem Reps.length {K:PySem.W.Frag}{F:Hp}:∀{ps:List PV} {vs:List V},Reps K F ps vs->vs.length=ps.length
 |[],_,h=>by rw[show _=[] from h];rfl
 |p::ps,_,⟨v,r,e,_,t⟩=>by rw[e,List.length_cons,List.length_cons,t.length]
theorem Reps.get {K:PySem.W.Frag}{F:Hp}:∀{ps:List PV} {vs:List V} {i:Nat} {p:PV},Reps K F ps vs->ps[i]?=some p->∃v,vs[i]?=some v/\Rep K F p v
 |[],_,i,p,_,e=>by simp at e
 |_::_,_,0,_,⟨v,r,e,h,t⟩,q=>by simp at q;subst q;exact⟨v,by rw[e];rfl,h⟩
 |_::ps,_,i+1,p,⟨v,r,e,h,t⟩,q=>by
  obtain⟨u,h1,h2⟩:=t.get (i:=i) (p:=p) (by simpa using q)
  exact⟨u,by rw[e];simpa using h1,h2⟩
theorem Reps.app {K:PySem.W.Frag}{F:Hp}:∀{ps qs:List PV} {vs us:List V},Reps K F ps vs->Reps K F qs us->Reps K F (ps++qs) (vs++us)
 |[],_,_,_,h,q=>by rw[show _=[] from h];exact q
 |_::_,_,_,_,⟨v,r,e,h,t⟩,q=>⟨v,_,by rw[e];rfl,h,t.app q⟩
theorem Reps.one {K:PySem.W.Frag}{F:Hp}{p:PV}{v:V}(h:Rep K F p v):Reps K F [p] [v]:=⟨v,[],rfl,h,rfl⟩
theorem Reps.set {K:PySem.W.Frag}{F:Hp}{p:PV}{v:V}(h:Rep K F p v):∀{ps:List PV} {vs:List V} (i:Nat),Reps K F ps vs->Reps K F (ps.set i p) (vs.set i v)
 |[],_,_,q=>by rw[show _=[] from q];rfl
 |_::_,_,0,⟨v',r,e,_,t⟩=>by rw[e];exact⟨v,r,rfl,h,t⟩
 |_::_,_,i+1,⟨v',r,e,h',t⟩=>by rw[e];exact⟨v',_,rfl,h',Reps.set h i t⟩
theorem Reps.take {K:PySem.W.Frag}{F:Hp}:∀{ps:List PV} {vs:List V} (n:Nat),Reps K F ps vs->Reps K F (ps.take n) (vs.take n)
 |_,_,0,_=>by simp[Reps]
 |[],_,_+1,q=>by rw[show _=[] from q];rfl
 |_::_,_,n+1,⟨v,r,e,h,t⟩=>by rw[e];exact⟨v,_,rfl,h,t.take n⟩
theorem Reps.drop {K:PySem.W.Frag}{F:Hp}:∀{ps:List PV} {vs:List V} (n:Nat),Reps K F ps vs->Reps K F (ps.drop n) (vs.drop n)
 |_,_,0,q=>q
 |[],_,_+1,q=>by rw[show _=[] from q];rfl
 |_::_,_,n+1,⟨v,r,e,h,t⟩=>by rw[e];exact t.drop n
structure Grow (F H F' H':Hp):Prop where
 hh:Same H H'
 ff:Same F F'
 fh:Same F' H'
 nw:∀b o,F' b=some o->F b=some o\/H b=none\/∃vs,o=.tup vs
theorem Grow.refl {F H:Hp}(h:Same F H):Grow F H F H:=⟨Same.refl _,Same.refl _,h,fun _ _ e=>.inl e⟩
theorem Grow.trans {F H F1 H1 F2 H2:Hp}(a:Grow F H F1 H1)(b:Grow F1 H1 F2 H2):Grow F H F2 H2:=
 ⟨a.hh.trans b.hh,a.ff.trans b.ff,b.fh,fun c o e=>(b.nw c o e).elim (a.nw c o) fun z=>.inr (z.elim (fun z=>.inl (a.hh.free z)) .inr)⟩
theorem Grow.keep {F H F' H':Hp}(g:Grow F H F' H'){a:Addr}{o:HO}(hF:F a=none)(hH:H a=some o)(ho:∀vs,o≠.tup vs:=by intro vs h;cases h):F' a=none/\H' a=some o:=by
 refine⟨?_,g.hh _ _ hH⟩
 cases e:F' a with
 |none=>rfl
 |some u=>
  rcases g.nw a u e with z|z|⟨vs,z⟩
  ·rw[hF] at z;cases z
  ·rw[hH] at z;cases z
  ·have h1:=g.fh a u e
   rw[g.hh _ _ hH] at h1
   cases h1
   exact absurd z (ho vs)
theorem Grow.new {F H:Hp}(h:Same F H){a:Addr}(ha:H a=none)(o:HO):Grow F H (upd F a o) (upd H a o):=by
 have hFa:F a=none:=h.free ha
 refine⟨b0 ha o,b0 hFa o,fun b u e=>?_,fun b u e=>?_⟩
 ·by_cases hb:b=a
  ·subst hb;rw[aw] at e ⊢;exact e
  ·rw[aC hb] at e ⊢;exact h b u e
 ·by_cases hb:b=a
  ·subst hb;exact .inr (.inl ha)
  ·rw[aC hb] at e;exact .inl e
theorem Grow.newO {F H:Hp}(h:Same F H){a:Addr}(ha:H a=none)(o:HO):Grow F H F (upd H a o):=⟨b0 ha o,Same.refl _,h.trans (b0 ha o),fun b u e=>.inl e⟩
theorem Grow.freeze {F H F' H':Hp}(g:Grow F H F' H'){a:Addr}{o:HO}(h0:H a=none)(hF:F' a=none)(hH:H' a=some o):Grow F H (upd F' a o) H':=by
 refine⟨g.hh,g.ff.trans (b0 hF o),fun b u e=>?_,fun b u e=>?_⟩
 ·by_cases hb:b=a
  ·subst hb;rw[aw] at e;rw[hH];exact e
  ·rw[aC hb] at e;exact g.fh b u e
 ·by_cases hb:b=a
  ·subst hb;exact .inr (.inl h0)
  ·rw[aC hb] at e;exact g.nw b u e
inductive Sl where
 |val (p:PV)|own (ps:List PV)|dic (ks:List jD) (ps:List PV)
noncomputable abbrev ay:=List (Option Sl)
inductive RdV (K:PySem.W.Frag) (F H:Hp):PV->V->Prop where
 |frz {p:PV} {v:V}:Rep K F p v->RdV K F H p v
 |own {ps:List PV} {a:Addr} {vs:List V}:H a=some (.lst vs)->F a=none->Reps K F ps vs->RdV K F H (.lst ps) (.ref a)
 |dic {ks:List jD} {ps:List PV} {a:Addr} {kvs:List (jD×V)}:H a=some (.dK kvs)->F a=none->kvs.map (·.1)=ks->Reps K F ps (kvs.map (·.2))->RdV K F H (.dct ks ps) (.ref a)
theorem RdV.grow {K:PySem.W.Frag}{F H F' H':Hp}{p:PV}{v:V}(g:Grow F H F' H')(h:RdV K F H p v):RdV K F' H' p v:=by
 cases h with
 |frz h=>exact .frz (h.mono g.ff)
 |own h1 h2 h3=>exact .own (g.keep h2 h1).2 (g.keep h2 h1).1 (h3.mono g.ff)
 |dic h1 h2 h3 h4=>exact .dic (g.keep h2 h1).2 (g.keep h2 h1).1 h3 (h4.mono g.ff)
noncomputable def Ln:Sl->PV
 |.val p=>p
 |.own ps=>.lst ps
 |.dic ks ps=>.dct ks ps
noncomputable def SlR (K:PySem.W.Frag)(F H:Hp):Option V->Option Sl->Prop
 |_,none=>True
 |some v,some (.val p)=>Rep K F p v
 |some v,some (.own ps)=>∃a vs,v=.ref a/\H a=some (.lst vs)/\F a=none/\Reps K F ps vs
 |some v,some (.dic ks ps)=>∃a kvs,v=.ref a/\H a=some (.dK kvs)/\F a=none/\kvs.map (·.1)=ks/\Reps K F ps (kvs.map (·.2))
 |none,some _=>False
theorem SlR.rd {K:PySem.W.Frag}{F H:Hp}{o:Option V}{s:Sl}(h:SlR K F H o (some s)):∃v,o=some v/\RdV K F H (Ln s) v:=by
 cases o with
 |none=>cases s<;>exact h.elim
 |some v=>
  refine⟨v,rfl,?_⟩
  cases s with
  |val p=>exact .frz h
  |own ps=>obtain⟨a,vs,rfl,h1,h2,h3⟩:=h;exact .own h1 h2 h3
  |dic ks ps=>obtain⟨a,vs,rfl,h1,h2,h3,h4⟩:=h;exact .dic h1 h2 h3 h4
theorem SlR.grow {K:PySem.W.Frag}{F H F' H':Hp}(g:Grow F H F' H'):∀{o:Option V} {s:Option Sl},SlR K F H o s->SlR K F' H' o s
 |_,none,_=>by unfold SlR;trivial
 |none,some s,h=>by cases s<;>exact h.elim
 |some v,some (.val p),h=>Rep.mono g.ff h
 |some v,some (.own ps),⟨a,vs,e,h1,h2,h3⟩=>⟨a,vs,e,(g.keep h2 h1).2,(g.keep h2 h1).1,h3.mono g.ff⟩
 |some v,some (.dic ks ps),⟨a,vs,e,h1,h2,h3,h4⟩=>⟨a,vs,e,(g.keep h2 h1).2,(g.keep h2 h1).1,h3,h4.mono g.ff⟩
structure ER (K:PySem.W.Frag)(F H:Hp)(σ:St)(ρ:ay):Prop where
 fz:Same F H
 len:σ.length=ρ.length
 sl:∀(i:Nat) (s:Sl),ρ[i]?=some (some s)->SlR K F H ((σ[i]?).join) (some s)
theorem ER.grow {K:PySem.W.Frag}{F H F' H':Hp}{σ:St}{ρ:ay}(g:Grow F H F' H')(h:ER K F H σ ρ):ER K F' H' σ ρ:=⟨g.fh,h.len,fun i s e=>(h.sl i s e).grow g⟩
theorem ER.rd {K:PySem.W.Frag}{F H:Hp}{σ:St}{ρ:ay}(h:ER K F H σ ρ){i:Nat}{s:Sl}(e:ρ[i]?=some (some s)):∃v,σ[i]?=some (some v)/\RdV K F H (Ln s) v:=by
 obtain⟨v,e1,r⟩:=(h.sl i s e).rd
 refine⟨v,?_,r⟩
 cases q:σ[i]? with
 |none=>rw[q] at e1;cases e1
 |some o=>rw[q] at e1;rw[show o=some v from e1]
noncomputable abbrev gQ:=ay->(PV->Prop)->Prop
noncomputable abbrev uk:=ay->(List PV->Prop)->Prop
noncomputable abbrev mr:=ay->(Bool->Prop)->Prop
noncomputable abbrev jC:=ay->(List PV->Prop)->Prop
noncomputable def lE (K:PySem.W.Frag)(te:gQ):TE:=fun σ H Q=>∃F ρ,∃Qp:PV->Prop,ER K F H σ ρ/\te ρ Qp/\∀p v F' H',Qp p->Grow F H F' H'->Rep K F' p v->Q v H'
noncomputable def lT (K:PySem.W.Frag)(te:gQ):TE:=fun σ H Q=>∃F ρ,∃Qp:PV->Prop,ER K F H σ ρ/\te ρ Qp/\∀p v F' H',Qp p->Grow F H F' H'->RdV K F' H' p v->Q v H'
noncomputable def lN (K:PySem.W.Frag)(te:uk):TE:=fun σ H Q=>∃F ρ,∃Qp:List PV->Prop,ER K F H σ ρ/\te ρ Qp/\∀ps a vs F' H',Qp ps->Grow F H F' H'->H a=none->F' a=none->H' a=some (.lst vs)->Reps K F' ps vs->Q (.ref a) H'
noncomputable def lB (K:PySem.W.Frag)(te:mr):TT:=fun σ H Q=>∃F ρ,∃Qp:Bool->Prop,ER K F H σ ρ/\te ρ Qp/\∀b F' H',Qp b->Grow F H F' H'->Q b H'
noncomputable def lA (K:PySem.W.Frag)(te:jC):TA:=fun σ H Q=>∃F ρ,∃Qp:List PV->Prop,ER K F H σ ρ/\te ρ Qp/\∀ps vs F' H',Qp ps->Grow F H F' H'->Reps K F' ps vs->Q vs H'
theorem lE.elim {K:PySem.W.Frag}{te:gQ}{σ:St}{H:Hp}{Q:VK}{C:Prop}(h:lE K te σ H Q)(k:∀F ρ (Qp:PV->Prop),ER K F H σ ρ->te ρ Qp->(∀p v F' H',Qp p->Grow F H F' H'->Rep K F' p v->Q v H')->C):C:=by obtain⟨F,ρ,Qp,a,b,c⟩:=h;exact k F ρ Qp a b c
theorem lT.elim {K:PySem.W.Frag}{te:gQ}{σ:St}{H:Hp}{Q:VK}{C:Prop}(h:lT K te σ H Q)(k:∀F ρ (Qp:PV->Prop),ER K F H σ ρ->te ρ Qp->(∀p v F' H',Qp p->Grow F H F' H'->RdV K F' H' p v->Q v H')->C):C:=by obtain⟨F,ρ,Qp,a,b,c⟩:=h;exact k F ρ Qp a b c
theorem lN.elim {K:PySem.W.Frag}{te:uk}{σ:St}{H:Hp}{Q:VK}{C:Prop}(h:lN K te σ H Q)(k:∀F ρ (Qp:List PV->Prop),ER K F H σ ρ->te ρ Qp->(∀ps a vs F' H',Qp ps->Grow F H F' H'->H a=none->F' a=none->H' a=some (.lst vs)->Reps K F' ps vs->Q (.ref a) H')->C):C:=by obtain⟨F,ρ,Qp,a,b,c⟩:=h;exact k F ρ Qp a b c
theorem lB.elim {K:PySem.W.Frag}{te:mr}{σ:St}{H:Hp}{Q:Bool->Hp->Prop}{C:Prop}(h:lB K te σ H Q)(k:∀F ρ (Qp:Bool->Prop),ER K F H σ ρ->te ρ Qp->(∀b F' H',Qp b->Grow F H F' H'->Q b H')->C):C:=by obtain⟨F,ρ,Qp,a,b,c⟩:=h;exact k F ρ Qp a b c
theorem lA.elim {K:PySem.W.Frag}{te:jC}{σ:St}{H:Hp}{Q:List V->Hp->Prop}{C:Prop}(h:lA K te σ H Q)(k:∀F ρ (Qp:List PV->Prop),ER K F H σ ρ->te ρ Qp->(∀ps vs F' H',Qp ps->Grow F H F' H'->Reps K F' ps vs->Q vs H')->C):C:=by obtain⟨F,ρ,Qp,a,b,c⟩:=h;exact k F ρ Qp a b c
noncomputable def hG (X:Cx)(e:Expr)(te:gQ):Prop:=PE X e (lE X.K te)
noncomputable def jz (X:Cx)(e:Expr)(te:gQ):Prop:=PE X e (lT X.K te)
noncomputable def vK (X:Cx)(e:Expr)(te:uk):Prop:=PE X e (lN X.K te)
noncomputable def PuB (X:Cx)(e:Expr)(te:mr):Prop:=PT X e (lB X.K te)
noncomputable def PuW (X:Cx)(e:Expr)(te:mr):Prop:=PW X e (lB X.K te)
noncomputable def Ef (X:Cx)(es:List Expr)(te:jC):Prop:=PA X es (lA X.K te)
theorem PE.weak {X:Cx}{e:Expr}{t t':TE}(h:PE X e t)(w:∀σ H Q,t' σ H Q->t σ H Q):PE X e t':=fun pins s σ H Q I q=>h pins s σ H Q I (w σ H Q q)
theorem PT.weak {X:Cx}{e:Expr}{t t':TT}(h:PT X e t)(w:∀σ H Q,t' σ H Q->t σ H Q):PT X e t':=fun pins s σ H Q I q=>h pins s σ H Q I (w σ H Q q)
theorem PW.weak {X:Cx}{e:Expr}{t t':TT}(h:PW X e t)(w:∀σ H Q,t' σ H Q->t σ H Q):PW X e t':=fun wh pins s σ H Q I q=>h wh pins s σ H Q I (w σ H Q q)
theorem PA.weak {X:Cx}{e:List Expr}{t t':TA}(h:PA X e t)(w:∀σ H Q,t' σ H Q->t σ H Q):PA X e t':=fun pos pins s σ H Q I q=>h pos pins s σ H Q I (w σ H Q q)
theorem PS.weak {X:Cx}{e:Stmt}{t t':TS}(h:PS X e t)(w:∀D σ H,t' D σ H->t D σ H):PS X e t':=fun pins s σ H D I q=>h pins s σ H D I (w D σ H q)
theorem PSs.weak {X:Cx}{e:List Stmt}{t t':TS}(h:PSs X e t)(w:∀D σ H,t' D σ H->t D σ H):PSs X e t':=fun pins s σ H D I q=>h pins s σ H D I (w D σ H q)
theorem PI.weak {X:Cx}{tg e:Expr}{t t':TI}(h:PI X tg e t)(w:∀σ H Q,t' σ H Q->t σ H Q):PI X tg e t':=fun pins s σ H Q I q=>h pins s σ H Q I (w σ H Q q)
section
variable {X:Cx}{e a b c:Expr}{pos:Pos}{te ta tb:gQ}
noncomputable def gr (ρ:ay)(i:Nat)(Q:PV->Prop):Prop:=match ρ[i]? with
 |some (some s)=>Q (Ln s)
 |_=>False
noncomputable def pC (p:PV):gQ:=fun _ Q=>Q p
noncomputable def j9:PV->V
 |.non=>.non
 |.bl b=>.bl b
 |.int i=>.int i
 |.str x=>.str x
 |.ty n=>.ty n
 |.fn a=>.ref a
 |_=>.non
noncomputable def cZ:PV->Bool
 |.tup _=>false
 |.lst _=>false
 |.dct _ _=>false
 |.src _=>false
 |.ktu _=>false
 |.rng _ _=>false
 |_=>true
theorem nQ {K:PySem.W.Frag}{F:Hp}{p:PV}(h:cZ p=true):Rep K F p (j9 p):=by
 cases p<;>first|rfl|exact absurd h Bool.false_ne_true
theorem oM {p:PV}(h:PE X e (tC (j9 p)))(hp:cZ p=true:=by rfl):hG X e (pC p):=PE.weak h fun σ H Q hh_=>hh_.elim fun F ρ Qp er q k=>k p _ F H q (.refl er.fz) (nQ hp)
theorem Hl {i:Int}{j}:hG X (.Constant (.int i) j pos) (pC (.int i)):=oM kW
theorem J6 {i:Bool}{j}:hG X (.Constant (.bool i) j pos) (pC (.bl i)):=oM IX
theorem HB {x:Str}{j}:hG X (.Constant (.str x) j pos) (pC (.str x)):=oM GZ
noncomputable abbrev kc:=PV->PV->(PV->Prop)->Prop
noncomputable def u7 (g:kc)(ta tb:gQ):gQ:=fun ρ Q=>ta ρ fun x=>tb ρ fun y=>g x y Q
noncomputable def h7 (K:PySem.W.Frag)(r:R2)(g:kc):Prop:=∀F H x y p q (Qp:PV->Prop) (Q:VK),Same F H->RdV K F H p x->RdV K F H q y->g p q Qp->(∀z v F' H',Qp z->Grow F H F' H'->Rep K F' z v->Q v H')->r x y H Q
theorem lM {r:R2}{g:kc}(hg:h7 X.K r g):∀σ H Q,lE X.K (u7 g ta tb) σ H Q->kO r (lT X.K ta) (lT X.K tb) σ H Q:=fun σ H Q hh_=>hh_.elim fun F ρ Qp er q k=>
 ⟨F,ρ,_,er,q,fun p v F1 H1 q1 g1 r1=>⟨F1,ρ,_,er.grow g1,q1,fun p2 v2 F2 H2 q2 g2 r2=>
  hg F2 H2 v v2 p p2 Qp Q g2.fh (r1.grow g2) r2 q2 fun z u F3 H3 qz g3 r3=>k z u F3 H3 qz ((g1.trans g2).trans g3) r3⟩⟩
theorem lq {op:Operator}{r:R2}{g:kc}(ho:kj X (binaryOp op) r)(hg:h7 X.K r g)(ha:jz X a ta)(hb:jz X b tb):hG X (.BinOp a op b pos) (u7 g ta tb):=PE.weak (AL ho ha hb) (lM hg)
theorem Gb {op:CmpOp}{r:R2}{g:kc}(ho:kj X (compareOp op) r)(hg:h7 X.K r g)(ha:jz X a ta)(hb:jz X b tb)(hm:behindInMarks op b=false):hG X (.Compare a [op] [b] pos) (u7 g ta tb):=PE.weak (BS ho ha hb hm) (lM hg)
noncomputable def OkB:PV->(Bool->Prop)->Prop
 |.bl b,Q=>Q b
 |_,_=>False
noncomputable def OkI:PV->(Int->Prop)->Prop
 |.int i,Q=>Q i
 |_,_=>False
theorem OkB.rd {K:PySem.W.Frag}{F H:Hp}{p:PV}{v:V}{Q:Bool->Prop}(h:OkB p Q)(r:RdV K F H p v):∃b,p=.bl b/\v=.bl b/\Q b:=by
 cases p<;>first|exact h.elim|skip
 cases r with
 |frz r=>exact⟨_,rfl,r,h⟩
theorem OkI.rd {K:PySem.W.Frag}{F H:Hp}{p:PV}{v:V}{Q:Int->Prop}(h:OkI p Q)(r:RdV K F H p v):∃b,p=.int b/\v=.int b/\Q b:=by
 cases p<;>first|exact h.elim|skip
 cases r with
 |frz r=>exact⟨_,rfl,r,h⟩
noncomputable def Ei (te:gQ):mr:=fun ρ Q=>te ρ fun x=>OkB x Q
theorem Bq {op:CmpOp}{r:R2}{g:kc}(ho:kj X (compareOp op) r)(hg:h7 X.K r g)(ha:jz X a ta)(hb:jz X b tb)(hm:behindInMarks op b=false):PuB X (.Compare a [op] [b] pos) (Ei (u7 g ta tb)):=
 PT.weak (ly ho ha hb hm) fun σ H Q hh_=>hh_.elim fun F ρ Qp er q k=>lM hg σ H _ ⟨F,ρ,_,er,q,fun p v F' H' hp g r=>by
  obtain⟨b,rfl,rfl,q⟩:=hp.rd (H:=H') (.frz r)
  exact⟨b,rfl,k b F' H' q g⟩⟩
noncomputable def gI (C:Int->Int->Prop)(f:Int->Int->PV):kc:=fun x y Q=>OkI x fun i=>OkI y fun j=>C i j/\Q (f i j)
noncomputable def BI (f:Int->Int->PV):kc:=fun x y Q=>OkI x fun i=>OkI y fun j=>Q (f i j)
theorem sj {K:PySem.W.Frag}{C:Int->Int->Prop}{f:Int->Int->PV}(hf:∀i j,cZ (f i j)=true:=by intros;rfl):h7 K (rI C fun i j=>j9 (f i j)) (gI C f):=fun F H x y p q Qp Q s rx ry h k=>by
 obtain⟨i,rfl,rfl,h⟩:=OkI.rd h rx
 obtain⟨j,rfl,rfl,h⟩:=OkI.rd h ry
 exact⟨i,j,rfl,rfl,h.1,k _ _ F H h.2 (.refl s) (nQ (hf i j))⟩
theorem ko {K:PySem.W.Frag}{f:Int->Int->PV}(hf:∀i j,cZ (f i j)=true:=by intros;rfl):h7 K (jm fun i j=>j9 (f i j)) (BI f):=fun F H x y p q Qp Q s rx ry h k=>by
 obtain⟨i,rfl,rfl,h⟩:=OkI.rd h rx
 obtain⟨j,rfl,rfl,h⟩:=OkI.rd h ry
 exact⟨i,j,rfl,rfl,k _ _ F H h (.refl s) (nQ (hf i j))⟩
noncomputable def Lz:kc:=BI fun i j=>.int (i+j)
noncomputable def fo:kc:=BI fun i j=>.int (i - j)
noncomputable def L4:kc:=gI CMul fun i j=>.int (i * j)
noncomputable def LG:kc:=gI Jv fun i j=>.int (i / j)
noncomputable def KP:kc:=gI (fun _ j=>0<j) fun i j=>.int (i % j)
noncomputable def LL:kc:=gI Kr fun i j=>.int (i ^ j.toNat)
noncomputable def M4:kc:=BI fun i j=>.bl (decide (i<j))
noncomputable def MM:kc:=BI fun i j=>.bl (decide (i≤j))
noncomputable def Nv:kc:=BI fun i j=>.bl (decide (j<i))
noncomputable def Na:kc:=BI fun i j=>.bl (decide (j≤i))
theorem Gj (ha:jz X a ta)(hb:jz X b tb):hG X (.BinOp a .Add b pos) (u7 Lz ta tb):=lq Gk (ko (f:=fun i j=>.int (i+j))) ha hb
theorem Gy (ha:jz X a ta)(hb:jz X b tb):hG X (.BinOp a .Sub b pos) (u7 fo ta tb):=lq GH (ko (f:=fun i j=>.int (i - j))) ha hb
theorem GQ (ha:jz X a ta)(hb:jz X b tb):hG X (.BinOp a .Mult b pos) (u7 L4 ta tb):=lq Ha (sj (f:=fun i j=>.int (i * j))) ha hb
theorem GV (ha:jz X a ta)(hb:jz X b tb):hG X (.BinOp a .FloorDiv b pos) (u7 LG ta tb):=lq D7 (sj (f:=fun i j=>.int (i / j))) ha hb
theorem Hr (ha:jz X a ta)(hb:jz X b tb):hG X (.BinOp a .Mod b pos) (u7 KP ta tb):=lq Fw (sj (f:=fun i j=>.int (i % j))) ha hb
theorem Fl (ha:jz X a ta)(hb:jz X b tb):hG X (.BinOp a .Pow b pos) (u7 LL ta tb):=lq GC (sj (f:=fun i j=>.int (i ^ j.toNat))) ha hb
theorem JZ:h7 X.K (jm fun i j=>.bl (decide (i<j))) M4:=ko (f:=fun i j=>.bl (decide (i<j)))
theorem KD:h7 X.K (jm fun i j=>.bl (decide (i≤j))) MM:=ko (f:=fun i j=>.bl (decide (i≤j)))
theorem J3:h7 X.K (jm fun i j=>.bl (decide (j<i))) Nv:=ko (f:=fun i j=>.bl (decide (j<i)))
theorem IW:h7 X.K (jm fun i j=>.bl (decide (j≤i))) Na:=ko (f:=fun i j=>.bl (decide (j≤i)))
noncomputable def kF:PV->Bool
 |.non=>true
 |_=>false
end
end Pu
end
section
namespace Pu
open PySem PySem.Spec L2
section
variable {X:Cx}{e a b c:Expr}{pos:Pos}{te ta tb tc:gQ}{tA tB':mr}{cU:List Expr}
noncomputable def Ks (ta:gQ):gQ:=fun ρ Q=>ta ρ fun x=>OkB x fun b=>Q (.bl (!b))
noncomputable def Jh (ta tb:gQ):gQ:=fun ρ Q=>ta ρ fun x=>OkB x fun b=>if b=true then tb ρ Q else Q (.bl false)
noncomputable def Ly (ta tb:gQ):gQ:=fun ρ Q=>ta ρ fun x=>OkB x fun b=>if b=true then Q (.bl true) else tb ρ Q
noncomputable def Jj (t u:mr):mr:=fun ρ Q=>t ρ fun b=>if b=true then u ρ Q else Q false
noncomputable def L5 (t u:mr):mr:=fun ρ Q=>t ρ fun b=>if b=true then Q true else u ρ Q
noncomputable def JY (t:mr):mr:=fun ρ Q=>t ρ fun b=>Q (!b)
noncomputable def Lf (t:mr)(ta tb:gQ):gQ:=fun ρ Q=>t ρ fun b=>if b=true then ta ρ Q else tb ρ Q
theorem G9 (ha:hG X a ta):hG X (.UnaryOp .Not a pos) (Ks ta):=PE.weak (HD ha) fun σ H Q hh_=>hh_.elim fun F ρ Qp er q k=>⟨F,ρ,_,er,q,fun p v F1 H1 h1 g1 r1=>by
 obtain⟨b,rfl,rfl,h⟩:=h1.rd (H:=H1) (.frz r1)
 exact⟨b,rfl,k _ _ F1 H1 h g1 rfl⟩⟩
theorem Fg (ha:hG X a ta)(hb:hG X (.BoolOp .And (b::cU) pos) tb):hG X (.BoolOp .And (a::b::cU) pos) (Jh ta tb):=PE.weak (zl ha hb) fun σ H Q hh_=>hh_.elim fun F ρ Qp er q k=>⟨F,ρ,_,er,q,fun p v F1 H1 h1 g1 r1=>by
 obtain⟨b,rfl,rfl,h⟩:=h1.rd (H:=H1) (.frz r1)
 refine⟨b,rfl,?_⟩
 cases b with
 |true=>exact⟨F1,ρ,Qp,er.grow g1,by simpa using h,fun p v F' H' hp g r=>k p v F' H' hp (g1.trans g) r⟩
 |false=>exact k (.bl false) _ F1 H1 (by simpa using h) g1 rfl⟩
theorem IJ (ha:hG X a ta)(hb:hG X (.BoolOp .Or (b::cU) pos) tb):hG X (.BoolOp .Or (a::b::cU) pos) (Ly ta tb):=PE.weak (I0 ha hb) fun σ H Q hh_=>hh_.elim fun F ρ Qp er q k=>⟨F,ρ,_,er,q,fun p v F1 H1 h1 g1 r1=>by
 obtain⟨b,rfl,rfl,h⟩:=h1.rd (H:=H1) (.frz r1)
 refine⟨b,rfl,?_⟩
 cases b with
 |false=>exact⟨F1,ρ,Qp,er.grow g1,by simpa using h,fun p v F' H' hp g r=>k p v F' H' hp (g1.trans g) r⟩
 |true=>exact k (.bl true) _ F1 H1 (by simpa using h) g1 rfl⟩
theorem GO {op}(h:hG X a te):hG X (.BoolOp op [a] pos) te:=za h
theorem By (h:PT X e (tB (lE X.K te))):PuB X e (Ei te):=PT.weak h fun σ H Q hh_=>hh_.elim fun F ρ Qp er q k=>⟨F,ρ,_,er,q,fun p v F1 H1 h1 g1 r1=>by
 obtain⟨b,rfl,rfl,h⟩:=h1.rd (H:=H1) (.frz r1)
 exact⟨b,rfl,k _ F1 H1 h g1⟩⟩
theorem zH (ha:PuB X a tA):PuW X (.BoolOp .And [a] pos) tA:=C7 ha
theorem Cb (ha:PuB X a tA):PuW X (.BoolOp .Or [a] pos) tA:=GI ha
theorem Bx (ha:PuB X a tA)(hb:PuW X (.BoolOp .And (b::cU) pos) tB'):PuW X (.BoolOp .And (a::b::cU) pos) (Jj tA tB'):=PW.weak (HL ha hb) fun σ H Q hh_=>hh_.elim fun F ρ Qp er q k=>⟨F,ρ,_,er,q,fun b F1 H1 h1 g1=>by
 cases b with
 |true=>exact⟨F1,ρ,Qp,er.grow g1,by simpa using h1,fun b F' H' hp g=>k b F' H' hp (g1.trans g)⟩
 |false=>exact k _ F1 H1 (by simpa using h1) g1⟩
theorem Hm (ha:PuB X a tA)(hb:PuW X (.BoolOp .Or (b::cU) pos) tB'):PuW X (.BoolOp .Or (a::b::cU) pos) (L5 tA tB'):=PW.weak (JE ha hb) fun σ H Q hh_=>hh_.elim fun F ρ Qp er q k=>⟨F,ρ,_,er,q,fun b F1 H1 h1 g1=>by
 cases b with
 |false=>exact⟨F1,ρ,Qp,er.grow g1,by simpa using h1,fun b F' H' hp g=>k b F' H' hp (g1.trans g)⟩
 |true=>exact k _ F1 H1 (by simpa using h1) g1⟩
theorem IN (h:PuW X e tA):PuB X e tA:=PW.pt h
theorem Ci (ha:PuB X a tA):PuB X (.UnaryOp .Not a pos) (JY tA):=PT.weak (Fh ha) fun σ H Q hh_=>hh_.elim fun F ρ Qp er q k=>⟨F,ρ,_,er,q,fun b F1 H1 h1 g1=>k _ F1 H1 h1 g1⟩
theorem Hu (hc:PuB X c tA)(ha:hG X a ta)(hb:hG X b tb):hG X (.IfExp c a b pos) (Lf tA ta tb):=PE.weak (Al hc ha hb) fun σ H Q hh_=>hh_.elim fun F ρ Qp er q k=>⟨F,ρ,_,er,q,fun b F1 H1 h1 g1=>by
 cases b with
 |true=>exact⟨F1,ρ,Qp,er.grow g1,by simpa using h1,fun p v F' H' hp g r=>k p v F' H' hp (g1.trans g) r⟩
 |false=>exact⟨F1,ρ,Qp,er.grow g1,by simpa using h1,fun p v F' H' hp g r=>k p v F' H' hp (g1.trans g) r⟩⟩
noncomputable def vN (g g':kc)(ta tb tc:gQ):gQ:=fun ρ Q=>ta ρ fun x=>tb ρ fun y=>g x y fun z=>OkB z fun k=>if k=true then tc ρ fun w=>g' y w Q else Q (.bl false)
theorem vM {r r':R2}{g g':kc}(hg:h7 X.K r g)(hg':h7 X.K r' g'):∀σ H Q,lE X.K (vN g g' ta tb tc) σ H Q->bF r r' (lT X.K ta) (lT X.K tb) (lT X.K tc) σ H Q:=fun σ H Q hh_=>hh_.elim fun F ρ Qp er q k=>
 ⟨F,ρ,_,er,q,fun p v F1 H1 q1 g1 r1=>⟨F1,ρ,_,er.grow g1,q1,fun p2 v2 F2 H2 q2 g2 r2=>
  hg F2 H2 v v2 p p2 _ _ g2.fh (r1.grow g2) r2 q2 fun z u F3 H3 qz g3 r3=>by
   obtain⟨b,rfl,rfl,h⟩:=OkB.rd (H:=H3) qz (.frz r3)
   refine⟨b,rfl,?_⟩
   have gg:=(g1.trans g2).trans g3
   cases b with
   |true=>exact⟨F3,ρ,_,er.grow gg,by simpa using h,fun p4 v4 F4 H4 q4 g4 r4=>hg' F4 H4 v2 v4 p2 p4 Qp Q g4.fh (r2.grow (g3.trans g4)) r4 q4 fun z u F5 H5 qz g5 r5=>k z u F5 H5 qz ((gg.trans g4).trans g5) r5⟩
   |false=>exact k (.bl false) _ F3 H3 (by simpa using h) gg rfl⟩⟩
theorem zu {op op':CmpOp}{r r':R2}{g g':kc}(ho:kj X (compareOp op) r)(hg:h7 X.K r g)(ho':kj X (compareOp op') r')(hg':h7 X.K r' g')(ha:jz X a ta)(hb:jz X b tb)(hc:jz X c tc)
  (hm:lastMarks [op,op'] [b,c]=false:=by with_unfolding_all rfl):hG X (.Compare a [op,op'] [b,c] pos) (vN g g' ta tb tc):=PE.weak (Af ho ho' ha hb hc hm) (vM hg hg')
noncomputable def LU (ta:gQ):gQ:=fun ρ Q=>ta ρ fun x=>OkI x fun i=>Q (.int (-i))
theorem Gz (ha:hG X a ta):hG X (.UnaryOp .USub a pos) (LU ta):=PE.weak (JF Fj ha) fun σ H Q hh_=>hh_.elim fun F ρ Qp er q k=>⟨F,ρ,_,er,q,fun p v F1 H1 h1 g1 r1=>by
 obtain⟨i,rfl,rfl,h⟩:=h1.rd (H:=H1) (.frz r1)
 exact⟨i,rfl,k _ _ F1 H1 h g1 rfl⟩⟩
inductive RdVs (K:PySem.W.Frag) (F H:Hp):List PV->List V->Prop where
 |nil:RdVs K F H [] []
 |cons {p:PV} {v:V} {ps:List PV} {vs:List V}:RdV K F H p v->RdVs K F H ps vs->RdVs K F H (p::ps) (v::vs)
noncomputable def lAT (K:PySem.W.Frag)(te:jC):TA:=fun σ H Q=>∃F ρ,∃Qp:List PV->Prop,ER K F H σ ρ/\te ρ Qp/\∀ps vs F' H',Qp ps->Grow F H F' H'->RdVs K F' H' ps vs->Q vs H'
theorem lAT.elim {K:PySem.W.Frag}{te:jC}{σ:St}{H:Hp}{Q:List V->Hp->Prop}{C:Prop}(h:lAT K te σ H Q)(k:∀F ρ (Qp:List PV->Prop),ER K F H σ ρ->te ρ Qp->(∀ps vs F' H',Qp ps->Grow F H F' H'->RdVs K F' H' ps vs->Q vs H')->C):C:=by obtain⟨F,ρ,Qp,a,b,c⟩:=h;exact k F ρ Qp a b c
noncomputable def xA (X:Cx)(es:List Expr)(te:jC):Prop:=PA X es (lAT X.K te)
noncomputable def JO:jC:=fun _ Q=>Q []
noncomputable def Eo (te:gQ)(t:jC):jC:=fun ρ Q=>te ρ fun p=>t ρ fun ps=>Q (p::ps)
variable {es:List Expr}{t:jC}
theorem B9:Ef X [] JO:=PA.weak fW fun σ H Q hh_=>hh_.elim fun F ρ Qp er q k=>k _ _ F H q (.refl er.fz) rfl
theorem yD (hn:NS e)(he:hG X e te)(ht:Ef X es t):Ef X (e::es) (Eo te t):=PA.weak (aW hn he ht) fun σ H Q hh_=>hh_.elim fun F ρ Qp er q k=>⟨F,ρ,_,er,q,fun p v F1 H1 h1 g1 r1=>
 ⟨F1,ρ,_,er.grow g1,h1,fun ps vs F2 H2 h2 g2 r2=>k _ _ F2 H2 h2 (g1.trans g2) ⟨v,vs,rfl,r1.mono g2.ff,r2⟩⟩⟩
theorem zf:xA X [] JO:=PA.weak fW fun σ H Q hh_=>hh_.elim fun F ρ Qp er q k=>k _ _ F H q (.refl er.fz) .nil
theorem xI (hn:NS e)(he:jz X e te)(ht:xA X es t):xA X (e::es) (Eo te t):=PA.weak (aW hn he ht) fun σ H Q hh_=>hh_.elim fun F ρ Qp er q k=>⟨F,ρ,_,er,q,fun p v F1 H1 h1 g1 r1=>
 ⟨F1,ρ,_,er.grow g1,h1,fun ps vs F2 H2 h2 g2 r2=>k _ _ F2 H2 h2 (g1.trans g2) (.cons (r1.grow g2) r2)⟩⟩
noncomputable def K7 (t:jC):gQ:=fun ρ Q=>t ρ fun ps=>ps.length≤sizeLine/\Q (.tup ps)
noncomputable def LF (t:jC):uk:=fun ρ Q=>t ρ fun ps=>ps.length≤sizeLine/\Q ps
theorem GS {x1}(h:Ef X es t):hG X (.Tuple es x1 pos) (K7 t):=PE.weak (kR h) fun σ H Q hh_=>hh_.elim fun F ρ Qp er q k=>⟨F,ρ,_,er,q,fun ps vs F1 H1 h1 g1 r1=>⟨by rw[r1.length];exact h1.1,fun p hp=>
 k (.tup ps) (.ref p) _ _ h1.2 (g1.trans (.new g1.fh hp _)) ⟨p,vs,rfl,aw,r1.mono (b0 (g1.fh.free hp) _)⟩⟩⟩
theorem F8 (h:Ef X es t):vK X (.List es pos) (LF t):=PE.weak (Gx h) fun σ H Q hh_=>hh_.elim fun F ρ Qp er q k=>⟨F,ρ,_,er,q,fun ps vs F1 H1 h1 g1 r1=>⟨by rw[r1.length];exact h1.1,fun p hp=>
 k ps p vs F1 _ h1.2 (g1.trans (.newO g1.fh hp _)) (g1.hh.free hp) (g1.fh.free hp) aw r1⟩⟩
noncomputable def items:PV->Option (List PV)
 |.tup ps=>some ps
 |.lst ps=>some ps
 |.src ps=>some ps
 |.ktu ps=>some ps
 |_=>none
noncomputable def OkS (p:PV)(Q:List PV->Prop):Prop:=match items p with
 |some ps=>Q ps
 |none=>False
noncomputable def OkO {α:Type}(o:Option α)(Q:α->Prop):Prop:=match o with
 |some x=>Q x
 |none=>False
theorem OkO.ex {α:Type}{o:Option α}{Q:α->Prop}(h:OkO o Q):∃x,o=some x/\Q x:=by
 cases o with
 |none=>exact h.elim
 |some x=>exact⟨x,rfl,h⟩
theorem OkS.rd {K:PySem.W.Frag}{F H:Hp}{p:PV}{v:V}{Q:List PV->Prop}(h:OkS p Q)(s:Same F H)(r:RdV K F H p v):∃a vs ps,v=.ref a/\(SqL K H a vs\/SqT K H a vs)/\items p=some ps/\Reps K F ps vs/\Q ps:=by
 unfold OkS at h
 cases r with
 |frz r=>
  cases p<;>first|exact h.elim|skip
  ·obtain⟨a,vs,rfl,e,r⟩:=r;exact⟨a,vs,_,rfl,.inr (SqT.of (s _ _ e)),rfl,r,h⟩
  ·obtain⟨a,vs,rfl,e,r⟩:=r;exact⟨a,vs,_,rfl,.inl (SqL.of (s _ _ e)),rfl,r,h⟩
  ·obtain⟨a,vs,rfl,e,r⟩:=r;exact⟨a,vs,_,rfl,.inl (s.seq e),rfl,r,h⟩
  ·obtain⟨a,vs,rfl,e,r⟩:=r;exact⟨a,vs,_,rfl,.inr (wY s e),rfl,r,h⟩
 |own h1 h2 h3=>exact⟨_,_,_,rfl,.inl (SqL.of h1),rfl,h3,h⟩
 |dic=>exact h.elim
theorem Reps.atI {K:PySem.W.Frag}{F:Hp}{ps:List PV}{vs:List V}{i:Int}{p:PV}(h:Reps K F ps vs)(e:L2.atI ps i=some p):∃v,L2.atI vs i=some v/\Rep K F p v:=by
 unfold L2.atI at e ⊢
 rw[h.length]
 cases q:qi ps.length i with
 |none=>rw[q] at e;cases e
 |some j=>rw[q] at e;exact h.get e
noncomputable def Ld:kc:=fun x y Q=>OkI y fun i=>match x with
 |.str z=>z.length≤sizeLine/\OkO (L2.atI z.cps.toList i) fun c=>Q (.str ⟨#[c]⟩)
 |p=>OkS p fun ps=>OkO (L2.atI ps i) Q
theorem Jp:h7 X.K (aH X.K) Ld:=fun F H x y p q Qp Q s rx ry h k=>by
 obtain⟨i,rfl,rfl,h⟩:=OkI.rd h ry
 by_cases hz:∃z,p=.str z
 ·obtain⟨z,rfl⟩:=hz
  obtain⟨h1,h2⟩:=h
  obtain⟨c,e,h2⟩:=h2.ex
  cases rx with
  |frz r=>exact .inr (.inr ⟨z,i,c,r,rfl,h1,e,k _ _ F H h2 (.refl s) rfl⟩)
 ·have h':OkS p fun ps=>OkO (L2.atI ps i) Qp:=by
   cases p<;>first|exact h|exact absurd ⟨_,rfl⟩ hz
  obtain⟨a,vs,ps,rfl,hs,_,r,h⟩:=h'.rd s rx
  obtain⟨z,e,h⟩:=h.ex
  obtain⟨v,e',r'⟩:=r.atI e
  rcases hs with hs|hs
  ·exact .inl ⟨a,vs,i,v,rfl,rfl,hs,e',k z v F H h (.refl s) r'⟩
  ·exact .inr (.inl ⟨a,vs,i,v,rfl,rfl,hs,e',k z v F H h (.refl s) r'⟩)
theorem Ex (ha:jz X a ta)(hb:jz X b tb)(hs:lH b):hG X (.Subscript a b pos) (u7 Ld ta tb):=PE.weak (iC Hj ha hb hs) (lM Jp)
noncomputable abbrev yx:=ay->(Option Int->Prop)->Prop
noncomputable def lO (K:PySem.W.Frag)(te:yx):TO:=fun σ H Q=>∃F ρ,∃Qp:Option Int->Prop,ER K F H σ ρ/\te ρ Qp/\∀b F' H',Qp b->Grow F H F' H'->Q b H'
theorem lO.elim {K:PySem.W.Frag}{te:yx}{σ:St}{H:Hp}{Q:Option Int->Hp->Prop}{C:Prop}(h:lO K te σ H Q)(k:∀F ρ (Qp:Option Int->Prop),ER K F H σ ρ->te ρ Qp->(∀b F' H',Qp b->Grow F H F' H'->Q b H')->C):C:=by obtain⟨F,ρ,Qp,a,b,c⟩:=h;exact k F ρ Qp a b c
noncomputable def DV (X:Cx)(e:Option Expr)(te:yx):Prop:=PO X e (lO X.K te)
theorem PO.weak {X:Cx}{e:Option Expr}{t t':TO}(h:PO X e t)(w:∀σ H Q,t' σ H Q->t σ H Q):PO X e t':=fun pins s σ H Q I q=>h pins s σ H _ I (w σ H _ q)
noncomputable def B7:yx:=fun _ Q=>Q none
noncomputable def IZ (te:gQ):yx:=fun ρ Q=>te ρ fun x=>OkI x fun i=>Q (some i)
theorem Ap:DV X none B7:=PO.weak CU fun σ H Q hh_=>hh_.elim fun F ρ Qp er q k=>k _ F H q (.refl er.fz)
theorem zp (h:hG X e te):DV X (some e) (IZ te):=PO.weak (Dq h) fun σ H Q hh_=>hh_.elim fun F ρ Qp er q k=>⟨F,ρ,_,er,q,fun p v F1 H1 h1 g1 r1=>by
 obtain⟨i,rfl,rfl,h⟩:=h1.rd (H:=H1) (.frz r1)
 exact⟨i,rfl,k _ F1 H1 h g1⟩⟩
noncomputable def cut {α:Type}(xs:List α)(lo hi:Option Int):List α:=(xs.drop (HT.sIx xs.length 0 lo)).take (HT.sIx xs.length xs.length hi - HT.sIx xs.length 0 lo)
theorem Reps.cut {K:PySem.W.Frag}{F:Hp}{ps:List PV}{vs:List V}{lo hi:Option Int}(h:Reps K F ps vs):Reps K F (cut ps lo hi) (sB vs lo hi):=by
 unfold Pu.cut sB
 rw[h.length]
 exact (h.drop _).take _
noncomputable def OkL:PV->(List PV->Prop)->Prop
 |.lst ps,Q=>Q ps
 |.src ps,Q=>Q ps
 |_,_=>False
theorem OkL.rd {K:PySem.W.Frag}{F H:Hp}{p:PV}{v:V}{Q:List PV->Prop}(h:OkL p Q)(s:Same F H)(r:RdV K F H p v):∃a vs ps,v=.ref a/\SqL K H a vs/\Reps K F ps vs/\Q ps:=by
 cases r with
 |frz r=>
  cases p<;>first|exact h.elim|skip
  ·obtain⟨a,vs,rfl,e,r⟩:=r;exact⟨a,vs,_,rfl,SqL.of (s _ _ e),r,h⟩
  ·obtain⟨a,vs,rfl,e,r⟩:=r;exact⟨a,vs,_,rfl,s.seq e,r,h⟩
 |own h1 h2 h3=>exact⟨_,_,_,rfl,SqL.of h1,h3,h⟩
 |dic=>exact h.elim
noncomputable def OkT:PV->(List PV->Prop)->Prop
 |.tup ps,Q=>Q ps
 |_,_=>False
theorem OkT.rd {K:PySem.W.Frag}{F H:Hp}{p:PV}{v:V}{Q:List PV->Prop}(h:OkT p Q)(r:RdV K F H p v):∃a vs ps,p=.tup ps/\v=.ref a/\F a=some (.tup vs)/\Reps K F ps vs/\Q ps:=by
 cases p<;>first|exact h.elim|skip
 cases r with
 |frz r=>obtain⟨a,vs,rfl,e,r⟩:=r;exact⟨a,vs,_,rfl,rfl,e,r,h⟩
noncomputable def LV (te:gQ)(tl th:yx):uk:=fun ρ Q=>te ρ fun x=>tl ρ fun l=>th ρ fun h=>OkL x fun ps=>Q (cut ps l h)
theorem Fi {lo hi:Option Expr}{tl th:yx}{p2:Pos}(he:jz X e te)(hl:DV X lo tl)(hh:DV X hi th):vK X (.Subscript e (.Slice lo hi none p2) pos) (LV te tl th):=PE.weak (sN D5 he hl hh) fun σ H Q hh_=>hh_.elim fun F ρ Qp er q k=>⟨F,ρ,_,er,q,fun p v F1 H1 h1 g1 r1=>
 ⟨F1,ρ,_,er.grow g1,h1,fun l F2 H2 h2 g2=>⟨F2,ρ,_,(er.grow g1).grow g2,h2,fun h F3 H3 h3 g3=>by
  have gg:=(g1.trans g2).trans g3
  obtain⟨a,vs,ps,rfl,hs,r,q⟩:=h3.rd gg.fh (r1.grow (g2.trans g3))
  refine⟨a,vs,rfl,hs,fun p hp=>k _ p _ F3 _ q (gg.trans (.newO gg.fh hp _)) (gg.hh.free hp) (gg.fh.free hp) aw r.cut⟩⟩⟩⟩
end
end Pu
end
section
namespace Pu
open PySem PySem.Spec L2 PySem.SeqAt
mutual
noncomputable def plain:PV->Bool
 |.non=>true
 |.bl _=>true
 |.int _=>true
 |.str _=>true
 |.tup ps=>aL ps
 |.lst ps=>aL ps
 |_=>false
noncomputable def aL:List PV->Bool
 |[]=>true
 |p::ps=>plain p&&aL ps
end
mutual
noncomputable def kr:PV->Nat
 |.tup ps=>cz ps+1
 |.lst ps=>cz ps+1
 |_=>0
noncomputable def cz:List PV->Nat
 |[]=>0
 |p::ps=>max (kr p) (cz ps)
end
mutual
noncomputable def iT:PV->PV->Bool
 |.tup ps,q=>match q with
  |.tup qs=>iQ ps qs
  |_=>false
 |.lst ps,q=>match q with
  |.lst qs=>iQ ps qs
  |_=>false
 |p,q=>cZ q&&zy (j9 p) (j9 q)
noncomputable def iQ:List PV->List PV->Bool
 |[],qs=>match qs with
  |[]=>true
  |_::_=>false
 |p::ps,qs=>match qs with
  |[]=>false
  |q::qs=>iT p q&&iQ ps qs
end
theorem iq:∀(ps qs:List PV),((List.range (min ps.length qs.length)).all (fun j=>iT (ps.getD j .non) (qs.getD j .non))&&ps.length==qs.length)=iQ ps qs
 |[],[]=>by simp[iQ]
 |[],_::_=>by simp[iQ]
 |_::_,[]=>by simp[iQ]
 |p::ps,q::qs=>by
  have ih:=iq ps qs
  rw[iQ,←ih]
  rw[show min (p::ps).length (q::qs).length=min ps.length qs.length+1 by simp only[List.length_cons];omega,List.range_succ_eq_map,List.all_cons,List.all_map]
  simp[Bool.and_assoc,Function.comp_def]
theorem mL {ps qs:List PV}(h:ps.length=qs.length):(List.range ps.length).all (fun j=>iT (ps.getD j .non) (qs.getD j .non))=iQ ps qs:=by
 rw[←iq,←h,Nat.min_self];simp
theorem nP {ps qs:List PV}(h:ps.length≠qs.length):iQ ps qs=false:=by
 rw[←iq,(show (ps.length==qs.length)=false by simpa using h),Bool.and_false]
mutual
noncomputable def Dv (s:Shared):PV->Value->Prop
 |.tup ps,u=>∃a its,u=.ref a/\s.heap.IsTuple a its.toArray/\Dvs s ps its
 |.lst ps,u=>∃a its,u=.ref a/\s.heap.IsList a its.toArray/\Dvs s ps its
 |p,u=>RelV (j9 p) u
noncomputable def Dvs (s:Shared):List PV->List Value->Prop
 |[],us=>us=[]
 |p::ps,us=>∃u r,us=u::r/\Dv s p u/\Dvs s ps r
end
theorem Dvs.length {s:Shared}:∀{ps:List PV} {us:List Value},Dvs s ps us->us.length=ps.length
 |[],_,h=>by rw[show _=[] from h];rfl
 |_::_,_,⟨u,r,e,_,t⟩=>by rw[e,List.length_cons,List.length_cons,t.length]
section
variable {X:Cx}{pins:List (Addr×Obj)}{σ:L2.St}{F H:Hp}{s:Shared}
mutual
theorem Ep (I:L2.Inv X pins σ H s)(sf:Same F H):∀{p:PV} {v:V} {u:Value},plain p=true->Rep X.K F p v->RelV v u->Dv s p u
 |.non,_,_,_,h,r=>by rw[show _=_ from h] at r;exact r
 |.bl _,_,_,_,h,r=>by rw[show _=_ from h] at r;exact r
 |.int _,_,_,_,h,r=>by rw[show _=_ from h] at r;exact r
 |.str _,_,_,_,h,r=>by rw[show _=_ from h] at r;exact r
 |.tup ps,_,_,hp,⟨a,vs,e,hF,rs⟩,r=>by
  subst e
  obtain⟨its,rv,pl,hz⟩:=I.tuple (SqT.of (sf _ _ hF))
  exact⟨a,its,r,pl,jS I sf hp rs rv⟩
 |.lst ps,_,_,hp,⟨a,vs,e,hF,rs⟩,r=>by
  subst e
  obtain⟨its,rv,pl,hz⟩:=I.list (SqL.of (sf _ _ hF))
  exact⟨a,its,r,pl.isList,jS I sf hp rs rv⟩
 |.ty _,_,_,hp,_,_=>absurd hp Bool.false_ne_true
 |.fn _,_,_,hp,_,_=>absurd hp Bool.false_ne_true
 |.dct _ _,_,_,hp,_,_=>absurd hp Bool.false_ne_true
 |.src _,_,_,hp,_,_=>absurd hp Bool.false_ne_true
 |.ktu _,_,_,hp,_,_=>absurd hp Bool.false_ne_true
 |.rng _ _,_,_,hp,_,_=>absurd hp Bool.false_ne_true
theorem jS (I:L2.Inv X pins σ H s)(sf:Same F H):∀{ps:List PV} {vs:List V} {us:List Value},aL ps=true->Reps X.K F ps vs->Vals vs us->Dvs s ps us
 |[],_,_,_,h,r=>by rw[show _=[] from h] at r;cases r;rfl
 |p::ps,_,_,hp,⟨v,t,e,h1,h2⟩,r=>by
  subst e
  cases r with
  |cons r1 r2=>
   rw[aL,Bool.and_eq_true] at hp
   exact⟨_,_,rfl,Ep I sf hp.1 h1 r1,jS I sf hp.2 h2 r2⟩
end
theorem p6 (I:L2.Inv X pins σ H s)(sf:Same F H){p:PV}{v:V}{u:Value}(hp:plain p=true)(h:RdV X.K F H p v)(r:RelV v u):Dv s p u:=by
 cases h with
 |frz h=>exact Ep I sf hp h r
 |own h1 h2 h3=>
  obtain⟨its,rv,pl,hz⟩:=I.list (SqL.of h1)
  exact⟨_,its,r,pl.isList,jS I sf hp h3 rv⟩
 |dic=>exact absurd hp Bool.false_ne_true
end
theorem kY {p:PV}(h1:cZ p=true)(h2:plain p=true):nB (j9 p)=true:=by
 cases p<;>first|rfl|exact absurd h1 Bool.false_ne_true|exact absurd h2 Bool.false_ne_true
theorem Cr {A:Around}{s:Shared}{y x:V}{u v:Value}(ry:RelV y u)(rx:RelV x v)(fy:nB y=true)(fx:nB x=true):RcAt A s u v (zy y x):=by
 cases y with
 |non=>
  cases ry
  cases x with
  |non=>cases rx;exact RcAt.none_none
  |bl b=>cases rx;exact RcAt.none_bool b
  |int b=>obtain⟨t,rfl⟩:=rx;exact RcAt.none_int b t
  |str b=>obtain⟨t,rfl⟩:=rx;exact RcAt.none_str b t
  |_=>exact absurd (show false=true from fx) Bool.false_ne_true
 |bl a=>
  cases ry
  cases x with
  |non=>cases rx;exact RcAt.bool_none a
  |bl b=>cases rx;exact RcAt.bool_bool a b
  |int b=>obtain⟨t,rfl⟩:=rx;exact RcAt.bool_int a b t
  |str b=>obtain⟨t,rfl⟩:=rx;exact RcAt.bool_str a b t
  |_=>exact absurd (show false=true from fx) Bool.false_ne_true
 |int a=>
  obtain⟨t',rfl⟩:=ry
  cases x with
  |non=>cases rx;exact RcAt.int_none a t'
  |bl b=>cases rx;exact RcAt.int_bool a t' b
  |int b=>obtain⟨t,rfl⟩:=rx;exact RcAt.int_int a t' b t
  |str b=>obtain⟨t,rfl⟩:=rx;exact RcAt.int_str a t' b t
  |_=>exact absurd (show false=true from fx) Bool.false_ne_true
 |str a=>
  obtain⟨t',rfl⟩:=ry
  cases x with
  |non=>cases rx;exact RcAt.str_none a t'
  |bl b=>cases rx;exact RcAt.str_bool a t' b
  |int b=>obtain⟨t,rfl⟩:=rx;exact RcAt.str_int a t' b t
  |str b=>obtain⟨t,rfl⟩:=rx;exact RcAt.str_str a t' b t
  |_=>exact absurd (show false=true from fx) Bool.false_ne_true
 |_=>exact absurd (show false=true from fy) Bool.false_ne_true
theorem Dn {A:Around}{s:Shared}{y x:V}{u v:Value}(ry:RelV y u)(rx:RelV x v)(fy:nB y=true)(fx:nB x=true):RcNeAt A s u v (!zy y x):=by
 cases y with
 |non=>
  cases ry
  cases x with
  |non=>cases rx;exact RcNeAt.none_none
  |bl b=>cases rx;exact RcNeAt.none_bool b
  |int b=>obtain⟨t,rfl⟩:=rx;exact RcNeAt.none_int b t
  |str b=>obtain⟨t,rfl⟩:=rx;exact RcNeAt.none_str b t
  |_=>exact absurd (show false=true from fx) Bool.false_ne_true
 |bl a=>
  cases ry
  cases x with
  |non=>cases rx;exact RcNeAt.bool_none a
  |bl b=>cases rx;exact RcNeAt.bool_bool a b
  |int b=>obtain⟨t,rfl⟩:=rx;exact RcNeAt.bool_int a b t
  |str b=>obtain⟨t,rfl⟩:=rx;exact RcNeAt.bool_str a b t
  |_=>exact absurd (show false=true from fx) Bool.false_ne_true
 |int a=>
  obtain⟨t',rfl⟩:=ry
  cases x with
  |non=>cases rx;exact RcNeAt.int_none a t'
  |bl b=>cases rx;exact RcNeAt.int_bool a t' b
  |int b=>obtain⟨t,rfl⟩:=rx;exact RcNeAt.int_int a t' b t
  |str b=>obtain⟨t,rfl⟩:=rx;exact RcNeAt.int_str a t' b t
  |_=>exact absurd (show false=true from fx) Bool.false_ne_true
 |str a=>
  obtain⟨t',rfl⟩:=ry
  cases x with
  |non=>cases rx;exact RcNeAt.str_none a t'
  |bl b=>cases rx;exact RcNeAt.str_bool a t' b
  |int b=>obtain⟨t,rfl⟩:=rx;exact RcNeAt.str_int a t' b t
  |str b=>obtain⟨t,rfl⟩:=rx;exact RcNeAt.str_str a t' b t
  |_=>exact absurd (show false=true from fx) Bool.false_ne_true
 |_=>exact absurd (show false=true from fy) Bool.false_ne_true
theorem tw {p q:PV}(hp:cZ p=true):iT p q=(cZ q&&zy (j9 p) (j9 q)):=by
 cases p<;>first|rfl|exact absurd hp Bool.false_ne_true
mutual
theorem lF:∀{p:PV},plain p=true->iT p p=true
 |.non,_=>rfl
 |.bl b,_=>by simp[iT,cZ,j9,zy]
 |.int b,_=>by simp[iT,cZ,j9,zy]
 |.str b,_=>by simp[iT,cZ,j9,zy]
 |.tup ps,h=>dC (ps:=ps) h
 |.lst ps,h=>dC (ps:=ps) h
 |.ty _,h=>absurd h Bool.false_ne_true
 |.fn _,h=>absurd h Bool.false_ne_true
 |.dct _ _,h=>absurd h Bool.false_ne_true
 |.src _,h=>absurd h Bool.false_ne_true
 |.ktu _,h=>absurd h Bool.false_ne_true
 |.rng _ _,h=>absurd h Bool.false_ne_true
theorem dC:∀{ps:List PV},aL ps=true->iQ ps ps=true
 |[],_=>rfl
 |p::ps,h=>by
  rw[aL,Bool.and_eq_true] at h
  rw[iQ,lF h.1,dC h.2];rfl
end
theorem Cy {h:Heap}{a:Addr}{x y:List Value}(h1:h.IsTuple a x.toArray)(h2:h.IsTuple a y.toArray):x=y:=by
 obtain⟨o,e,_,n,d⟩:=h1
 obtain⟨o',e',_,n',d'⟩:=h2
 rw[e] at e';cases e'
 rw[d] at d'
 injection d' with d1 _
 simpa using congrArg Array.toList d1
theorem B1 {h:Heap}{a:Addr}{x y:List Value}(h1:h.IsList a x.toArray)(h2:h.IsList a y.toArray):x=y:=by
 obtain⟨o,e,_,n,d⟩:=h1
 obtain⟨o',e',_,n',d'⟩:=h2
 rw[e] at e';cases e'
 rw[d] at d'
 injection d' with d1 _
 simpa using congrArg Array.toList d1
mutual
theorem Dv.inj {s:Shared}:∀{p q:PV} {u:Value},plain p=true->plain q=true->Dv s p u->Dv s q u->p=q
 |.tup ps,q,_,hp,hq,⟨a,its,e,h1,h2⟩,d=>by
  subst e
  cases q with
  |tup qs=>
   obtain⟨a',its',e',h1',h2'⟩:=d
   cases e'
   have:=Cy h1 h1'
   subst this
   rw[Dvs.inj hp hq h2 h2']
  |lst qs=>
   obtain⟨a',its',e',h1',h2'⟩:=d
   cases e'
   exact absurd rfl (ne_of_list_tuple h1' h1)
  |non=>cases (show Value.ref a=_ from d)
  |bl b=>cases (show Value.ref a=_ from d)
  |int b=>obtain⟨t,e⟩:=d;cases e
  |str b=>obtain⟨t,e⟩:=d;cases e
  |_=>exact absurd hq Bool.false_ne_true
 |.lst ps,q,_,hp,hq,⟨a,its,e,h1,h2⟩,d=>by
  subst e
  cases q with
  |lst qs=>
   obtain⟨a',its',e',h1',h2'⟩:=d
   cases e'
   have:=B1 h1 h1'
   subst this
   rw[Dvs.inj hp hq h2 h2']
  |tup qs=>
   obtain⟨a',its',e',h1',h2'⟩:=d
   cases e'
   exact absurd rfl (ne_of_list_tuple h1 h1')
  |non=>cases (show Value.ref a=_ from d)
  |bl b=>cases (show Value.ref a=_ from d)
  |int b=>obtain⟨t,e⟩:=d;cases e
  |str b=>obtain⟨t,e⟩:=d;cases e
  |_=>exact absurd hq Bool.false_ne_true
 |.non,q,_,hp,hq,d,d'=>by
  cases (show _=Value.none from d)
  cases q with
  |non=>rfl
  |bl b=>cases (show Value.none=_ from d')
  |int b=>obtain⟨t,e⟩:=d';cases e
  |str b=>obtain⟨t,e⟩:=d';cases e
  |tup qs=>obtain⟨a,its,e,_⟩:=d';cases e
  |lst qs=>obtain⟨a,its,e,_⟩:=d';cases e
  |_=>exact absurd hq Bool.false_ne_true
 |.bl x,q,_,hp,hq,d,d'=>by
  cases (show _=Value.bool x from d)
  cases q with
  |non=>cases (show Value.bool x=_ from d')
  |bl b=>cases (show Value.bool x=Value.bool b from d');rfl
  |int b=>obtain⟨t,e⟩:=d';cases e
  |str b=>obtain⟨t,e⟩:=d';cases e
  |tup qs=>obtain⟨a,its,e,_⟩:=d';cases e
  |lst qs=>obtain⟨a,its,e,_⟩:=d';cases e
  |_=>exact absurd hq Bool.false_ne_true
 |.int x,q,_,hp,hq,⟨t,d⟩,d'=>by
  subst d
  cases q with
  |non=>cases (show Value.int x t=_ from d')
  |bl b=>cases (show Value.int x t=Value.bool b from d')
  |int b=>obtain⟨t,e⟩:=d';cases e;rfl
  |str b=>obtain⟨t,e⟩:=d';cases e
  |tup qs=>obtain⟨a,its,e,_⟩:=d';cases e
  |lst qs=>obtain⟨a,its,e,_⟩:=d';cases e
  |_=>exact absurd hq Bool.false_ne_true
 |.str x,q,_,hp,hq,⟨t,d⟩,d'=>by
  subst d
  cases q with
  |non=>cases (show Value.str x t=_ from d')
  |bl b=>cases (show Value.str x t=Value.bool b from d')
  |int b=>obtain⟨t,e⟩:=d';cases e
  |str b=>obtain⟨t,e⟩:=d';cases e;rfl
  |tup qs=>obtain⟨a,its,e,_⟩:=d';cases e
  |lst qs=>obtain⟨a,its,e,_⟩:=d';cases e
  |_=>exact absurd hq Bool.false_ne_true
 |.ty _,_,_,h,_,_,_=>absurd h Bool.false_ne_true
 |.fn _,_,_,h,_,_,_=>absurd h Bool.false_ne_true
 |.dct _ _,_,_,h,_,_,_=>absurd h Bool.false_ne_true
 |.src _,_,_,h,_,_,_=>absurd h Bool.false_ne_true
 |.ktu _,_,_,h,_,_,_=>absurd h Bool.false_ne_true
 |.rng _ _,_,_,h,_,_,_=>absurd h Bool.false_ne_true
theorem Dvs.inj {s:Shared}:∀{ps qs:List PV} {us:List Value},aL ps=true->aL qs=true->Dvs s ps us->Dvs s qs us->ps=qs
 |[],qs,_,_,_,h,h'=>by
  cases (show _=[] from h)
  cases qs with
  |nil=>rfl
  |cons q qs=>obtain⟨u,r,e,_⟩:=h';cases e
 |p::ps,qs,_,hp,hq,⟨u,r,e,d1,d2⟩,h'=>by
  subst e
  cases qs with
  |nil=>cases (show _=[] from h')
  |cons q qs=>
   obtain⟨u',r',e',d1',d2'⟩:=h'
   cases e'
   rw[aL,Bool.and_eq_true] at hp hq
   rw[Dv.inj hp.1 hq.1 d1 d1',Dvs.inj hp.2 hq.2 d2 d2']
end
theorem Dv.flat' {s:Shared}{p:PV}{u:Value}(hf:cZ p=true)(h:Dv s p u):RelV (j9 p) u:=by
 cases p<;>first|exact h|exact absurd hf Bool.false_ne_true
theorem ww {s:Shared}{p q:PV}{A:Around}{u v:Value}(hf:cZ p=true)(hp:plain p=true)(hq:plain q=true)(hd:A.units<cLine)(d:Dv s p u)(d':Dv s q v):RcAt A s u v (iT p q):=by
 rw[tw hf]
 cases hfq:cZ q with
 |true=>
  rw[Bool.true_and]
  exact Cr (d.flat' hf) (d'.flat' hfq) (kY hf hp) (kY hfq hq)
 |false=>
  rw[Bool.false_and]
  have dp:=d.flat' hf
  cases q with
  |tup qs=>
   obtain⟨b,its2,e',h1',h2'⟩:=d'
   subst e'
   cases p with
   |non=>cases dp;exact RcAt.none_tuple h1' hd
   |bl x=>cases dp;exact RcAt.bool_tuple x h1' hd
   |int x=>obtain⟨t,rfl⟩:=dp;exact RcAt.int_tuple x t h1' hd
   |str x=>obtain⟨t,rfl⟩:=dp;exact RcAt.str_tuple x t h1' hd
   |_=>first|exact absurd hf Bool.false_ne_true|exact absurd hp Bool.false_ne_true
  |lst qs=>
   obtain⟨b,its2,e',h1',h2'⟩:=d'
   subst e'
   cases p with
   |non=>cases dp;exact RcAt.none_list h1' hd
   |bl x=>cases dp;exact RcAt.bool_list x h1' hd
   |int x=>obtain⟨t,rfl⟩:=dp;exact RcAt.int_list x t h1' hd
   |str x=>obtain⟨t,rfl⟩:=dp;exact RcAt.str_list x t h1' hd
   |_=>first|exact absurd hf Bool.false_ne_true|exact absurd hp Bool.false_ne_true
  |_=>first|exact absurd hfq.symm Bool.false_ne_true|exact absurd hq Bool.false_ne_true
theorem uh {s:Shared}{p q:PV}{A:Around}{u v:Value}(hp:plain p=true)(hq:plain q=true)(d:Dv s p u)(d':Dv s q v)(hd:A.units<cLine)(rc:RcAt A s u v (iT p q)):EqAt A s u v (iT p q):=by
 by_cases h:u=v
 ·subst h
  obtain rfl:=Dv.inj hp hq d d'
  rw[lF hp]
  exact EqAt.same _
 ·intro prog w E Q hQ
  unfold eqBool
  refine wpAny_holding ?_
  refine wpAny_ite_split (fun hab=>absurd (eq_of_beq hab) h) (fun _=>?_)
  have nf:∀b t,u≠Value.float b t:=fun b t e=>by
   subst e
   cases p with
   |tup ps=>obtain⟨_,_,e,_⟩:=d;cases e
   |lst ps=>obtain⟨_,_,e,_⟩:=d;cases e
   |non=>cases (show _=Value.none from d)
   |bl x=>cases (show _=Value.bool x from d)
   |int x=>obtain⟨_,e⟩:=d;cases e
   |str x=>obtain⟨_,e⟩:=d;cases e
   |_=>exact absurd hp Bool.false_ne_true
  cases u with
  |float b t=>exact absurd rfl (nf b t)
  |_=>exact wpAny_bind (rc prog w E _ (wpAny_truthy_bool hQ))
mutual
theorem Gw {s:Shared}:∀{p q:PV} {A:Around} {u v:Value},plain p=true->plain q=true->A.units+kr p+1<cLine->Dv s p u->Dv s q v->RcAt A s u v (iT p q)
 |.tup ps,q,A,_,v,hp,hq,hd,⟨a,its,e,h1,h2⟩,d=>by
  subst e
  have l1:=h2.length
  cases q with
  |tup qs=>
   obtain⟨b,its2,e',h1',h2'⟩:=d
   subst e'
   have l2:=h2'.length
   have:=RcAt.tuples (A:=A) (s:=s) (e:=fun j=>iT (ps.getD j .non) (qs.getD j .non)) h1 h1' (by omega) (fun j k1 k2=>tG (ps:=ps) (qs:=qs) hp hq (by rw[kr] at hd;show A.units+1+cz ps+1<cLine;omega) h2 h2' j (by simp at k1;omega) (by simp at k2;omega) (by simpa using k1) (by simpa using k2))
   rw[List.size_toArray,List.size_toArray,l1,l2,iq] at this
   exact this
  |lst qs=>obtain⟨b,its2,e',h1',h2'⟩:=d;subst e';exact RcAt.tuple_list h1 h1' (by omega)
  |non=>cases (show _=Value.none from d);exact RcAt.tuple_none h1 (by omega)
  |bl b=>cases (show _=Value.bool b from d);exact RcAt.tuple_bool b h1 (by omega)
  |int b=>obtain⟨t,rfl⟩:=d;exact RcAt.tuple_int b t h1 (by omega)
  |str b=>obtain⟨t,rfl⟩:=d;exact RcAt.tuple_str b t h1 (by omega)
  |_=>exact absurd hq Bool.false_ne_true
 |.lst ps,q,A,_,v,hp,hq,hd,⟨a,its,e,h1,h2⟩,d=>by
  subst e
  have l1:=h2.length
  cases q with
  |lst qs=>
   obtain⟨b,its2,e',h1',h2'⟩:=d
   subst e'
   have l2:=h2'.length
   by_cases hl:ps.length=qs.length
   ·have:=RcAt.lists (A:=A) (s:=s) (e:=fun j=>iT (ps.getD j .non) (qs.getD j .non)) h1 h1' (by simp;omega) (by omega) (fun j k1 k2=>tG (ps:=ps) (qs:=qs) hp hq (by rw[kr] at hd;show A.units+1+cz ps+1<cLine;omega) h2 h2' j (by simp at k1;omega) (by simp at k2;omega) (by simpa using k1) (by simpa using k2))
    rw[List.size_toArray,l1,mL hl] at this
    exact this
   ·have:=RcAt.lists_lengths (A:=A) (s:=s) h1 h1' (by simp;omega) (by omega)
    rw[←nP hl] at this
    exact this
  |tup qs=>obtain⟨b,its2,e',h1',h2'⟩:=d;subst e';exact RcAt.list_tuple h1 h1' (by omega)
  |non=>cases (show _=Value.none from d);exact RcAt.list_none h1 (by omega)
  |bl b=>cases (show _=Value.bool b from d);exact RcAt.list_bool b h1 (by omega)
  |int b=>obtain⟨t,rfl⟩:=d;exact RcAt.list_int b t h1 (by omega)
  |str b=>obtain⟨t,rfl⟩:=d;exact RcAt.list_str b t h1 (by omega)
  |_=>exact absurd hq Bool.false_ne_true
 |.non,q,A,u,v,hp,hq,hd,d,d'=>ww (p:=.non) rfl hp hq (by omega) d d'
 |.bl x,q,A,u,v,hp,hq,hd,d,d'=>ww (p:=.bl x) rfl hp hq (by omega) d d'
 |.int x,q,A,u,v,hp,hq,hd,d,d'=>ww (p:=.int x) rfl hp hq (by omega) d d'
 |.str x,q,A,u,v,hp,hq,hd,d,d'=>ww (p:=.str x) rfl hp hq (by omega) d d'
 |.ty _,_,_,_,_,h,_,_,_,_=>absurd h Bool.false_ne_true
 |.fn _,_,_,_,_,h,_,_,_,_=>absurd h Bool.false_ne_true
 |.dct _ _,_,_,_,_,h,_,_,_,_=>absurd h Bool.false_ne_true
 |.src _,_,_,_,_,h,_,_,_,_=>absurd h Bool.false_ne_true
 |.ktu _,_,_,_,_,h,_,_,_,_=>absurd h Bool.false_ne_true
 |.rng _ _,_,_,_,_,h,_,_,_,_=>absurd h Bool.false_ne_true
theorem tG {s:Shared}:∀{ps qs:List PV} {A:Around} {us vs:List Value},aL ps=true->aL qs=true->A.units+cz ps+1<cLine->Dvs s ps us->Dvs s qs vs →
  ∀(j:Nat),j<ps.length->j<qs.length->(h1:j<us.length)->(h2:j<vs.length)->EqAt A s us[j] vs[j] (iT (ps.getD j .non) (qs.getD j .non))
 |[],_,_,_,_,_,_,_,_,_,_,h,_,_,_=>absurd h (Nat.not_lt_zero _)
 |p::ps,qs,A,_,_,hp,hq,hd,⟨u,r,e,d1,d2⟩,d',j,k1,k2,h1,h2=>by
  subst e
  cases qs with
  |nil=>exact absurd k2 (Nat.not_lt_zero _)
  |cons q qs=>
   obtain⟨v,r',e',d1',d2'⟩:=d'
   subst e'
   rw[aL,Bool.and_eq_true] at hp hq
   rw[cz] at hd
   cases j with
   |zero=>
    show EqAt A s u v (iT p q)
    have rc:=Gw (p:=p) (q:=q) (A:=A) hp.1 hq.1 (by omega) d1 d1'
    exact uh hp.1 hq.1 d1 d1' (by omega) rc
   |succ j=>
    simp only[List.length_cons] at k1 k2 h1 h2
    have:=tG (ps:=ps) (qs:=qs) (A:=A) hp.2 hq.2 (by omega) d2 d2' j (by omega) (by omega) (by omega) (by omega)
    simpa using this
end
end Pu
end
section
namespace Pu
open PySem PySem.Spec L2 PySem.SeqAt
theorem K2 {s:Shared}{p q:PV}{A:Around}{u v:Value}(hp:plain p=true)(hq:plain q=true)(hd:A.units+kr p+1<cLine)(d:Dv s p u)(d':Dv s q v):RcNeAt A s u v (!iT p q):=by
 have hu:A.units<cLine:=by omega
 by_cases hf:cZ p=true
 ·rw[tw hf]
  have dp:=d.flat' hf
  cases hfq:cZ q with
  |true=>rw[Bool.true_and];exact Dn dp (d'.flat' hfq) (kY hf hp) (kY hfq hq)
  |false=>
   rw[Bool.false_and]
   cases q with
   |tup qs=>
    obtain⟨b,its2,e',h1',h2'⟩:=d'
    subst e'
    cases p with
    |non=>cases dp;exact RcNeAt.none_tuple h1' hu
    |bl x=>cases dp;exact RcNeAt.bool_tuple x h1' hu
    |int x=>obtain⟨t,rfl⟩:=dp;exact RcNeAt.int_tuple x t h1' hu
    |str x=>obtain⟨t,rfl⟩:=dp;exact RcNeAt.str_tuple x t h1' hu
    |_=>first|exact absurd hf Bool.false_ne_true|exact absurd hp Bool.false_ne_true
   |lst qs=>
    obtain⟨b,its2,e',h1',h2'⟩:=d'
    subst e'
    cases p with
    |non=>cases dp;exact RcNeAt.none_list h1' hu
    |bl x=>cases dp;exact RcNeAt.bool_list x h1' hu
    |int x=>obtain⟨t,rfl⟩:=dp;exact RcNeAt.int_list x t h1' hu
    |str x=>obtain⟨t,rfl⟩:=dp;exact RcNeAt.str_list x t h1' hu
    |_=>first|exact absurd hf Bool.false_ne_true|exact absurd hp Bool.false_ne_true
   |_=>first|exact absurd hfq.symm Bool.false_ne_true|exact absurd hq Bool.false_ne_true
 ·cases p with
  |tup ps=>
   obtain⟨a,its,e,h1,h2⟩:=d
   subst e
   have l1:=h2.length
   cases q with
   |tup qs=>
    obtain⟨b,its2,e',h1',h2'⟩:=d'
    subst e'
    have l2:=h2'.length
    have:=RcNeAt.tuples (A:=A) (s:=s) (e:=fun j=>iT (ps.getD j .non) (qs.getD j .non)) h1 h1' (by omega) (fun j k1 k2=>tG (ps:=ps) (qs:=qs) hp hq (by rw[kr] at hd;show A.units+1+cz ps+1<cLine;omega) h2 h2' j (by simp at k1;omega) (by simp at k2;omega) (by simpa using k1) (by simpa using k2))
    rw[List.size_toArray,List.size_toArray,l1,l2,iq] at this
    exact this
   |lst qs=>obtain⟨b,its2,e',h1',h2'⟩:=d';subst e';exact RcNeAt.tuple_list h1 h1' hu
   |non=>cases (show _=Value.none from d');exact RcNeAt.tuple_none h1 hu
   |bl b=>cases (show _=Value.bool b from d');exact RcNeAt.tuple_bool b h1 hu
   |int b=>obtain⟨t,rfl⟩:=d';exact RcNeAt.tuple_int b t h1 hu
   |str b=>obtain⟨t,rfl⟩:=d';exact RcNeAt.tuple_str b t h1 hu
   |_=>exact absurd hq Bool.false_ne_true
  |lst ps=>
   obtain⟨a,its,e,h1,h2⟩:=d
   subst e
   have l1:=h2.length
   cases q with
   |lst qs=>
    obtain⟨b,its2,e',h1',h2'⟩:=d'
    subst e'
    have l2:=h2'.length
    by_cases hl:ps.length=qs.length
    ·have:=RcNeAt.lists (A:=A) (s:=s) (e:=fun j=>iT (ps.getD j .non) (qs.getD j .non)) h1 h1' (by simp;omega) (by omega) (fun j k1 k2=>tG (ps:=ps) (qs:=qs) hp hq (by rw[kr] at hd;show A.units+1+cz ps+1<cLine;omega) h2 h2' j (by simp at k1;omega) (by simp at k2;omega) (by simpa using k1) (by simpa using k2))
     rw[List.size_toArray,l1,mL hl] at this
     exact this
    ·have:=RcNeAt.lists_lengths (A:=A) (s:=s) h1 h1' (by simp;omega) (by omega)
     rw[show true=!iQ ps qs by rw[nP hl];rfl] at this
     exact this
   |tup qs=>obtain⟨b,its2,e',h1',h2'⟩:=d';subst e';exact RcNeAt.list_tuple h1 h1' hu
   |non=>cases (show _=Value.none from d');exact RcNeAt.list_none h1 hu
   |bl b=>cases (show _=Value.bool b from d');exact RcNeAt.list_bool b h1 hu
   |int b=>obtain⟨t,rfl⟩:=d';exact RcNeAt.list_int b t h1 hu
   |str b=>obtain⟨t,rfl⟩:=d';exact RcNeAt.list_str b t h1 hu
   |_=>exact absurd hq Bool.false_ne_true
  |_=>first|exact absurd rfl hf|exact absurd hp Bool.false_ne_true
section
variable {X:Cx}{a b c e:Expr}{pos:Pos}{ta tb te:gQ}
noncomputable def Cz (K:PySem.W.Frag)(f:Bool->Bool):R2:=fun x y H Q=>∃F p q,Same F H/\RdV K F H p x/\RdV K F H q y/\plain p=true/\plain q=true/\kr p≤50/\Q (.bl (f (iT p q))) H
theorem Ho (hu:X.A.units+64<cLine):kj X (compareOp .Eq) (Cz X.K id):=by
 intro pins s σ H x y v u Q I rx ry ⟨F,p,q,sf,r1,r2,hp,hq,hd,k⟩
 exact Gw (A:=X.A) hp hq (by omega) (p6 I sf hp r1 rx) (p6 I sf hq r2 ry) _ _ _ _ ⟨.bl _,H,I,rfl,k⟩
theorem HG (hu:X.A.units+64<cLine):kj X (compareOp .NotEq) (Cz X.K (!·)):=by
 intro pins s σ H x y v u Q I rx ry ⟨F,p,q,sf,r1,r2,hp,hq,hd,k⟩
 exact K2 (A:=X.A) hp hq (by omega) (p6 I sf hp r1 rx) (p6 I sf hq r2 ry) _ _ _ _ ⟨.bl _,H,I,rfl,k⟩
noncomputable def Ml:kc:=fun x y Q=>plain x=true/\plain y=true/\kr x≤50/\Q (.bl (iT x y))
noncomputable def Nm:kc:=fun x y Q=>plain x=true/\plain y=true/\kr x≤50/\Q (.bl (!iT x y))
theorem ID:h7 X.K (Cz X.K id) Ml:=fun F H x y p q Qp Q s rx ry h k=>⟨F,p,q,s,rx,ry,h.1,h.2.1,h.2.2.1,k _ _ F H h.2.2.2 (.refl s) rfl⟩
theorem IY:h7 X.K (Cz X.K (!·)) Nm:=fun F H x y p q Qp Q s rx ry h k=>⟨F,p,q,s,rx,ry,h.1,h.2.1,h.2.2.1,k _ _ F H h.2.2.2 (.refl s) rfl⟩
open Classical in
noncomputable def EB (s:Shared)(q:PV)(u:Value):Bool:=if h:∃p,plain p=true/\Dv s p u then iT h.choose q else false
theorem yS {s:Shared}{q p:PV}{u:Value}(hp:plain p=true)(d:Dv s p u):EB s q u=iT p q:=by
 have h:∃p,plain p=true/\Dv s p u:=⟨p,hp,d⟩
 unfold EB
 rw[dif_pos h,Dv.inj h.choose_spec.1 hp h.choose_spec.2 d]
theorem lJ {s:Shared}{q:PV}:∀{ps:List PV} {us:List Value},aL ps=true->Dvs s ps us->us.any (EB s q)=ps.any fun p=>iT p q
 |[],_,_,h=>by rw[show _=[] from h];rfl
 |p::ps,_,hp,⟨u,r,e,d1,d2⟩=>by
  subst e
  rw[aL,Bool.and_eq_true] at hp
  rw[List.any_cons,List.any_cons,yS hp.1 d1,lJ hp.2 d2]
theorem lw {s:Shared}{A:Around}{q:PV}{v:Value}(hq:plain q=true)(dq:Dv s q v):∀{ps:List PV} {us:List Value},aL ps=true->A.units+cz ps+1<cLine->Dvs s ps us->∀u∈us,EqAt A s u v (EB s q u)
 |[],_,_,_,h,u,hu=>by rw[show _=[] from h] at hu;cases hu
 |p::ps,_,hp,hd,⟨u',r,e,d1,d2⟩,u,hu=>by
  subst e
  rw[aL,Bool.and_eq_true] at hp
  rw[cz] at hd
  rcases List.mem_cons.mp hu with rfl|hu
  ·rw[yS hp.1 d1]
   exact uh hp.1 hq d1 dq (by omega) (Gw hp.1 hq (by omega) d1 dq)
  ·exact lw hq dq hp.2 (by omega) d2 u hu
noncomputable def pin (x:PV)(ps:List PV):Bool:=ps.any fun p=>iT p x
noncomputable def Bi (K:PySem.W.Frag)(f:Bool->Bool):R2:=fun x y H Q=>∃F q a vs ps,y=.ref a/\Same F H/\RdV K F H q x/\(SqL K H a vs\/SqT K H a vs)/\Reps K F ps vs/\plain q=true/\aL ps=true/\cz ps≤50/\Q (.bl (f (pin q ps))) H
theorem Id (hu:X.A.units+64<cLine):kj X (compareOp .In) (Bi X.K id):=by
 intro pins s σ H x y v u Q I rx ry ⟨F,q,a,vs,ps,ey,sf,rq,hs,rs,hq,hp,hd,k⟩
 subst ey
 cases ry
 have dq:=p6 I sf hq rq rx
 rcases hs with hs|hs
 ·obtain⟨its,rv,pl,hz⟩:=I.list hs
  have ds:=jS I sf hp rs rv
  refine in_listAt (EB s q) pl.isList (fun y hy=>lw hq dq hp (by show X.A.units+1+cz ps+1<cLine;omega) ds y (by simpa using hy)) ?_
  rw[List.any_toArray,lJ hp ds]
  exact⟨.bl _,H,I,rfl,k⟩
 ·obtain⟨its,rv,pl,hz⟩:=I.tuple hs
  have ds:=jS I sf hp rs rv
  refine in_tupleAt (EB s q) pl (fun y hy=>lw hq dq hp (by show X.A.units+1+cz ps+1<cLine;omega) ds y (by simpa using hy)) ?_
  rw[List.any_toArray,lJ hp ds]
  exact⟨.bl _,H,I,rfl,k⟩
theorem wU (hu:X.A.units+64<cLine):kj X (compareOp .NotIn) (Bi X.K (!·)):=by
 intro pins s σ H x y v u Q I rx ry ⟨F,q,a,vs,ps,ey,sf,rq,hs,rs,hq,hp,hd,k⟩
 subst ey
 cases ry
 have dq:=p6 I sf hq rq rx
 rcases hs with hs|hs
 ·obtain⟨its,rv,pl,hz⟩:=I.list hs
  have ds:=jS I sf hp rs rv
  refine notIn_listAt (EB s q) pl.isList (fun y hy=>lw hq dq hp (by show X.A.units+1+cz ps+1<cLine;omega) ds y (by simpa using hy)) ?_
  rw[List.any_toArray,lJ hp ds]
  exact⟨.bl _,H,I,rfl,k⟩
 ·obtain⟨its,rv,pl,hz⟩:=I.tuple hs
  have ds:=jS I sf hp rs rv
  refine notIn_tupleAt (EB s q) pl (fun y hy=>lw hq dq hp (by show X.A.units+1+cz ps+1<cLine;omega) ds y (by simpa using hy)) ?_
  rw[List.any_toArray,lJ hp ds]
  exact⟨.bl _,H,I,rfl,k⟩
noncomputable def Mf:kc:=fun x y Q=>OkS y fun ps=>plain x=true/\aL ps=true/\cz ps≤50/\Q (.bl (pin x ps))
noncomputable def Aq:kc:=fun x y Q=>OkS y fun ps=>plain x=true/\aL ps=true/\cz ps≤50/\Q (.bl (!pin x ps))
theorem JX:h7 X.K (Bi X.K id) Mf:=fun F H x y p q Qp Q s rx ry h k=>by
 obtain⟨a,vs,ps,rfl,hs,_,rs,h⟩:=OkS.rd h s ry
 exact⟨F,p,a,vs,ps,rfl,s,rx,hs,rs,h.1,h.2.1,h.2.2.1,k _ _ F H h.2.2.2 (.refl s) rfl⟩
theorem Ax:h7 X.K (Bi X.K (!·)) Aq:=fun F H x y p q Qp Q s rx ry h k=>by
 obtain⟨a,vs,ps,rfl,hs,_,rs,h⟩:=OkS.rd h s ry
 exact⟨F,p,a,vs,ps,rfl,s,rx,hs,rs,h.1,h.2.1,h.2.2.1,k _ _ F H h.2.2.2 (.refl s) rfl⟩
end
end Pu
end
section
namespace Pu
open PySem PySem.Spec L2
section
variable {X:Cx}{a b c e:Expr}{pos:Pos}{ta tb te:gQ}{t:jC}
noncomputable abbrev wk:=List PV->(PV->Prop)->Prop
noncomputable abbrev FN:=List PV->(List PV->Prop)->Prop
noncomputable def m5 (K:PySem.W.Frag)(r:List V->Hp->VK->Prop)(g:wk):Prop:=∀F H xs ps (Qp:PV->Prop) (Q:VK),Same F H->RdVs K F H ps xs->g ps Qp->(∀z v F' H',Qp z->Grow F H F' H'->Rep K F' z v->Q v H')->r xs H Q
noncomputable def AM (K:PySem.W.Frag)(r:List V->Hp->VK->Prop)(g:FN):Prop:=∀F H xs ps (Qp:List PV->Prop) (Q:VK),Same F H->RdVs K F H ps xs->g ps Qp->(∀zs a vs F' H',Qp zs->Grow F H F' H'->H a=none->F' a=none->H' a=some (.lst vs)->Reps K F' zs vs->Q (.ref a) H')->r xs H Q
noncomputable def MN (g:wk)(t:jC):gQ:=fun ρ Q=>t ρ fun ps=>g ps Q
noncomputable def Nh (g:FN)(t:jC):uk:=fun ρ Q=>t ρ fun ps=>g ps Q
theorem Jc {r:List V->Hp->VK->Prop}{g:wk}(hr:m5 X.K r g)(h:PE X e (kl r (lAT X.K t))):hG X e (MN g t):=PE.weak h fun σ H Q hh_=>hh_.elim fun F ρ Qp er q k=>⟨F,ρ,_,er,q,fun ps vs F1 H1 h1 g1 r1=>
 hr F1 H1 vs ps Qp Q g1.fh r1 h1 fun z v F2 H2 h2 g2 r2=>k z v F2 H2 h2 (g1.trans g2) r2⟩
theorem yT {r:List V->Hp->VK->Prop}{g:FN}(hr:AM X.K r g)(h:PE X e (kl r (lAT X.K t))):vK X e (Nh g t):=PE.weak h fun σ H Q hh_=>hh_.elim fun F ρ Qp er q k=>⟨F,ρ,_,er,q,fun ps vs F1 H1 h1 g1 r1=>
 hr F1 H1 vs ps Qp Q g1.fh r1 h1 fun zs a vs F2 H2 h2 g2 h0 hF hH r2=>k zs a vs F2 H2 h2 (g1.trans g2) (g1.hh.free h0) hF hH r2⟩
noncomputable def One (ps:List PV)(Q:PV->Prop):Prop:=match ps with
 |[p]=>Q p
 |_=>False
noncomputable def Two (ps:List PV)(Q:PV->PV->Prop):Prop:=match ps with
 |[p,q]=>Q p q
 |_=>False
theorem One.rd {K:PySem.W.Frag}{F H:Hp}{ps:List PV}{xs:List V}{Q:PV->Prop}(h:One ps Q)(r:RdVs K F H ps xs):∃p v,ps=[p]/\xs=[v]/\RdV K F H p v/\Q p:=by
 unfold One at h
 split at h
 ·cases r with
  |cons r1 r2=>cases r2;exact⟨_,_,rfl,rfl,r1,h⟩
 ·exact h.elim
theorem Two.rd {K:PySem.W.Frag}{F H:Hp}{ps:List PV}{xs:List V}{Q:PV->PV->Prop}(h:Two ps Q)(r:RdVs K F H ps xs):∃p v p2 v2,ps=[p,p2]/\xs=[v,v2]/\RdV K F H p v/\RdV K F H p2 v2/\Q p p2:=by
 unfold Two at h
 split at h
 ·cases r with
  |cons r1 r2=>cases r2 with
   |cons r2 r3=>cases r3;exact⟨_,_,_,_,rfl,rfl,r1,r2,h⟩
 ·exact h.elim
noncomputable def IU:wk:=fun ps Q=>One ps fun p=>match p with
 |.str z=>z.length≤sizeLine/\Q (.int z.length)
 |p=>OkS p fun ps=>Q (.int ps.length)
theorem fY:m5 X.K (fun xs H Q=>∃x n,xs=[x]/\Ke X.K x H n/\Q (.int n) H) IU:=fun F H xs ps Qp Q s r h k=>by
 obtain⟨p,v,rfl,rfl,r,h⟩:=h.rd r
 by_cases hz:∃z,p=.str z
 ·obtain⟨z,rfl⟩:=hz
  cases r with
  |frz r=>cases (show v=.str z from r);exact⟨_,z.length,rfl,⟨h.1,rfl⟩,k _ _ F H h.2 (.refl s) rfl⟩
 ·have h':OkS p fun ps=>Qp (.int ps.length):=by
   cases p<;>first|exact h|exact absurd ⟨_,rfl⟩ hz
  obtain⟨a,vs,ps,rfl,hs,_,rs,h⟩:=h'.rd s r
  refine⟨_,vs.length,rfl,?_,k _ _ F H h (.refl s) (by rw[rs.length];rfl)⟩
  rcases hs with hs|hs
  ·exact .inl ⟨vs,hs,rfl⟩
  ·exact .inr ⟨vs,hs,rfl⟩
noncomputable def Jt:wk:=fun ps Q=>One ps fun p=>OkI p fun i=>Q (.int (if i<0 then -i else i))
theorem Hz:m5 X.K (fun xs H Q=>∃i,xs=[.int i]/\Q (.int (if i<0 then -i else i)) H) Jt:=fun F H xs ps Qp Q s r h k=>by
 obtain⟨p,v,rfl,rfl,r,h⟩:=h.rd r
 obtain⟨i,rfl,rfl,h⟩:=h.rd r
 exact⟨i,rfl,k _ _ F H h (.refl s) rfl⟩
noncomputable def Em:wk:=fun ps Q=>Two ps fun p q=>OkI p fun i=>OkI q fun j=>Q (.int (if j > i then j else i))
theorem D4:m5 X.K (fun xs H Q=>∃i j,xs=[.int i,.int j]/\Q (.int (if j > i then j else i)) H) Em:=fun F H xs ps Qp Q s r h k=>by
 obtain⟨p,v,p2,v2,rfl,rfl,r,r2,h⟩:=h.rd r
 obtain⟨i,rfl,rfl,h⟩:=h.rd r
 obtain⟨j,rfl,rfl,h⟩:=h.rd r2
 exact⟨i,j,rfl,k _ _ F H h (.refl s) rfl⟩
noncomputable def Er:wk:=fun ps Q=>Two ps fun p q=>OkI p fun i=>OkI q fun j=>Q (.int (if j<i then j else i))
theorem qS:m5 X.K (fun xs H Q=>∃i j,xs=[.int i,.int j]/\Q (.int (if j<i then j else i)) H) Er:=fun F H xs ps Qp Q s r h k=>by
 obtain⟨p,v,p2,v2,rfl,rfl,r,r2,h⟩:=h.rd r
 obtain⟨i,rfl,rfl,h⟩:=h.rd r
 obtain⟨j,rfl,rfl,h⟩:=h.rd r2
 exact⟨i,j,rfl,k _ _ F H h (.refl s) rfl⟩
noncomputable def Ju:wk:=fun ps Q=>One ps fun p=>match p with
 |.bl k=>Q (.int (if k then 1 else 0))
 |p=>OkI p fun i=>Q (.int i)
theorem uN:m5 X.K (fun xs H Q=>(∃i,xs=[.int i]/\Q (.int i) H)\/∃k,xs=[.bl k]/\Q (.int (if k then 1 else 0)) H) Ju:=fun F H xs ps Qp Q s r h k=>by
 obtain⟨p,v,rfl,rfl,r,h⟩:=h.rd r
 by_cases hz:∃z,p=.bl z
 ·obtain⟨z,rfl⟩:=hz
  obtain⟨b,e,rfl,h⟩:=OkB.rd (p:=.bl z) (Q:=fun z=>Qp (.int (if z then 1 else 0))) h r
  exact .inr ⟨b,rfl,k _ _ F H h (.refl s) rfl⟩
 ·have h':OkI p fun i=>Qp (.int i):=by
   cases p<;>first|exact h|exact absurd ⟨_,rfl⟩ hz
  obtain⟨i,rfl,rfl,h⟩:=h'.rd r
  exact .inl ⟨i,rfl,k _ _ F H h (.refl s) rfl⟩
noncomputable def OkBs:List PV->(List Bool->Prop)->Prop
 |[],Q=>Q []
 |p::ps,Q=>OkB p fun b=>OkBs ps fun bs=>Q (b::bs)
theorem zx (bs:List Bool)(Q:List Bool->Prop):OkBs (bs.map PV.bl) Q=Q bs:=by
 induction bs generalizing Q with
 |nil=>rfl
 |cons b r ih=>
  show OkBs (r.map PV.bl) (fun bs=>Q (b::bs))=_
  rw[ih]
theorem OkBs.rd {K:PySem.W.Frag}{F:Hp}:∀{ps:List PV} {vs:List V} {Q:List Bool->Prop},OkBs ps Q->Reps K F ps vs->∃bs,vs=bs.map V.bl/\ps=bs.map PV.bl/\Q bs
 |[],_,_,h,r=>⟨[],r,rfl,h⟩
 |p::ps,_,Q,h,⟨v,t,e,r1,r2⟩=>by
  subst e
  obtain⟨b,rfl,rfl,h⟩:=OkB.rd (H:=F) h (.frz r1)
  obtain⟨bs,rfl,rfl,h'⟩:=OkBs.rd h r2
  exact⟨b::bs,rfl,rfl,h'⟩
noncomputable def JQ:wk:=fun ps Q=>One ps fun p=>OkL p fun ps=>OkBs ps fun bs=>Q (.bl (bs.all id))
theorem vi:m5 X.K (fun xs H Q=>∃(p:Addr) (bs:List Bool),xs=[.ref p]/\SqL X.K H p (bs.map V.bl)/\Q (.bl (bs.all id)) H) JQ:=fun F H xs ps Qp Q s r h k=>by
 obtain⟨p,v,rfl,rfl,r,h⟩:=h.rd r
 obtain⟨a,vs,ps,rfl,hs,rs,h⟩:=h.rd s r
 obtain⟨bs,rfl,rfl,h'⟩:=h.rd rs
 exact⟨a,bs,rfl,hs,k (.bl _) _ F H h' (.refl s) rfl⟩
noncomputable def Kq:wk:=fun ps Q=>One ps fun p=>match p with
 |.tup ps=>Q (.tup ps)
 |p=>OkL p fun ps=>Q (.tup ps)
theorem kX:m5 X.K (fun xs H Q=>∃p ys,xs=[.ref p]/\((SqL X.K H p ys/\∀l,H l=none->Q (.ref l) (upd H l (.tup ys)))\/(SqT X.K H p ys/\Q (.ref p) H))) Kq:=fun F H xs ps Qp Q s r h k=>by
 obtain⟨p,v,rfl,rfl,r,h⟩:=h.rd r
 by_cases hz:∃z,p=.tup z
 ·obtain⟨z,rfl⟩:=hz
  cases r with
  |frz r=>
   obtain⟨a,vs,rfl,e,rs⟩:=r
   exact⟨a,vs,rfl,.inr ⟨SqT.of (s _ _ e),k _ _ F H h (.refl s) ⟨a,vs,rfl,e,rs⟩⟩⟩
 ·have h':OkL p fun ps=>Qp (.tup ps):=by
   cases p<;>first|exact h|exact absurd ⟨_,rfl⟩ hz
  obtain⟨a,vs,ps,rfl,hs,rs,h⟩:=h'.rd s r
  exact⟨a,vs,rfl,.inl ⟨hs,fun l hl=>k _ _ _ _ h (.new s hl _) ⟨l,vs,rfl,aw,rs.mono (b0 (s.free hl) _)⟩⟩⟩
noncomputable def Ki:FN:=fun ps Q=>One ps fun p=>OkS p Q
theorem ES:AM X.K (fun xs H Q=>∃p ys,xs=[.ref p]/\(SqL X.K H p ys\/SqT X.K H p ys)/\∀l,H l=none->Q (.ref l) (upd H l (.lst ys))) Ki:=fun F H xs ps Qp Q s r h k=>by
 obtain⟨p,v,rfl,rfl,r,h⟩:=h.rd r
 obtain⟨a,vs,ps,rfl,hs,_,rs,h⟩:=h.rd s r
 exact⟨a,vs,rfl,hs,fun l hl=>k ps l vs F _ h (.newO s hl _) hl (s.free hl) aw rs⟩
noncomputable def sq (lo:Int)(n:Nat):List PV:=(List.range n).map fun i:Nat=>PV.int (lo+i)
theorem md {K:PySem.W.Frag}{F:Hp}:∀(l:List Nat),Reps K F (l.map fun i:Nat=>PV.int (0+i)) (l.map fun i:Nat=>V.int (i:Int))
 |[]=>rfl
 |x::l=>⟨_,_,rfl,by show Rep K F (PV.int (0+(x:Int))) (V.int x);rw[Int.zero_add];rfl,md l⟩
noncomputable def Kj:wk:=fun ps Q=>One ps fun p=>OkI p fun j=>-(2 ^ 62)≤j/\j<2 ^ 62/\Q (.rng 0 j)
theorem Fq:m5 X.K Eh Kj:=fun F H xs ps Qp Q s r h k=>by
 obtain⟨p,v,rfl,rfl,r,h⟩:=h.rd r
 obtain⟨j,rfl,rfl,h1,h2,h⟩:=h.rd r
 exact⟨j,rfl,h1,h2,fun p hp=>k _ _ _ _ h (.new s hp _) ⟨p,rfl,aw⟩⟩
noncomputable def Me:PV->(Int->Prop)->Prop
 |.rng lo j,Q=>lo=0/\Q j
 |_,_=>False
noncomputable def Ey:FN:=fun ps Q=>One ps fun p=>Me p fun j=>0≤j/\j≤1000000/\Q (sq 0 j.toNat)
theorem D8:AM X.K (fun xs H Q=>∃p j,xs=[.ref p]/\H p=some (.rng 0 j)/\0≤j/\j≤1000000/\∀l,H l=none->Q (.ref l) (upd H l (.lst (nA j.toNat)))) Ey:=fun F H xs ps Qp Q s r h k=>by
 obtain⟨p,v,rfl,rfl,r,h⟩:=h.rd r
 cases p<;>first|exact h.elim|skip
 obtain⟨rfl,h1,h2,h⟩:=h
 cases r with
 |frz r=>
  obtain⟨a,rfl,e⟩:=r
  exact⟨a,_,rfl,s _ _ e,h1,h2,fun l hl=>k _ l _ F _ h (.newO s hl _) hl (s.free hl) aw (md _)⟩
noncomputable def KM (n:String):PV->Option Bool
 |.non=>some false
 |.bl _=>some (n == "bool" || n == "int")
 |.int _=>some (n == "int")
 |.str _=>some (n == "str")
 |.tup _=>some (n == "tuple")
 |.lst _=>some (n == "list")
 |.dct _ _=>some (n == "dict")
 |_=>none
noncomputable def KS:PV->(String->Prop)->Prop
 |.ty n,Q=>Q n
 |_,_=>False
noncomputable def Jn:wk:=fun ps Q=>Two ps fun p q=>KS q fun n=>(n = "int"\/n = "bool"\/n = "str"\/n = "tuple"\/n = "list"\/n = "dict")/\OkO (KM n p) fun b=>Q (.bl b)
theorem lQ:m5 X.K (fun xs H Q=>∃x n t b,xs=[x,.ty n]/\TyOf X.K H x t/\PySem.W.kitOne X.K t (.type n)=some b/\Q (.bl b) H) Jn:=fun F H xs ps Qp Q s r h k=>by
 obtain⟨p,v,p2,v2,rfl,rfl,r1,r2,h⟩:=h.rd r
 clear r
 obtain⟨n,rfl,hn,h⟩:∃n,p2=.ty n/\(n = "int"\/n = "bool"\/n = "str"\/n = "tuple"\/n = "list"\/n = "dict")/\OkO (KM n p) fun b=>Qp (.bl b):=by
  cases p2 with
  |ty n=>exact⟨n,rfl,h⟩
  |_=>exact h.elim
 obtain⟨b,e,h⟩:=h.ex
 cases r2 with
 |frz r2=>
  cases (show v2=.ty n from r2)
  have fin:∀t,TyOf X.K H v t->PySem.W.kitOne X.K t (.type n)=some b->∃x n' t b,[v,V.ty n]=[x,.ty n']/\TyOf X.K H x t/\PySem.W.kitOne X.K t (.type n')=some b/\Q (.bl b) H:=fun t h1 h2=>⟨v,n,t,b,rfl,h1,h2,k _ _ F H h (.refl s) rfl⟩
  cases r1 with
  |frz r=>
   cases p with
   |non=>cases (show v=_ from r);refine fin _ .non ?_;rcases hn with rfl|rfl|rfl|rfl|rfl|rfl<;>exact e
   |bl x=>cases (show v=_ from r);refine fin _ (.bl x) ?_;rcases hn with rfl|rfl|rfl|rfl|rfl|rfl<;>exact e
   |int x=>cases (show v=_ from r);refine fin _ (.int x) ?_;rcases hn with rfl|rfl|rfl|rfl|rfl|rfl<;>exact e
   |str x=>cases (show v=_ from r);refine fin _ (.str x) ?_;rcases hn with rfl|rfl|rfl|rfl|rfl|rfl<;>exact e
   |tup x=>obtain⟨a,vs,rfl,e',_⟩:=r;refine fin _ (.tup (s _ _ e')) ?_;rcases hn with rfl|rfl|rfl|rfl|rfl|rfl<;>exact e
   |lst x=>obtain⟨a,vs,rfl,e',_⟩:=r;refine fin _ (.lst (s _ _ e')) ?_;rcases hn with rfl|rfl|rfl|rfl|rfl|rfl<;>exact e
   |dct x y=>obtain⟨a,vs,rfl,e',_⟩:=r;refine fin _ (.dK (s _ _ e')) ?_;rcases hn with rfl|rfl|rfl|rfl|rfl|rfl<;>exact e
   |_=>cases e
  |own h1 h2 h3=>refine fin _ (.lst h1) ?_;rcases hn with rfl|rfl|rfl|rfl|rfl|rfl<;>exact e
  |dic h1 h2 h3 h4=>refine fin _ (.dK h1) ?_;rcases hn with rfl|rfl|rfl|rfl|rfl|rfl<;>exact e
end
end Pu
end
section
namespace Pu
open PySem PySem.Spec L2
noncomputable abbrev ul:=PV->ay->(ay->Prop)->Prop
noncomputable abbrev rG:=List PV->ay->(ay->Prop)->Prop
inductive VUpd (K:PySem.W.Frag) (F:Hp):L2.St->ay->L2.St->ay->Prop where
 |refl {σ:L2.St} {ρ:ay}:VUpd K F σ ρ σ ρ
 |step {σ σ1:L2.St} {ρ ρ1:ay} {i:Nat} {p:PV} {v:V}:VUpd K F σ ρ σ1 ρ1->Rep K F p v->VUpd K F σ ρ (σ1.set i (some v)) (ρ1.set i (some (.val p)))
theorem VUpd.trans {K:PySem.W.Frag}{F:Hp}{σ σ1 σ2:L2.St}{ρ ρ1 ρ2:ay}(a:VUpd K F σ ρ σ1 ρ1)(b:VUpd K F σ1 ρ1 σ2 ρ2):VUpd K F σ ρ σ2 ρ2:=by
 induction b with
 |refl=>exact a
 |step _ r ih=>exact .step (ih a) r
theorem ER.set {K:PySem.W.Frag}{F H:Hp}{σ:L2.St}{ρ:ay}(h:ER K F H σ ρ){i:Nat}{v:V}{s:Sl}(r:SlR K F H (some v) (some s)):ER K F H (σ.set i (some v)) (ρ.set i (some s)):=by
 refine⟨h.fz,by rw[List.length_set,List.length_set];exact h.len,fun j s' e=>?_⟩
 by_cases hij:i=j
 ·subst hij
  have hi:i<ρ.length:=by
   have:=(List.getElem?_eq_some_iff.mp e).1
   rwa [List.length_set] at this
  rw[List.getElem?_set_self hi] at e
  rw[List.getElem?_set_self (by rw[h.len];exact hi)]
  cases e
  exact r
 ·rw[List.getElem?_set_ne hij] at e ⊢
  exact h.sl j s' e
theorem ER.upd {K:PySem.W.Frag}{F H:Hp}{σ σ':L2.St}{ρ ρ':ay}(h:ER K F H σ ρ)(u:VUpd K F σ ρ σ' ρ'):ER K F H σ' ρ':=by
 induction u with
 |refl=>exact h
 |step _ r ih=>exact (ih h).set r
noncomputable def kT (K:PySem.W.Frag)(g0:TG)(g:ul):Prop:=∀F H σ ρ p v (Qp:ay->Prop) (Q:L2.St->Hp->Prop),Same F H->Rep K F p v->g p ρ Qp->(∀σ' ρ',Qp ρ'->VUpd K F σ ρ σ' ρ'->Q σ' H)->g0 v σ H Q
noncomputable def kz (K:PySem.W.Frag)(g0:wN)(g:rG):Prop:=∀F H σ ρ ps vs (Qp:ay->Prop) (Q:L2.St->Hp->Prop),Same F H->Reps K F ps vs->g ps ρ Qp->(∀σ' ρ',Qp ρ'->VUpd K F σ ρ σ' ρ'->Q σ' H)->g0 vs σ H Q
noncomputable def Kf (i:Nat):ul:=fun p ρ Q=>Q (ρ.set i (some (.val p)))
noncomputable def KR:rG:=fun ps ρ Q=>match ps with
 |[]=>Q ρ
 |_=>False
noncomputable def Jx (g:ul)(gs:rG):rG:=fun ps ρ Q=>match ps with
 |p::ps=>g p ρ fun ρ'=>gs ps ρ' Q
 |[]=>False
noncomputable def K4 (n:Nat)(gs:rG):ul:=fun p ρ Q=>OkT p fun ps=>ps.length=n/\gs ps ρ Q
theorem B3 {K:PySem.W.Frag}{i:Nat}:kT K (bO i) (Kf i):=fun F H σ ρ p v Qp Q s r h k=>k _ _ h (.step .refl r)
theorem FJ {K:PySem.W.Frag}:kz K fX KR:=fun F H σ ρ ps vs Qp Q s r h k=>by
 cases ps with
 |nil=>exact⟨r,k _ _ h .refl⟩
 |cons p ps=>exact h.elim
theorem C0 {K:PySem.W.Frag}{g0:TG}{g:ul}{gs0:wN}{gs:rG}(h1:kT K g0 g)(h2:kz K gs0 gs):kz K (cN g0 gs0) (Jx g gs):=fun F H σ ρ ps vs Qp Q s r h k=>by
 cases ps with
 |nil=>exact h.elim
 |cons p ps=>
  obtain⟨v,t,rfl,r1,r2⟩:=r
  exact⟨v,t,rfl,h1 F H σ ρ p v _ _ s r1 h fun σ' ρ' q u=>h2 F H σ' ρ' ps t Qp Q s r2 q fun σ2 ρ2 q2 u2=>k σ2 ρ2 q2 (u.trans u2)⟩
theorem HM {K:PySem.W.Frag}{n:Nat}{gs0:wN}{gs:rG}(h:kz K gs0 gs):kT K (fP K n gs0) (K4 n gs):=fun F H σ ρ p v Qp Q s r hq k=>by
 obtain⟨a,vs,ps,rfl,rfl,e,rs,hn,hq⟩:=OkT.rd (H:=H) hq (.frz r)
 exact⟨a,vs,rfl,SqT.of (s _ _ e),by rw[rs.length];exact hn,h F H σ ρ ps vs Qp Q s rs hq k⟩
noncomputable abbrev vV:=ay->(List PV->Prop)->Prop
noncomputable def HX (K:PySem.W.Frag)(F:Hp)(J:It)(its:List PV):Prop:=∀F1 H1 (i:Nat),Same F F1->Same F1 H1 →
 (∀p,its[i]?=some p->J.go i H1/\∀x H2,J.yld i H1 x H2->∃F2,Grow F1 H1 F2 H2/\Rep K F2 p x)/\(its.length≤i->J.stop i H1)
noncomputable def lI (K:PySem.W.Frag)(ti:vV):TI:=fun σ H R=>∃F ρ,∃Qp:List PV->Prop,ER K F H σ ρ/\ti ρ Qp/\∀its J F' H',Qp its->Grow F H F' H'->HX K F' J its->R J H'
theorem lI.elim {K:PySem.W.Frag}{ti:vV}{σ:St}{H:Hp}{R}{C:Prop}(h:lI K ti σ H R)(k:∀F ρ (Qp:List PV->Prop),ER K F H σ ρ->ti ρ Qp->(∀its J F' H',Qp its->Grow F H F' H'->HX K F' J its->R J H')->C):C:=by obtain⟨F,ρ,Qp,a,b,c⟩:=h;exact k F ρ Qp a b c
noncomputable def AX (X:Cx)(tg iter:Expr)(ti:vV):Prop:=PI X tg iter (lI X.K ti)
section
variable {X:Cx}{a b c e l tg iter elt:Expr}{pos:Pos}{ta tb te tl:gQ}{t:jC}
noncomputable def LH (tl:gQ):vV:=fun ρ Q=>tl ρ fun p=>OkL p Q
noncomputable def Lr (p:PV)(Q:List PV->Prop):Prop:=match p with
 |.tup ps=>Q ps
 |.ktu ps=>Q ps
 |_=>False
noncomputable def Lh (tl:gQ):vV:=fun ρ Q=>tl ρ fun p=>Lr p Q
theorem yY (hl:hG X l tl):AX X tg l (LH tl):=PI.weak (BL hl) fun σ H R hh_=>hh_.elim fun F ρ Qp er q k=>⟨F,ρ,_,er,q,fun p v F1 H1 h1 g1 r1=>by
 obtain⟨a,vs,ps,rfl,hs,rs,h⟩:∃a vs ps,v=.ref a/\SqL X.K F1 a vs/\Reps X.K F1 ps vs/\Qp ps:=by
  cases p with
  |lst ps=>obtain⟨a,vs,rfl,e,rs⟩:=r1;exact⟨a,vs,ps,rfl,SqL.of e,rs,h1⟩
  |src ps=>obtain⟨a,vs,rfl,e,rs⟩:=r1;exact⟨a,vs,ps,rfl,e,rs,h1⟩
  |_=>exact h1.elim
 refine⟨a,rfl,⟨vs,g1.fh.seq hs⟩,k ps _ F1 H1 h g1 fun F2 H2 i s1 s2=>?_⟩
 have h2:=(s1.trans s2).seq hs
 refine⟨fun p e=>?_,fun hl=>⟨vs,h2,by rw[rs.length];exact hl⟩⟩
 obtain⟨v,ev,rv⟩:=rs.get e
 refine⟨⟨vs,v,h2,ev⟩,fun x H3 ⟨e2,y⟩=>?_⟩
 subst e2
 have:=y vs h2
 rw[ev] at this
 cases this
 exact⟨F2,.refl s2,rv.mono s1⟩⟩
theorem Co (hl:hG X l tl):AX X tg l (Lh tl):=PI.weak (HA hl) fun σ H R hh_=>hh_.elim fun F ρ Qp er q k=>⟨F,ρ,_,er,q,fun p v F1 H1 h1 g1 r1=>by
 obtain⟨a,vs,ps,rfl,hs,rs,h⟩:∃a vs ps,v=.ref a/\SqT X.K F1 a vs/\Reps X.K F1 ps vs/\Qp ps:=by
  cases p with
  |tup ps=>obtain⟨a,vs,rfl,e,rs⟩:=r1;exact⟨a,vs,ps,rfl,SqT.of e,rs,h1⟩
  |ktu ps=>obtain⟨a,vs,rfl,e,rs⟩:=r1;exact⟨a,vs,ps,rfl,e,rs,h1⟩
  |_=>exact h1.elim
 refine⟨a,rfl,⟨vs,wY g1.fh hs⟩,k ps _ F1 H1 h g1 fun F2 H2 i s1 s2=>?_⟩
 have h2:=wY (s1.trans s2) hs
 refine⟨fun p e=>?_,fun hl=>⟨vs,h2,by rw[rs.length];exact hl⟩⟩
 obtain⟨v,ev,rv⟩:=rs.get e
 refine⟨⟨vs,v,h2,ev⟩,fun x H3 ⟨e2,y⟩=>?_⟩
 subst e2
 have:=y vs h2
 rw[ev] at this
 cases this
 exact⟨F2,.refl s2,rv.mono s1⟩⟩
theorem As {K:PySem.W.Frag}{F:Hp}{lo:Int}{n:Nat}:HX K F (JK lo n) (sq lo n):=fun F1 H1 i s1 s2=>by
 refine⟨fun p e=>?_,fun hl=>by show n≤i;simpa [sq] using hl⟩
 unfold sq at e
 rw[List.getElem?_map] at e
 obtain⟨k,ek,rfl⟩:=Option.map_eq_some_iff.mp e
 obtain⟨hk,rfl⟩:=List.getElem?_eq_some_iff.mp ek
 refine⟨by show i<n;simpa using hk,fun x H2 ⟨e2,y⟩=>?_⟩
 subst e2 y
 exact⟨F1,.refl s2,by rw[List.getElem_range];rfl⟩
noncomputable def Ja (t:jC):vV:=fun ρ Q=>t ρ fun ps=>One ps fun p=>OkI p fun j=>-(2 ^ 62)≤j/\j<2 ^ 62/\Q (sq 0 j.toNat)
theorem AF (h:PI X tg iter (cM (lAT X.K t))):AX X tg iter (Ja t):=PI.weak h fun σ H R hh_=>hh_.elim fun F ρ Qp er q k=>⟨F,ρ,_,er,q,fun ps vs F1 H1 h1 g1 r1=>by
 obtain⟨p,v,rfl,rfl,r,h⟩:=h1.rd r1
 obtain⟨j,rfl,rfl,h1,h2,h⟩:=h.rd r
 exact⟨j,rfl,h1,h2,k _ _ F1 H1 h g1 As⟩⟩
noncomputable def lx (fm:List (Option Nat))(ρ:ay):ay:=fm.map fun o=>o.bind fun j=>(ρ[j]?).join
theorem ER.sub {K:PySem.W.Frag}{F H:Hp}{σ:L2.St}{ρ:ay}(h:ER K F H σ ρ)(fm:List (Option Nat)):ER K F H (cT fm σ) (lx fm ρ):=by
 refine⟨h.fz,by unfold cT lx;rw[List.length_map,List.length_map],fun i s e=>?_⟩
 unfold lx at e
 rw[List.getElem?_map] at e
 obtain⟨o,eo,e⟩:=Option.map_eq_some_iff.mp e
 cases o with
 |none=>cases e
 |some j=>
  have e':(ρ[j]?).join=some s:=e
  have e2:ρ[j]?=some (some s):=by
   cases q:ρ[j]? with
   |none=>rw[q] at e';cases e'
   |some z=>rw[q] at e';rw[show z=some s from e']
  have:=h.sl j s e2
  unfold cT
  rw[List.getElem?_map,eo]
  exact this
noncomputable def IA (g:ul)(tc:mr)(te:gQ)(ρ:ay):List PV->List PV->(List PV->Prop)->Prop
 |[],acc,Q=>Q acc
 |v::vs,acc,Q=>g v ρ fun ρ2=>tc ρ2 fun b=>if b=true then te ρ2 fun y=>IA g tc te ρ vs (acc++[y]) Q else IA g tc te ρ vs acc Q
noncomputable def y6 (fm:List (Option Nat))(ti:vV)(g:ul)(tc:mr)(te:gQ):uk:=fun ρ Q=>ti ρ fun its=>its.length<1000/\IA g tc te (lx fm ρ) its [] Q
noncomputable def JH:mr:=fun _ Q=>Q true
theorem yN {K:PySem.W.Frag}:∀σ H Q,lB K JH σ H Q->ge σ H Q:=fun σ H Q hh_=>hh_.elim fun F ρ Qp er q k=>k _ F H q (.refl er.fz)
theorem PIf.weak {X:Cx}{ifs:List Expr}{t t':TT}(h:PIf X ifs t)(w:∀σ H Q,t' σ H Q->t σ H Q):PIf X ifs t':=fun pins s σ H Q I q=>h pins s σ H Q I (w σ H Q q)
noncomputable def IH (X:Cx)(ifs:List Expr)(tc:mr):Prop:=PIf X ifs (lB X.K tc)
theorem Aw:IH X [] JH:=PIf.weak DN yN
theorem xP {K:PySem.W.Frag}{fm:List (Option Nat)}{ti:vV}{g0:TG}{g:ul}{tc:mr}(hg:kT K g0 g):∀σ H Q,lN K (y6 fm ti g tc te) σ H Q->tz fm (lI K ti) g0 (lB K tc) (lE K te) σ H Q:=fun σ H Q hh_=>hh_.elim fun F ρ Qp er q k=>
 ⟨F,ρ,_,er,q,fun its J F1 H1 ⟨hlen,h1⟩ g1 it=>by
  refine⟨fun i ys H'=>∃F' acc,Grow F1 H1 F' H'/\Reps K F' acc ys/\i≤its.length/\acc.length≤i/\IA g tc te (lx fm ρ) (its.drop i) acc Qp,its.length,⟨F1,[],.refl g1.fh,rfl,Nat.zero_le _,Nat.le_refl _,h1⟩,?_,?_⟩
  ·rintro i ys H' ⟨F',acc,g2,rs,hi,ha,_⟩
   refine⟨hi,yj ?_⟩
   rw[rs.length];omega
  ·rintro i ys H' ⟨F',acc,g2,rs,hi,ha,h2⟩
   obtain⟨it1,it2⟩:=it F' H' i g2.ff g2.fh
   by_cases hl:i<its.length
   ·obtain⟨go,yl⟩:=it1 _ (List.getElem?_eq_getElem hl)
    refine .inr ⟨go,fun x H2 hy=>?_⟩
    obtain⟨F2,g3,rx⟩:=yl x H2 hy
    rw[List.drop_eq_getElem_cons hl] at h2
    have er2:ER K F2 H2 (cT fm σ) (lx fm ρ):=(er.grow ((g1.trans g2).trans g3)).sub fm
    refine hg F2 H2 (cT fm σ) (lx fm ρ) _ x _ _ g3.fh rx h2 fun σ2 ρ2 h3 u=>?_
    refine⟨F2,ρ2,_,er2.upd u,h3,fun b F3 H3 h4 g4=>?_⟩
    cases b with
    |true=>
     rw[if_pos rfl] at h4 ⊢
     refine⟨F3,ρ2,_,(er2.upd u).grow g4,h4,fun y v F4 H4 h5 g5 ry=>?_⟩
     have gg:=((g2.trans g3).trans g4).trans g5
     exact⟨F4,acc++[y],gg,(rs.mono ((g3.ff.trans g4.ff).trans g5.ff)).app (.one ry),hl,by rw[List.length_append];simp;omega,h5⟩
    |false=>
     rw[if_neg Bool.false_ne_true] at h4 ⊢
     exact⟨F3,acc,(g2.trans g3).trans g4,rs.mono (g3.ff.trans g4.ff),hl,by omega,h4⟩
   ·have e:its.drop i=[]:=List.drop_eq_nil_of_le (by omega)
    rw[e] at h2
    exact .inl ⟨it2 (by omega),fun l hl=>k acc l ys F' _ h2 ((g1.trans g2).trans (.newO g2.fh hl _)) ((g1.trans g2).hh.free hl) (g2.fh.free hl) aw rs⟩⟩
theorem DF {K:PySem.W.Frag}{fm:List (Option Nat)}{ti:vV}{g0:TG}{g:ul}{tc:mr}(hg:kT X.K g0 g)(h:PE X e (tz fm (lI X.K ti) g0 (lB X.K tc) (lE X.K te))):vK X e (y6 fm ti g tc te):=PE.weak h (xP hg)
end
end Pu
end
section
namespace Pu
open PySem PySem.Spec L2
noncomputable def ui:Sl->Bool
 |.val _=>false
 |_=>true
noncomputable def jT (σ:L2.St)(ρ:ay)(i:Nat)(a:Addr):Prop:=(∃s,ρ[i]?=some (some s)/\ui s=true)/\σ[i]?=some (some (.ref a))
structure BR (K:PySem.W.Frag)(F0 H0 F H:Hp)(σ:L2.St)(ρ:ay):Prop where
 er:ER K F H σ ρ
 gr:Grow F0 H0 F H
 ow:∀i a,jT σ ρ i a->H0 a=none
 dj:∀i j a,jT σ ρ i a->jT σ ρ j a->i=j
section
variable {K:PySem.W.Frag}{F0 H0 F H F' H':Hp}{σ σ':L2.St}{ρ ρ':ay}
theorem BR.grow (h:BR K F0 H0 F H σ ρ)(g:Grow F H F' H'):BR K F0 H0 F' H' σ ρ:=⟨h.er.grow g,h.gr.trans g,h.ow,h.dj⟩
theorem d7 {i j:Nat}{v:V}{s:Sl}{a:Addr}(h:jT (σ.set i (some v)) (ρ.set i (some s)) j a):(i=j/\ui s=true/\v=.ref a)\/(i≠j/\jT σ ρ j a):=by
 obtain⟨⟨s',e,hs⟩,e2⟩:=h
 by_cases hij:i=j
 ·subst hij
  have hi:i<ρ.length:=by
   have:=(List.getElem?_eq_some_iff.mp e).1
   rwa [List.length_set] at this
  have hi2:i<σ.length:=by
   have:=(List.getElem?_eq_some_iff.mp e2).1
   rwa [List.length_set] at this
  rw[List.getElem?_set_self hi] at e
  rw[List.getElem?_set_self hi2] at e2
  cases e
  cases e2
  exact .inl ⟨rfl,hs,rfl⟩
 ·rw[List.getElem?_set_ne hij] at e e2
  exact .inr ⟨hij,⟨s',e,hs⟩,e2⟩
theorem BR.setV (h:BR K F0 H0 F H σ ρ){i:Nat}{p:PV}{v:V}(r:Rep K F p v):BR K F0 H0 F H (σ.set i (some v)) (ρ.set i (some (.val p))):=by
 refine⟨h.er.set r,h.gr,fun j a o=>?_,fun j k a o o'=>?_⟩
 ·rcases d7 o with ⟨_,z,_⟩|⟨_,o⟩
  ·exact absurd z Bool.false_ne_true
  ·exact h.ow j a o
 ·rcases d7 o with ⟨_,z,_⟩|⟨_,o⟩
  ·exact absurd z Bool.false_ne_true
  ·rcases d7 o' with ⟨_,z,_⟩|⟨_,o'⟩
   ·exact absurd z Bool.false_ne_true
   ·exact h.dj j k a o o'
theorem BR.upd (h:BR K F0 H0 F H σ ρ)(u:VUpd K F σ ρ σ' ρ'):BR K F0 H0 F H σ' ρ':=by
 induction u with
 |refl=>exact h
 |step _ r ih=>exact (ih h).setV r
theorem ER.live (h:ER K F H σ ρ){i:Nat}{a:Addr}(o:jT σ ρ i a):F a=none/\∃u,H a=some u:=by
 obtain⟨⟨s,e,hs⟩,e2⟩:=o
 have:=h.sl i s e
 rw[e2] at this
 cases s with
 |val p=>exact absurd hs Bool.false_ne_true
 |own ps=>obtain⟨a',vs,e',h1,h2,_⟩:=this;cases e';exact⟨h2,_,h1⟩
 |dic ks ps=>obtain⟨a',vs,e',h1,h2,_⟩:=this;cases e';exact⟨h2,_,h1⟩
theorem BR.setN (h:BR K F0 H0 F H σ ρ)(g:Grow F H F' H'){i:Nat}{a:Addr}{vs:List V}{ps:List PV}(h0:H a=none)(hF:F' a=none)(hH:H' a=some (.lst vs))(r:Reps K F' ps vs) :
  BR K F0 H0 F' H' (σ.set i (some (.ref a))) (ρ.set i (some (.own ps))):=by
 have h':=h.grow g
 refine⟨h'.er.set ⟨a,vs,rfl,hH,hF,r⟩,h'.gr,fun j b o=>?_,fun j k b o o'=>?_⟩
 ·rcases d7 o with ⟨_,_,z⟩|⟨_,o⟩
  ·cases z;exact h.gr.hh.free h0
  ·exact h.ow j b o
 ·have ne:∀{m:Nat},jT σ ρ m b->b≠a:=fun {m} o e=>by
   obtain⟨_,u,hu⟩:=h.er.live o
   subst e
   rw[h0] at hu;cases hu
  rcases d7 o with ⟨e1,_,z⟩|⟨_,o⟩
  ·rcases d7 o' with ⟨e2,_,_⟩|⟨_,o'⟩
   ·exact e1.symm.trans e2
   ·cases z;exact absurd rfl (ne o')
  ·rcases d7 o' with ⟨e2,_,z⟩|⟨_,o'⟩
   ·cases z;exact absurd rfl (ne o)
   ·exact h.dj j k b o o'
theorem rR {i:Nat}{v:V}(e:σ[i]?=some (some v)):σ.set i (some v)=σ:=by
 apply List.ext_getElem?
 intro j
 by_cases hij:i=j
 ·subst hij
  rw[List.getElem?_set_self (List.getElem?_eq_some_iff.mp e).1,e]
 ·rw[List.getElem?_set_ne hij]
theorem BR.mut (h:BR K F0 H0 F H σ ρ){i:Nat}{a:Addr}{u:HO}{s:Sl}(o:jT σ ρ i a)(hs:ui s=true)(r:SlR K F (L2.upd H a u) (some (.ref a)) (some s)):BR K F0 H0 F (L2.upd H a u) σ (ρ.set i (some s)):=by
 obtain⟨hF,u0,hu⟩:=h.er.live o
 have h0:H0 a=none:=h.ow i a o
 have e2:=o.2
 refine⟨⟨fun b w e=>?_,by rw[List.length_set];exact h.er.len,fun j s' e=>?_⟩,⟨fun b w e=>?_,h.gr.ff,fun b w e=>?_,h.gr.nw⟩,fun j b o'=>?_,fun j k b o' o''=>?_⟩
 ·have:b≠a:=fun z=>by subst z;rw[hF] at e;cases e
  rw[aC this];exact h.er.fz b w e
 ·by_cases hij:i=j
  ·subst hij
   have hi:i<ρ.length:=by
    have:=(List.getElem?_eq_some_iff.mp e).1
    rwa [List.length_set] at this
   rw[List.getElem?_set_self hi] at e
   cases e
   rw[e2]
   exact r
  ·rw[List.getElem?_set_ne hij] at e
   have old:=h.er.sl j s' e
   obtain⟨v,ev,_⟩:=h.er.rd e
   rw[ev] at old ⊢
   have ne:∀b,ui s'=true->v=.ref b->b≠a:=fun b hb hv z=>by
    subst hv z
    exact hij (h.dj i j b o ⟨⟨s',e,hb⟩,ev⟩)
   cases s' with
   |val p=>exact old
   |own ps=>obtain⟨b,vs,e',h1,h2,h3⟩:=old;cases e';exact⟨b,vs,rfl,by rw[aC (ne b rfl rfl)];exact h1,h2,h3⟩
   |dic ks ps=>obtain⟨b,vs,e',h1,h2,h3,h4⟩:=old;cases e';exact⟨b,vs,rfl,by rw[aC (ne b rfl rfl)];exact h1,h2,h3,h4⟩
 ·have:b≠a:=fun z=>by subst z;rw[h0] at e;cases e
  rw[aC this];exact h.gr.hh b w e
 ·have:b≠a:=fun z=>by subst z;rw[hF] at e;cases e
  rw[aC this];exact h.gr.fh b w e
 ·rw[←rR e2] at o'
  rcases d7 o' with ⟨_,_,z⟩|⟨_,o'⟩
  ·cases z;exact h0
  ·exact h.ow j b o'
 ·rw[←rR e2] at o' o''
  rcases d7 o' with ⟨e1,_,z⟩|⟨_,o'⟩
  ·rcases d7 o'' with ⟨e3,_,_⟩|⟨n,o''⟩
   ·exact e1.symm.trans e3
   ·cases z;exact absurd (h.dj i k a o o'') n
  ·rcases d7 o'' with ⟨e3,_,z⟩|⟨_,o''⟩
   ·cases z;rw[←e3];exact h.dj j i a o' o
   ·exact h.dj j k b o' o''
theorem BR.fz (h:BR K F0 H0 F H σ ρ){i:Nat}{ps:List PV}(e:ρ[i]?=some (some (.own ps))):∃F',BR K F0 H0 F' H σ (ρ.set i (some (.val (.lst ps)))):=by
 obtain⟨v,ev,_⟩:=h.er.rd e
 have sl:=h.er.sl i _ e
 rw[ev] at sl
 obtain⟨a,vs,e',h1,h2,h3⟩:=sl
 cases e'
 have o:jT σ ρ i a:=⟨⟨_,e,rfl⟩,ev⟩
 have h0:=h.ow i a o
 have gr:=h.gr.freeze h0 h2 h1
 have mono:Same F (L2.upd F a (.lst vs)):=b0 h2 _
 refine⟨L2.upd F a (.lst vs),⟨gr.fh,by rw[List.length_set];exact h.er.len,fun j s' e'=>?_⟩,gr,fun j b o'=>?_,fun j k b o' o''=>?_⟩
 ·by_cases hij:i=j
  ·subst hij
   have hi:i<ρ.length:=(List.getElem?_eq_some_iff.mp e).1
   rw[List.getElem?_set_self hi] at e'
   cases e'
   rw[ev]
   exact⟨a,vs,rfl,aw,h3.mono mono⟩
  ·rw[List.getElem?_set_ne hij] at e'
   have old:=h.er.sl j s' e'
   obtain⟨v,ev',_⟩:=h.er.rd e'
   rw[ev'] at old ⊢
   have ne:∀b,ui s'=true->v=.ref b->b≠a:=fun b hb hv z=>by
    subst hv z
    exact hij (h.dj i j b o ⟨⟨s',e',hb⟩,ev'⟩)
   cases s' with
   |val p=>exact Rep.mono mono old
   |own qs=>obtain⟨b,us,e',k1,k2,k3⟩:=old;cases e';exact⟨b,us,rfl,k1,by rw[aC (ne b rfl rfl)];exact k2,k3.mono mono⟩
   |dic ks qs=>obtain⟨b,us,e',k1,k2,k3,k4⟩:=old;cases e';exact⟨b,us,rfl,k1,by rw[aC (ne b rfl rfl)];exact k2,k3,k4.mono mono⟩
 ·rw[←rR ev] at o'
  rcases d7 o' with ⟨_,z,_⟩|⟨_,o'⟩
  ·exact absurd z Bool.false_ne_true
  ·exact h.ow j b o'
 ·rw[←rR ev] at o' o''
  rcases d7 o' with ⟨_,z,_⟩|⟨_,o'⟩
  ·exact absurd z Bool.false_ne_true
  ·rcases d7 o'' with ⟨_,z,_⟩|⟨_,o''⟩
   ·exact absurd z Bool.false_ne_true
   ·exact h.dj j k b o' o''
end
noncomputable def AZ (F H0:Hp):Hp:=fun b=>match F b with
 |some o=>some o
 |none=>H0 b
section
variable {K:PySem.W.Frag}{F0 H0 F H F' H':Hp}{σ σ':L2.St}{ρ ρ':ay}
theorem oA {b:Addr}(h:AZ F H0 b=none):F b=none/\H0 b=none:=by
 unfold AZ at h
 split at h
 ·cases h
 ·exact⟨by assumption,h⟩
theorem Hi {b:Addr}(hF:F b=none)(h0:H0 b=none):AZ F H0 b=none:=by unfold AZ;rw[hF];exact h0
theorem BR.base (h:BR K F0 H0 F H σ ρ):BR K F (AZ F H0) F H σ ρ:=by
 refine⟨h.er,⟨fun b o e=>?_,Same.refl _,h.er.fz,fun b o e=>.inl e⟩,fun i a o=>Hi (h.er.live o).1 (h.ow i a o),h.dj⟩
 unfold AZ at e
 split at e
 ·next q=>cases e;exact h.er.fz b _ q
 ·exact h.gr.hh b o e
theorem Grow.unbase (g:Grow F0 H0 F H)(g':Grow F (AZ F H0) F' H'):Grow F0 H0 F' H':=by
 refine⟨fun b o e=>?_,g.ff.trans g'.ff,g'.fh,fun b o e=>?_⟩
 ·refine g'.hh b o ?_
  unfold AZ
  split
  ·next u q=>rw[←g.fh b u q];exact g.hh b o e
  ·exact e
 ·rcases g'.nw b o e with z|z|z
  ·exact g.nw b o z
  ·exact .inr (.inl (oA z).2)
  ·exact .inr (.inr z)
theorem BR.unbase (h:BR K F (AZ F H0) F' H' σ' ρ')(g:Grow F0 H0 F H):BR K F0 H0 F' H' σ' ρ':=⟨h.er,g.unbase h.gr,fun i a o=>(oA (h.ow i a o)).2,h.dj⟩
end
structure PEnds where
 nx:ay->Prop
 rt:PV->Prop
 rn:List PV->Prop
 bk:ay->Prop:=fun _=>False
 ct:ay->Prop:=fun _=>False
noncomputable abbrev jx:=PEnds->ay->Prop
structure Fit (K:PySem.W.Frag)(F0 H0:Hp)(Dp:PEnds)(D:Ends):Prop where
 nx:∀F H σ ρ,Dp.nx ρ->BR K F0 H0 F H σ ρ->D.nx σ H
 bk:∀F H σ ρ,Dp.bk ρ->BR K F0 H0 F H σ ρ->D.bk σ H
 ct:∀F H σ ρ,Dp.ct ρ->BR K F0 H0 F H σ ρ->D.ct σ H
 rt:∀p v F H,Dp.rt p->Grow F0 H0 F H->Rep K F p v->D.rt v H
 rn:∀ps a vs F H,Dp.rn ps->Grow F0 H0 F H->H0 a=none->F a=none->H a=some (.lst vs)->Reps K F ps vs->D.rt (.ref a) H
noncomputable def lS (K:PySem.W.Frag)(ts:jx):TS:=fun D σ H=>∃F0 H0 F ρ Dp,BR K F0 H0 F H σ ρ/\ts Dp ρ/\Fit K F0 H0 Dp D
theorem lS.elim {K:PySem.W.Frag}{ts:jx}{D:Ends}{σ:St}{H:Hp}{C:Prop}(h:lS K ts D σ H)(k:∀F0 H0 F ρ Dp,BR K F0 H0 F H σ ρ->ts Dp ρ->Fit K F0 H0 Dp D->C):C:=by obtain⟨F0,H0,F,ρ,Dp,a,b,c⟩:=h;exact k F0 H0 F ρ Dp a b c
noncomputable def nj (X:Cx)(st:Stmt)(ts:jx):Prop:=PS X st (lS X.K ts)
noncomputable def oj (X:Cx)(st:List Stmt)(ts:jx):Prop:=PSs X st (lS X.K ts)
noncomputable def Kd:jx:=fun D ρ=>D.nx ρ
noncomputable def Jr (t u:jx):jx:=fun D ρ=>t { D with nx:=u D } ρ
noncomputable def EX:jx:=fun _ _=>False
noncomputable def Kn (te:gQ):jx:=fun D ρ=>te ρ fun _=>D.nx ρ
noncomputable def LY (te:gQ):jx:=fun D ρ=>te ρ D.rt
noncomputable def KC (tn:uk):jx:=fun D ρ=>tn ρ D.rn
noncomputable def go (ρ:ay)(i:Nat)(Q:List PV->Prop):Prop:=match ρ[i]? with
 |some (some (.own ps))=>Q ps
 |_=>False
theorem go.ex {ρ:ay}{i:Nat}{Q:List PV->Prop}(h:go ρ i Q):∃ps,ρ[i]?=some (some (.own ps))/\Q ps:=by
 unfold go at h
 split at h
 ·exact⟨_,by assumption,h⟩
 ·exact h.elim
noncomputable def EH (i:Nat):jx:=fun D ρ=>go ρ i D.rn
noncomputable def M5 (c:mr)(t u:jx):jx:=fun D ρ=>c ρ fun b=>if b=true then t D ρ else u D ρ
noncomputable def LM (i:Nat)(te:gQ):jx:=fun D ρ=>te ρ fun p=>D.nx (ρ.set i (some (.val p)))
noncomputable def Jz (i:Nat)(tn:uk):jx:=fun D ρ=>tn ρ fun ps=>D.nx (ρ.set i (some (.own ps)))
noncomputable def LQ (te:gQ)(g:ul):jx:=fun D ρ=>te ρ fun p=>g p ρ D.nx
noncomputable def frz (i:Nat)(ρ:ay):ay:=match ρ[i]? with
 |some (some (.own ps))=>ρ.set i (some (.val (.lst ps)))
 |_=>ρ
noncomputable def wp (i:Nat)(t:jx):jx:=fun D ρ=>t D (frz i ρ)
section
variable {X:Cx}{st:Stmt}{cU:List Stmt}{t u:jx}{te:gQ}{tn:uk}{e:Expr}{pos:Pos}{i:Nat}
theorem Am:oj X [] Kd:=PSs.weak Dz fun D σ H hh_=>hh_.elim fun F0 H0 F ρ Dp br h ft=>ft.nx F H σ ρ h br
theorem xn (h1:nj X st t)(h2:oj X cU u):oj X (st::cU) (Jr t u):=PSs.weak (aU h1 h2) fun D σ H hh_=>hh_.elim fun F0 H0 F ρ Dp br h ft=>
 ⟨F0,H0,F,ρ,_,br,h,⟨fun F' H' σ' ρ' h' br'=>⟨F0,H0,F',ρ',Dp,br',h',ft⟩,ft.bk,ft.ct,ft.rt,ft.rn⟩⟩
theorem zz (h1:nj X st t):oj X [st] t:=fg h1
theorem xU:nj X st EX:=PS.weak yB fun D σ H hh_=>hh_.elim fun F0 H0 F ρ Dp br h ft=>h
theorem AH (h:PS X st (cq (lE X.K te))):nj X st (Kn te):=PS.weak h fun D σ H hh_=>hh_.elim fun F0 H0 F ρ Dp br h ft=>⟨F,ρ,_,br.er,h,fun p v F1 H1 h1 g1 r1=>ft.nx F1 H1 σ ρ h1 (br.grow g1)⟩
theorem wD (he:hG X e te):nj X (.Return (some e) pos) (LY te):=PS.weak (iO he) fun D σ H hh_=>hh_.elim fun F0 H0 F ρ Dp br h ft=>⟨F,ρ,_,br.er,h,fun p v F1 H1 h1 g1 r1=>ft.rt p v F1 H1 h1 (br.gr.trans g1) r1⟩
theorem AO (he:vK X e tn):nj X (.Return (some e) pos) (KC tn):=PS.weak (iO he) fun D σ H hh_=>hh_.elim fun F0 H0 F ρ Dp br h ft=>⟨F,ρ,_,br.er,h,fun ps a vs F1 H1 h1 g1 h0 hF hH r1=>ft.rn ps a vs F1 H1 h1 (br.gr.trans g1) (br.gr.hh.free h0) hF hH r1⟩
theorem zZ (he:PE X e (eE i)):nj X (.Return (some e) pos) (EH i):=PS.weak (iO he) fun D σ H hh_=>hh_.elim fun F0 H0 F ρ Dp br h ft=>by
 obtain⟨ps,e,h⟩:=h.ex
 obtain⟨v,ev,_⟩:=br.er.rd e
 have sl:=br.er.sl i _ e
 rw[ev] at sl
 obtain⟨a,vs,e',h1,h2,h3⟩:=sl
 cases e'
 exact⟨_,ev,ft.rn ps a vs F H h br.gr (br.ow i a ⟨⟨_,e,rfl⟩,ev⟩) h2 h1 h3⟩
theorem GG {c:Expr}{a b:List Stmt}{tc:mr}(hc:PuB X c tc)(ha:oj X a t)(hb:oj X b u):nj X (.If c a b pos) (M5 tc t u):=PS.weak (JS hc ha hb) fun D σ H hh_=>hh_.elim fun F0 H0 F ρ Dp br h ft=>⟨F,ρ,_,br.er,h,fun b F1 H1 h1 g1=>by
 cases b with
 |true=>exact⟨F0,H0,F1,ρ,Dp,br.grow g1,by simpa using h1,ft⟩
 |false=>exact⟨F0,H0,F1,ρ,Dp,br.grow g1,by simpa using h1,ft⟩⟩
theorem wG (h:PS X st (dN (lE X.K te) (bO i))):nj X st (LM i te):=PS.weak h fun D σ H hh_=>hh_.elim fun F0 H0 F ρ Dp br h ft=>⟨F,ρ,_,br.er,h,fun p v F1 H1 h1 g1 r1=>ft.nx F1 H1 _ _ h1 ((br.grow g1).setV r1)⟩
theorem AW (h:PS X st (dN (lN X.K tn) (bO i))):nj X st (Jz i tn):=PS.weak h fun D σ H hh_=>hh_.elim fun F0 H0 F ρ Dp br h ft=>⟨F,ρ,_,br.er,h,fun ps a vs F1 H1 h1 g1 h0 hF hH r1=>ft.nx F1 H1 _ _ h1 (br.setN g1 h0 hF hH r1)⟩
theorem BH {g0:TG}{g:ul}(hg:kT X.K g0 g)(h:PS X st (dN (lE X.K te) g0)):nj X st (LQ te g):=PS.weak h fun D σ H hh_=>hh_.elim fun F0 H0 F ρ Dp br h ft=>⟨F,ρ,_,br.er,h,fun p v F1 H1 h1 g1 r1=>
 hg F1 H1 σ ρ p v _ _ g1.fh r1 h1 fun σ' ρ' q u=>ft.nx F1 H1 σ' ρ' q ((br.grow g1).upd u)⟩
theorem vy (i:Nat)(h:nj X st t):nj X st (wp i t):=PS.weak h fun D σ H hh_=>hh_.elim fun F0 H0 F ρ Dp br h ft=>by
 unfold wp frz at h
 split at h
 ·next ps e=>
  obtain⟨F',br'⟩:=br.fz e
  exact⟨F0,H0,F',_,Dp,br',h,ft⟩
 ·exact⟨F0,H0,F,ρ,Dp,br,h,ft⟩
theorem BR.ownAt {K:PySem.W.Frag}{F0 H0 F H:Hp}{σ:L2.St}{ρ:ay}(br:BR K F0 H0 F H σ ρ){ps:List PV}(e:ρ[i]?=some (some (.own ps))):∃a vs,σ[i]?=some (some (.ref a))/\jT σ ρ i a/\H a=some (.lst vs)/\F a=none/\Reps K F ps vs:=by
 obtain⟨v,ev,_⟩:=br.er.rd e
 have sl:=br.er.sl i _ e
 rw[ev] at sl
 obtain⟨a,vs,e',h1,h2,h3⟩:=sl
 cases e'
 exact⟨a,vs,ev,⟨⟨_,e,rfl⟩,ev⟩,h1,h2,h3⟩
noncomputable def Jy (i:Nat)(t:jC):jx:=fun D ρ=>go ρ i fun ps=>t ρ fun qs=>One qs fun q=>ps.length<sizeLine/\D.nx (ρ.set i (some (.own (ps++[q]))))
theorem CS {t:jC}(h:PS X st (cq (lh X.K "list" rX (eE i) (lA X.K t)))):nj X st (Jy i t):=PS.weak h fun D σ H hh_=>hh_.elim fun F0 H0 F ρ Dp br h ft=>by
 obtain⟨ps,e,h⟩:=h.ex
 obtain⟨a,vs,ev,o,h1,h2,h3⟩:=br.ownAt e
 refine⟨_,ev,.inl ⟨rfl,vs,SqL.of h1⟩,F,ρ,_,br.er,h,fun qs us F1 H1 k1 g1 r1=>?_⟩
 unfold One at k1
 split at k1
 ·next q=>
  obtain⟨v,r,rfl,r1,er⟩:=r1
  cases (show r=[] from er)
  have k:=g1.keep h2 h1
  exact⟨a,vs,v,rfl,rfl,k.2,by rw[h3.length];exact k1.1,ft.nx F1 _ σ _ k1.2 ((br.grow g1).mut (s:=.own _) o rfl ⟨a,_,rfl,aw,k.1,(h3.mono g1.ff).app (.one r1)⟩)⟩
 ·exact k1.elim
noncomputable def HN (j:Nat)(ti te:gQ):jx:=fun D ρ=>te ρ fun v=>go ρ j fun ps=>ti ρ fun k=>OkI k fun k=>OkO (qi ps.length k) fun n=>D.nx (ρ.set j (some (.own (ps.set n v))))
theorem wX {j:Nat}{ti:gQ}(h:PS X st (dN (lE X.K te) (L2.fo (eE j) (lE X.K ti) cJ))):nj X st (HN j ti te):=PS.weak h fun D σ H hh_=>hh_.elim fun F0 H0 F ρ Dp br h ft=>⟨F,ρ,_,br.er,h,fun p v F1 H1 h1 g1 r1=>by
 obtain⟨ps,e,h⟩:=h1.ex
 have br1:=br.grow g1
 obtain⟨a,vs,ev,o,k1,k2,k3⟩:=br1.ownAt e
 refine⟨_,ev,F1,ρ,_,br1.er,h,fun q w F2 H2 h2 g2 r2=>?_⟩
 obtain⟨k,rfl,rfl,h2⟩:=OkI.rd (H:=H2) h2 (.frz r2)
 obtain⟨n,en,h2⟩:=h2.ex
 have kk:=g2.keep k2 k1
 exact⟨a,vs,k,n,rfl,rfl,kk.2,by rw[k3.length];exact en,ft.nx F2 _ σ _ h2 ((br1.grow g2).mut (s:=.own _) o rfl ⟨a,_,rfl,aw,kk.1,(k3.mono g2.ff).set (r1.mono g2.ff) n⟩)⟩⟩
noncomputable def qr (g:ul)(tb:jx)(D:PEnds):List PV->ay->Prop
 |[],ρ=>D.nx ρ
 |v::vs,ρ=>g v ρ fun ρ2=>tb { D with nx:=qr g tb D vs,ct:=qr g tb D vs,bk:=D.nx } ρ2
noncomputable def LT (ti:vV)(g:ul)(tb:jx):jx:=fun D ρ=>ti ρ fun its=>qr g tb D its ρ
theorem DK {ti:vV}{g0:TG}{g:ul}{tb:jx}(hg:kT X.K g0 g)(h:PS X st (HY (lI X.K ti) g0 (lS X.K tb))):nj X st (LT ti g tb):=PS.weak h fun D σ H hh_=>hh_.elim fun F0 H0 F ρ Dp br h ft=>⟨F,ρ,_,br.er,h,fun its J F1 H1 h1 g1 it=>by
 refine⟨fun i m σ' H'=>∃F' ρ',BR X.K F0 H0 F' H' σ' ρ'/\Same F1 F'/\i≤its.length/\m=its.length - i/\qr g tb Dp (its.drop i) ρ',⟨its.length,F1,ρ,br.grow g1,Same.refl _,Nat.zero_le _,rfl,h1⟩,?_⟩
 rintro i m σ' H' ⟨F',ρ',br',s1,hi,rfl,h2⟩
 obtain⟨it1,it2⟩:=it F' H' i s1 br'.er.fz
 by_cases hl:i<its.length
 ·obtain⟨go,yl⟩:=it1 _ (List.getElem?_eq_getElem hl)
  rw[List.drop_eq_getElem_cons hl] at h2
  refine .inr ⟨go,fun σ2 H2=>∃F2 ρ2,BR X.K F0 H0 F2 H2 σ2 ρ2/\Same F1 F2/\qr g tb Dp (its.drop (i+1)) ρ2,fun σ2 H2 ⟨F2,ρ2,b2,s2,q2⟩=>⟨its.length - (i+1),by omega,F2,ρ2,b2,s2,hl,rfl,q2⟩,fun x H2 hy=>?_⟩
  obtain⟨F2,g2,rx⟩:=yl x H2 hy
  refine hg F2 H2 σ' ρ' _ x _ _ g2.fh rx h2 fun σ3 ρ3 h3 u=>?_
  have br3:=(br'.grow g2).upd u
  refine⟨F2,AZ F2 H0,F2,ρ3,_,br3.base,h3,⟨fun F4 H4 σ4 ρ4 h4 b4=>?_,fun F4 H4 σ4 ρ4 h4 b4=>?_,fun F4 H4 σ4 ρ4 h4 b4=>?_,fun p v F4 H4 h4 g4 r4=>ft.rt p v F4 H4 h4 (br3.gr.unbase g4) r4,fun ps a vs F4 H4 h4 g4 h0 hF hH r4=>ft.rn ps a vs F4 H4 h4 (br3.gr.unbase g4) (oA h0).2 hF hH r4⟩⟩
  ·exact⟨F4,ρ4,b4.unbase br3.gr,(s1.trans g2.ff).trans b4.gr.ff,h4⟩
  ·exact ft.nx F4 H4 σ4 ρ4 h4 (b4.unbase br3.gr)
  ·exact⟨F4,ρ4,b4.unbase br3.gr,(s1.trans g2.ff).trans b4.gr.ff,h4⟩
 ·have e:its.drop i=[]:=List.drop_eq_nil_of_le (by omega)
  rw[e] at h2
  exact .inl ⟨it2 (by omega),ft.nx F' H' σ' ρ' h2 br'⟩⟩
noncomputable def kn (tc:mr)(tb:jx)(D:PEnds):Nat->ay->Prop
 |0,_=>False
 |n+1,ρ=>tc ρ fun b=>if b=true then tb { D with nx:=kn tc tb D n,ct:=kn tc tb D n,bk:=D.nx } ρ else D.nx ρ
noncomputable def Fz (tc:mr)(tb:jx):jx:=fun D ρ=>∃n,kn tc tb D n ρ
theorem xg {tc:mr}{tb:jx}(h:PS X st (uT (lB X.K tc) (lS X.K tb))):nj X st (Fz tc tb):=PS.weak h fun D σ H hh_=>hh_.elim fun F0 H0 F ρ Dp br ⟨n,h⟩ ft=>by
 refine⟨fun m σ' H'=>∃F' ρ',BR X.K F0 H0 F' H' σ' ρ'/\kn tc tb Dp m ρ',⟨n,F,ρ,br,h⟩,?_⟩
 rintro m σ' H' ⟨F',ρ',br',h'⟩
 cases m with
 |zero=>exact h'.elim
 |succ m=>
  refine⟨F',ρ',_,br'.er,h',fun b F1 H1 h1 g1=>?_⟩
  cases b with
  |true=>
   rw[if_pos rfl] at h1 ⊢
   refine⟨fun σ2 H2=>∃F2 ρ2,BR X.K F0 H0 F2 H2 σ2 ρ2/\kn tc tb Dp m ρ2,fun σ2 H2 q=>⟨m,Nat.lt_succ_self _,q⟩,F0,H0,F1,ρ',_,br'.grow g1,h1,⟨fun F4 H4 σ4 ρ4 h4 b4=>⟨F4,ρ4,b4,h4⟩,fun F4 H4 σ4 ρ4 h4 b4=>ft.nx F4 H4 σ4 ρ4 h4 b4,fun F4 H4 σ4 ρ4 h4 b4=>⟨F4,ρ4,b4,h4⟩,ft.rt,ft.rn⟩⟩
  |false=>
   rw[if_neg Bool.false_ne_true] at h1 ⊢
   exact ft.nx F1 H1 σ' ρ' h1 (br'.grow g1)
inductive PR where
 |v (p:PV)|n (ps:List PV)
noncomputable def PR.pv:PR->PV
 |.v p=>p
 |.n ps=>.lst ps
noncomputable abbrev we:=List PV->(PR->Prop)->Prop
noncomputable def KZ (K:PySem.W.Frag)(H F' H':Hp)(v:V):PR->Prop
 |.v p=>Rep K F' p v
 |.n ps=>∃a vs,v=.ref a/\H a=none/\F' a=none/\H' a=some (.lst vs)/\Reps K F' ps vs
noncomputable def cv (K:PySem.W.Frag)(φ:we):Sp:=fun vs H Q _=>∃F ps,∃Qp:PR->Prop,Same F H/\Reps K F ps vs/\φ ps Qp/\∀r v F' H',Qp r->Grow F H F' H'->KZ K H F' H' v r->Q v H'
noncomputable def PEnds.of (Q:PR->Prop):PEnds:={ nx:=fun _=>Q (.v .non),rt:=fun p=>Q (.v p),rn:=fun ps=>Q (.n ps) }
noncomputable def kS (N:List Str)(ps:List PV):ay:=ps.map (fun p=>some (Sl.val p))++List.replicate (N.length - ps.length) none
theorem s9 {K:PySem.W.Frag}{F H:Hp}(s:Same F H)(N:List Str):∀{ps:List PV} {vs:List V},Reps K F ps vs->ER K F H (L2.be N vs) (kS N ps):=fun {ps vs} r=>by
 have hl:=r.length
 refine⟨s,by unfold L2.be kS;simp[hl],fun i s' e=>?_⟩
 unfold kS at e
 unfold L2.be
 rw[List.getElem?_append] at e ⊢
 rw[List.length_map] at e ⊢
 by_cases hi:i<ps.length
 ·rw[if_pos hi,List.getElem?_map] at e
  rw[if_pos (by omega),List.getElem?_map]
  obtain⟨p,ep,e⟩:=Option.map_eq_some_iff.mp e
  obtain⟨v,ev,rv⟩:=r.get ep
  cases e
  rw[ev]
  exact rv
 ·rw[if_neg hi,List.getElem?_replicate] at e
  split at e<;>cases e
theorem kq {N:List Str}{ps:List PV}{σ:L2.St}{i:Nat}{a:Addr}(o:jT σ (kS N ps) i a):False:=by
 obtain⟨⟨s,e,hs⟩,_⟩:=o
 unfold kS at e
 rw[List.getElem?_append] at e
 split at e
 ·rw[List.getElem?_map] at e
  obtain⟨p,ep,e⟩:=Option.map_eq_some_iff.mp e
  cases e
  exact absurd hs Bool.false_ne_true
 ·rw[List.getElem?_replicate] at e
  split at e<;>cases e
noncomputable def KA (φ:we)(t:jC):gQ:=fun ρ Q=>t ρ fun ps=>φ ps fun r=>Q r.pv
noncomputable def Mk:PR->(List PV->Prop)->Prop
 |.n ps,Q=>Q ps
 |_,_=>False
noncomputable def HS (φ:we)(t:jC):uk:=fun ρ Q=>t ρ fun ps=>φ ps fun r=>Mk r Q
theorem DM {φ:we}{t:jC}(h:PE X e (bY (cv X.K φ) [] E0 (lA X.K t))):hG X e (KA φ t):=PE.weak h fun σ H Q hh_=>hh_.elim fun F ρ Qp er q k=>⟨F,ρ,_,er,q,fun ps vs F1 H1 h1 g1 r1=>by
 show cv X.K φ (vs++[]) H1 Q E0
 rw[List.append_nil]
 refine⟨F1,ps,_,g1.fh,r1,h1,fun r v F2 H2 h2 g2 rr=>?_⟩
 cases r with
 |v p=>exact k p v F2 H2 h2 (g1.trans g2) rr
 |n ps=>
  obtain⟨a,vs,rfl,h0,hF,hH,rs⟩:=rr
  exact k (.lst ps) _ _ H2 h2 ((g1.trans g2).freeze (g1.hh.free h0) hF hH) ⟨a,vs,rfl,aw,rs.mono (b0 hF _)⟩⟩
theorem yR {φ:we}{t:jC}(h:PE X e (bY (cv X.K φ) [] E0 (lA X.K t))):vK X e (HS φ t):=PE.weak h fun σ H Q hh_=>hh_.elim fun F ρ Qp er q k=>⟨F,ρ,_,er,q,fun ps vs F1 H1 h1 g1 r1=>by
 show cv X.K φ (vs++[]) H1 Q E0
 rw[List.append_nil]
 refine⟨F1,ps,_,g1.fh,r1,h1,fun r v F2 H2 h2 g2 rr=>?_⟩
 cases r with
 |v p=>exact h2.elim
 |n ps=>
  obtain⟨a,vs,rfl,h0,hF,hH,rs⟩:=rr
  exact k ps a vs F2 H2 h2 (g1.trans g2) (g1.hh.free h0) hF hH rs⟩
end
theorem La {P:Program}{w:World}{K:PySem.W.Frag}{mg:Str->Option Value}{base:Heap}{x:Str}{st:Stmt}{N ps:List Str}{k:Nat}{φ:we}{ts:jx}(F:FunD K mg x st ps)(S:FnScope N ps (af st))
  (hl:∀qs Q,φ qs Q->qs.length=ps.length)
  (hb:∀(f:Addr) (cdv:Value) (A:Around) (outer:List Env) (s:Shared) (H:Hp) (E:XK),Room k (A.deeper (PyProof.Rows.envOfC x (af st) s.heap.objs.size f cdv))->oj (lV uQ P w K mg base N x (af st) f cdv A outer s H E).nox (aA st) ts)
  (hφ:∀qs Q,φ qs Q->ts (PEnds.of Q) (kS N qs)):Def P w K mg base (k+1) x ps (cv K φ):=by
 refine F.ok S (fun vs H Q E ⟨F,qs,Qp,s,r,h,_⟩=>by rw[r.length];exact hl qs Qp h) (fun f cdv A outer s H vs Q E hr ⟨F,qs,Qp,sm,r,h,kk⟩=>?_)
 refine⟨_,hb f cdv A outer s H E hr,F,H,F,kS N qs,PEnds.of Qp,?_,hφ qs Qp h,?_⟩
 ·exact⟨s9 sm N r,.refl sm,fun i a o=>(kq o).elim,fun i j a o _=>(kq o).elim⟩
 ·exact⟨fun F' H' σ' ρ' q b=>kk (.v .non) .non F' H' q b.gr rfl,fun F' H' σ' ρ' q b=>q.elim,fun F' H' σ' ρ' q b=>q.elim,fun p v F' H' q g rr=>kk (.v p) v F' H' q g rr,fun ps a vs F' H' q g h0 hF hH rs=>kk (.n ps) (.ref a) F' H' q g ⟨a,vs,rfl,h0,hF,hH,rs⟩⟩
end Pu
end
section
namespace Pu
open PySem PySem.Spec L2
theorem Def.imp {P:Program}{w:World}{K:PySem.W.Frag}{mg:Str->Option Value}{base:Heap}{k:Nat}{x:Str}{ps:List Str}{sp sp':Sp}(d:Def P w K mg base k x ps sp)(h:∀vs H Q E,sp' vs H Q E->sp vs H Q E):Def P w K mg base k x ps sp':=by
 obtain⟨f,fd,F,r⟩:=d
 exact⟨f,fd,F.imp h,r⟩
section
variable {X:Cx}{e a b c l tg iter:Expr}{pos:Pos}{te ta tb:gQ}{t:jC}{st:Stmt}{i j:Nat}
theorem RdV.all {K:PySem.W.Frag}{F H:Hp}{p:PV}{v:V}(s:Same F H)(r:RdV K F H p v):Rep K H p v:=by
 cases r with
 |frz r=>exact r.mono s
 |own h1 h2 h3=>exact⟨_,_,rfl,h1,h3.mono s⟩
 |dic h1 h2 h3 h4=>exact⟨_,_,rfl,h1,h3,h4.mono s⟩
theorem RdVs.all {K:PySem.W.Frag}{F H:Hp}{ps:List PV}{vs:List V}(s:Same F H)(r:RdVs K F H ps vs):Reps K H ps vs:=by
 induction r with
 |nil=>rfl
 |cons r _ ih=>exact⟨_,_,rfl,r.all s,ih⟩
noncomputable def OkLo:PV->(List PV->Prop)->Prop
 |.lst ps,Q=>Q ps
 |_,_=>False
theorem OkLo.rd {K:PySem.W.Frag}{F H:Hp}{p:PV}{v:V}{Q:List PV->Prop}(h:OkLo p Q)(s:Same F H)(r:RdV K F H p v):∃a vs ps,p=.lst ps/\v=.ref a/\H a=some (.lst vs)/\Reps K F ps vs/\Q ps:=by
 cases r with
 |frz r=>
  cases p<;>first|exact h.elim|skip
  obtain⟨a,vs,rfl,e,r⟩:=r;exact⟨a,vs,_,rfl,rfl,s _ _ e,r,h⟩
 |own h1 h2 h3=>exact⟨_,_,_,rfl,rfl,h1,h3,h⟩
 |dic=>exact h.elim
noncomputable def L3 (ta tb:gQ):uk:=fun ρ Q=>ta ρ fun x=>tb ρ fun y=>OkLo x fun ps=>OkLo y fun qs=>ps.length+qs.length≤sizeLine/\Q (ps++qs)
theorem EZ (ha:jz X a ta)(hb:jz X b tb):vK X (.BinOp a .Add b pos) (L3 ta tb):=PE.weak (AL Fd ha hb) fun σ H Q hh_=>hh_.elim fun F ρ Qp er q k=>
 ⟨F,ρ,_,er,q,fun p v F1 H1 q1 g1 r1=>⟨F1,ρ,_,er.grow g1,q1,fun p2 v2 F2 H2 q2 g2 r2=>by
  obtain⟨a,vs,ps,rfl,rfl,h1,rs,q2⟩:=q2.rd g2.fh (r1.grow g2)
  obtain⟨b,us,qs,rfl,rfl,h2,rs2,q2⟩:=q2.rd g2.fh r2
  exact⟨a,b,vs,us,rfl,rfl,h1,h2,by rw[rs.length,rs2.length];exact q2.1,fun p hp=>k _ p _ F2 _ q2.2 ((g1.trans g2).trans (.newO g2.fh hp _)) ((g1.trans g2).hh.free hp) (g2.fh.free hp) aw (rs.app rs2)⟩⟩⟩
noncomputable def Ll (ta tb:gQ):uk:=fun ρ Q=>ta ρ fun x=>tb ρ fun y=>OkLo x fun ps=>OkI y fun k=>-(2 ^ 63)≤k/\k<2 ^ 63/\ps.length * k.toNat≤sizeLine/\Q (List.replicate k.toNat ps).flatten
theorem Reps.repF {K:PySem.W.Frag}{F:Hp}{ps:List PV}{vs:List V}(h:Reps K F ps vs):∀n,Reps K F (List.replicate n ps).flatten (List.replicate n vs).flatten
 |0=>rfl
 |n+1=>by rw[List.replicate_succ,List.replicate_succ,List.flatten_cons,List.flatten_cons];exact h.app (Reps.repF h n)
theorem Gg (ha:jz X a ta)(hb:jz X b tb):vK X (.BinOp a .Mult b pos) (Ll ta tb):=PE.weak (AL FX ha hb) fun σ H Q hh_=>hh_.elim fun F ρ Qp er q k=>
 ⟨F,ρ,_,er,q,fun p v F1 H1 q1 g1 r1=>⟨F1,ρ,_,er.grow g1,q1,fun p2 v2 F2 H2 q2 g2 r2=>by
  obtain⟨a,vs,ps,rfl,rfl,h1,rs,q2⟩:=q2.rd g2.fh (r1.grow g2)
  obtain⟨n,rfl,rfl,q2⟩:=q2.rd r2
  exact⟨a,n,vs,rfl,rfl,h1,q2.1,q2.2.1,by rw[rs.length];exact q2.2.2.1,fun p hp=>k _ p _ F2 _ q2.2.2.2 ((g1.trans g2).trans (.newO g2.fh hp _)) ((g1.trans g2).hh.free hp) (g2.fh.free hp) aw (rs.repF _)⟩⟩⟩
noncomputable def eZ:Nat->List PV->List PV
 |_,[]=>[]
 |k,p::ps=>.tup [.int k,p]::eZ (k+1) ps
theorem qy:∀(k:Nat) (ps:List PV),(eZ k ps).length=ps.length
 |_,[]=>rfl
 |k,_::ps=>by rw[eZ,List.length_cons,List.length_cons,qy]
theorem qo:∀(k:Nat) (ps:List PV) (i:Nat),(eZ k ps)[i]?=(ps[i]?).map fun p=>.tup [.int ((k+i:Nat):Int),p]
 |_,[],i=>by simp[eZ]
 |k,p::ps,0=>by simp[eZ]
 |k,p::ps,i+1=>by
  rw[eZ,List.getElem?_cons_succ,List.getElem?_cons_succ,qo,show k+1+i=k+(i+1) by omega]
noncomputable def LX (i j:Nat)(t:jC):jx:=fun D ρ=>t ρ fun ps=>Two ps fun p q=>D.nx ((ρ.set i (some (.val p))).set j (some (.val q)))
theorem DT (h:PS X st (fU i j (lA X.K t))):nj X st (LX i j t):=PS.weak h fun D σ H hh_=>hh_.elim fun F0 H0 F ρ Dp br h ft=>⟨F,ρ,_,br.er,h,fun ps vs F1 H1 h1 g1 r1=>by
 unfold Two at h1
 split at h1
 ·obtain⟨v,r,rfl,r1,v2,r2,e2,r3,e3⟩:=r1
  subst e2
  cases (show r2=[] from e3)
  exact⟨v,v2,rfl,ft.nx F1 H1 _ _ h1 (((br.grow g1).setV r1).setV r3)⟩
 ·exact h1.elim⟩
end
end Pu
end
section
namespace L2
open PySem PySem.Spec PyProof.Rows
noncomputable def Eb:R2:=fun x y H Q=>∃l k xs,x=.ref l/\y=.int k/\H l=some (.tup xs)/\xs≠[]/\1≤k/\k≤1000/\xs.length≤1000/\(k=1->Q (.ref l) H)/\(k≠1->∀p,H p=none->Q (.ref p) (upd H p (.tup (List.replicate k.toNat xs).flatten)))
theorem Bk {X:Cx}:kj X (binaryOp .Mult) Eb:=by
 intro pins s σ H x y v u Q I rx ry h
 obtain⟨l,k,xs,rfl,rfl,hH,hx,k1,k2,k3,q⟩:=h
 cases rx
 obtain⟨t,rfl⟩:=ry
 obtain⟨its,r,p1,z⟩:=I.tuple (SqT.of' hH)
 obtain⟨⟨cls,dd,data,sl⟩,e,hc,n,hd⟩:=id p1
 simp only at hc hd
 subst hc hd
 have hl:=r.length
 have z1:sizeLine ≥ 1000000:=by decide
 have hne:its≠[]:=fun w=>hx (r.nil_iff.mp w)
 have oB:its.length * k.toNat≤1000 * 1000:=Nat.mul_le_mul (by omega) (by omega)
 refine wpAny_binaryOp_repeat_ref (T:="tuple") (U:="int") (by decide) ⟨_,e,rfl⟩ (fun s'=>typeIs_int s' k t) mt PySem.F.fills_int_mul PySem.F.slot_int_rmul rB PySem.F.slot_int_index.lookup
  (call_meets PySem.F.slot_int_rmul (typeIs_int s k t) PySem.F.entry_int_rmul (PySem.F.args_int_rmul_2 _ _) (oT k t l its.toArray n dd sl) ⟨e,rfl,⟨_,e,rfl⟩,?_⟩)
 by_cases hk:k=1
 ·subst hk
  refine call_meets PySem.F.slot_tuple_mul ⟨_,e,rfl⟩ PySem.F.entry_tuple_mul (PySem.F.args_tuple_mul_2 _ _) (nY l its.toArray n dd sl t) ⟨e,?_⟩
  exact⟨.ref l,H,I,rfl,q.1 rfl⟩
 ·have hsz:((its.toArray.size:Nat):Int) * k=((its.length * k.toNat:Nat):Int):=by
   rw[List.size_toArray,Int.natCast_mul,Int.toNat_of_nonneg (by omega)]
  refine call_meets PySem.F.slot_tuple_mul ⟨_,e,rfl⟩ PySem.F.entry_tuple_mul (PySem.F.args_tuple_mul_2 _ _) (pH l its.toArray n dd sl k t ?a1 ?a2 ?a3 ?a4 ?a5 ?a6) ⟨e,?_⟩
  case a1=>simp;omega
  case a2=>simp[hne];exact hk
  case a3=>simp[hne];omega
  case a4=>rw[hsz];omega
  case a5=>
   rw[hsz]
   intro hh
   have h2:=of_decide_eq_true hh
   omega
  case a6=>
   rw[ou,List.size_toArray,rW,Nat.mul_comm]
   omega
  rw[ou]
  refine⟨.ref s.heap.objs.size,_,I.laid (t':=s.toks) (o:=.tup (List.replicate k.toNat xs).flatten) (fun b ob q=>Heap.get?_push_of_some _ q) (Nat.le_refl _) ?_,rfl,q.2 hk _ (I.hok.fresh (Nat.le_refl _))⟩
  exact⟨by rw[rW,Nat.mul_comm,hl];omega,_,r.rep k.toNat,IsTup.new _ _⟩
end L2
namespace Pu
open PySem PySem.Spec L2
section
variable {X:Cx}{e a b c l tg iter:Expr}{pos:Pos}{te ta tb:gQ}{t:jC}{st:Stmt}{i j:Nat}
noncomputable def Kp:kc:=fun x y Q=>OkT x fun ps=>OkI y fun k=>ps≠[]/\1≤k/\k≤1000/\ps.length≤1000/\Q (.tup (List.replicate k.toNat ps).flatten)
theorem BT:h7 X.K Eb Kp:=fun F H x y p q Qp Q s rx ry h k=>by
 obtain⟨a,vs,ps,rfl,rfl,hF,rs,h⟩:=h.rd rx
 obtain⟨n,rfl,rfl,h1,h2,h3,h4,h⟩:=h.rd ry
 have hl:=rs.length
 refine⟨a,n,vs,rfl,rfl,s _ _ hF,fun e=>?_,h2,h3,by omega,fun e=>?_,fun e p hp=>?_⟩
 ·subst e
  exact h1 (List.length_eq_zero_iff.mp hl.symm)
 ·subst e
  refine k _ _ F H h (.refl s) ⟨a,vs,rfl,hF,?_⟩
  simpa using rs
 ·exact k _ _ _ _ h (.new s hp _) ⟨p,_,rfl,aw,(rs.repF _).mono (b0 (s.free hp) _)⟩
theorem C6 (ha:jz X a ta)(hb:jz X b tb):hG X (.BinOp a .Mult b pos) (u7 Kp ta tb):=lq Bk BT ha hb
noncomputable def Es:kc:=fun x y Q=>OkT x fun ps=>OkT y fun qs=>ps≠[]/\ps.length+qs.length≤sizeLine/\Q (.tup (ps++qs))
theorem BA:h7 X.K (EK X.K) Es:=fun F H x y p q Qp Q s rx ry h k=>by
 obtain⟨a,vs,ps,rfl,rfl,hF,rs,h⟩:=h.rd rx
 obtain⟨b,us,qs,rfl,rfl,hF2,rs2,h1,h2,h⟩:=h.rd ry
 have hl:=rs.length
 have hl2:=rs2.length
 refine⟨a,b,vs,us,rfl,rfl,SqT.of (s _ _ hF),SqT.of (s _ _ hF2),fun e=>?_,by omega,fun e=>?_,fun e p hp=>?_⟩
 ·subst e
  exact h1 (List.length_eq_zero_iff.mp hl.symm)
 ·subst e
  have:qs=[]:=List.length_eq_zero_iff.mp hl2.symm
  subst this
  rw[List.append_nil] at h
  exact k _ _ F H h (.refl s) ⟨a,vs,rfl,hF,rs⟩
 ·exact k _ _ _ _ h (.new s hp _) ⟨p,_,rfl,aw,(rs.app rs2).mono (b0 (s.free hp) _)⟩
theorem Dh (ha:jz X a ta)(hb:jz X b tb):hG X (.BinOp a .Add b pos) (u7 Es ta tb):=lq CJ BA ha hb
noncomputable def LB (te:gQ)(tl th:yx):gQ:=fun ρ Q=>te ρ fun x=>tl ρ fun l=>th ρ fun h=>OkT x fun ps=>¬(HT.sIx ps.length 0 l=0/\HT.sIx ps.length ps.length h=ps.length)/\Q (.tup (cut ps l h))
theorem GL {lo hi:Option Expr}{tl th:yx}{p2:Pos}(he:jz X e te)(hl:DV X lo tl)(hh:DV X hi th):hG X (.Subscript e (.Slice lo hi none p2) pos) (LB te tl th):=PE.weak (sN HQ he hl hh) fun σ H Q hh_=>hh_.elim fun F ρ Qp er q k=>⟨F,ρ,_,er,q,fun p v F1 H1 h1 g1 r1=>
 ⟨F1,ρ,_,er.grow g1,h1,fun l F2 H2 h2 g2=>⟨F2,ρ,_,(er.grow g1).grow g2,h2,fun h F3 H3 h3 g3=>by
  have gg:=(g1.trans g2).trans g3
  obtain⟨a,vs,ps,rfl,rfl,hF,rs,hn,q⟩:=h3.rd (r1.grow (g2.trans g3))
  refine⟨a,vs,rfl,SqT.of (gg.fh _ _ hF),by rw[rs.length];exact hn,fun p hp=>k _ _ _ _ q (gg.trans (.new gg.fh hp _)) ⟨p,_,rfl,aw,rs.cut.mono (b0 (gg.fh.free hp) _)⟩⟩⟩⟩⟩
noncomputable def K9:PV->Bool
 |.tup ps=>match ps with
  |[.int _,.int _]=>true
  |_=>false
 |_=>false
end
end Pu
end
section
namespace Pu
open PySem PySem.Spec L2
noncomputable def KI (n:Nat)(ps:List PV):ay:=ps.map (fun p=>some (Sl.val p))++List.replicate (n - ps.length) none
noncomputable def p5 (K:PySem.W.Frag):Sp:=fun vs H Q _=>∃(a:Addr) (ns:List Int),vs=[.ref a]/\SqL K H a (ns.map V.int)/\ns.length≤63/\∀H',Q (.bl true) H'
theorem ke {K:PySem.W.Frag}{F:Hp}:∀(ns:List Int),Reps K F (ns.map PV.int) (ns.map V.int)
 |[]=>rfl
 |n::ns=>⟨_,_,rfl,rfl,ke ns⟩
theorem x5 {X:Cx}{body:List Stmt}{ts:jx}{N:List Str}{H:Hp}{vs:List V}{Q:VK}{E:XK}(hb:oj X body ts)(h:p5 X.K vs H Q E)
  (hp:∀ns:List Int,ns.length≤63->ts (PEnds.of (fun r=>r=.v (.bl true))) (KI N.length [.src (ns.map PV.int)])):∃t,PSs X body t/\t { nx:=fun _ H'=>Q .non H',rt:=Q } (L2.be N vs) H:=by
 obtain⟨a,ns,rfl,hS,hl,q⟩:=h
 refine⟨_,hb,H,H,H,KI N.length [.src (ns.map PV.int)],_,?_,hp ns hl,?_⟩
 ·have er:=s9 (K:=X.K) (Same.refl H) N (ps:=[.src (ns.map PV.int)]) (vs:=[.ref a]) ⟨_,_,rfl,⟨a,_,rfl,hS,ke ns⟩,rfl⟩
  exact⟨er,.refl (Same.refl H),fun i a o=>(kq o).elim,fun i j a o _=>(kq o).elim⟩
 ·refine⟨fun F' H' σ' ρ' q b=>?_,fun F' H' σ' ρ' q b=>q.elim,fun F' H' σ' ρ' q b=>q.elim,fun p v F' H' e g rr=>?_,fun ps a vs F' H' e g h0 hF hH rs=>?_⟩
  ·have e:PR.v .non=PR.v (.bl true):=q
   cases e
  ·have e':PR.v p=PR.v (.bl true):=e
   cases e'
   cases (show v=.bl true from rr)
   exact q H'
  ·have e':PR.n ps=PR.v (.bl true):=e
   cases e'
theorem Lk {l:PySem.W.OpenLaw}{q:Program}{loose:List Str}{XP:(Str->Option Value)->Heap->Prop}{YP:World->Heap->Prop}{d:DefRec}{K:Params->PySem.W.Frag}{k:Nat}(hk:k≤40)(hn:l.most=some 63)(hdf:d.params.defaults=[])
  (hY:∀(w:World) (h:Heap),YP w h->(K w.params).In h)
  (F:∀(w:World) (mg:Str->Option Value) (fa:Addr) (h:Heap),(K w.params).In h->h.Ns mainGlobals mg->mg d.name=some (.ref fa) →
   ∃fd:FuncData,(∀(s:Shared) (u:Value),BindsTo s fd ⟨[u],[]⟩ [("_law_script",u)])/\∀base:Heap,(K w.params).In base/\base.Ns mainGlobals mg->FnOk l.prog w (K w.params) mg base uQ k fa fd ["_law_script"] (p5 (K w.params))) :
  PySem.W.WalkO q loose XP YP l.row.toRowW d [] (fun f vs=>PySem.call f vs):=by
 have R:Room 40 callerA:=⟨rfl,by decide,by decide⟩
 exact L2.CY (n:=63) (k:=k) (x:="_law_script") (CX:=fun _=>uQ) (sp:=fun w=>p5 (K w.params)) hn (by first|decide|omega) hdf (R.mono hk) hY (fun w mg fa h a b c=>let ⟨fd,x,y⟩:=F w mg fa h a b c;⟨fd,x,fun base p1 p2=>y base ⟨p1,p2⟩⟩)
  (fun _ _ a ns hl _ hS=>⟨a,ns,rfl,hS,hl,fun _=>rfl⟩) fun _ _ _ _ _ z=>z
end Pu
end
section
namespace Fo
noncomputable abbrev up (us:List Nat)(x:Nat):Nat:=us.getD x 0
theorem bv {us:List Nat}{x v t:Nat}(hx:x<us.length):up (us.set x v) t=if t=x then v else up us t:=by
 simp only[up,List.getD_eq_getElem?_getD,List.getElem?_set]
 by_cases h:x=t
 ·subst h;simp[hx]
 ·simp[h,Ne.symm h]
structure Fst (us:List Nat):Prop where
 bnd:∀x,x<us.length->up us x<us.length
 rk:∃r:Nat->Nat,(∀x,x<us.length->r x<us.length)/\∀x,x<us.length->up us x≠x->r (up us x)<r x
inductive Way (us:List Nat):Nat->List Nat->Prop where
 |head {x:Nat}:up us x=x->Way us x [x]
 |step {x:Nat} {l:List Nat}:up us x≠x->Way us (up us x) l->Way us x (x::l)
theorem Way.det {us:List Nat}{x:Nat}{l l':List Nat}(h:Way us x l)(h':Way us x l'):l=l':=by
 induction h generalizing l' with
 |head e=>cases h' with
  |head _=>rfl
  |step n _=>exact absurd e n
 |step n _ ih=>cases h' with
  |head e=>exact absurd e n
  |step _ q=>rw[ih q]
theorem Way.ne {us:List Nat}{x:Nat}{l:List Nat}(h:Way us x l):l≠[]:=by cases h<;>simp
theorem Way.pos {us:List Nat}{x:Nat}{l:List Nat}(h:Way us x l):1≤l.length:=by cases h<;>simp
theorem Way.cons {us:List Nat}{x:Nat}{l:List Nat}(h:Way us x l):∃t,l=x::t:=by cases h<;>simp
theorem Way.mem_self {us:List Nat}{x:Nat}{l:List Nat}(h:Way us x l):x∈l:=by cases h<;>simp
noncomputable def cp (l:List Nat):Nat:=l.getLastD 0
theorem bM {x:Nat}{l:List Nat}(h:l≠[]):cp (x::l)=cp l:=by
 cases l with
 |nil=>exact absurd rfl h
 |cons y t=>simp[cp,List.getLastD_cons]
theorem oz {l:List Nat}(h:l≠[]):cp l∈l:=by
 induction l with
 |nil=>exact absurd rfl h
 |cons y t ih=>
  cases t with
  |nil=>simp[cp]
  |cons z t=>rw[bM (by simp)];exact List.mem_cons_of_mem _ (ih (by simp))
theorem Way.head_last {us:List Nat}{x:Nat}{l:List Nat}(h:Way us x l):up us (cp l)=cp l:=by
 induction h with
 |head e=>exact e
 |step _ w ih=>rw[bM w.ne];exact ih
theorem Way.lt {us:List Nat}{x:Nat}{l:List Nat}(h:Way us x l)(b:∀x,x<us.length->up us x<us.length)(hx:x<us.length):∀y∈l,y<us.length:=by
 induction h with
 |head e=>intro y hy;rw[List.mem_singleton] at hy;subst hy;exact hx
 |step n w ih=>
  intro y hy
  rcases List.mem_cons.mp hy with rfl|hy
  ·exact hx
  ·exact ih (b _ hx) y hy
theorem Way.rank {us:List Nat}{x:Nat}{l:List Nat}(h:Way us x l)(b:∀x,x<us.length->up us x<us.length){r:Nat->Nat}(hr:∀x,x<us.length->up us x≠x->r (up us x)<r x)(hx:x<us.length):∀y∈l,r y≤r x:=by
 induction h with
 |head e=>intro y hy;rw[List.mem_singleton] at hy;subst hy;exact Nat.le_refl _
 | @step x l n w ih=>
  intro y hy
  rcases List.mem_cons.mp hy with rfl|hy
  ·exact Nat.le_refl _
  ·exact Nat.le_trans (ih (b _ hx) y hy) (Nat.le_of_lt (hr x hx n))
theorem Way.nodup {us:List Nat}{x:Nat}{l:List Nat}(h:Way us x l)(f:Fst us)(hx:x<us.length):l.Nodup:=by
 obtain⟨b,r,hb,hr⟩:=f
 induction h with
 |head e=>simp
 | @step x l n w ih=>
  refine List.nodup_cons.mpr ⟨fun hm=>?_,ih (b _ hx)⟩
  have h1:=w.rank b hr (b _ hx) x hm
  have h2:=hr x hx n
  omega
theorem Fst.way {us:List Nat}(f:Fst us){x:Nat}(hx:x<us.length):∃l,Way us x l/\l.length≤us.length:=by
 obtain⟨b,r,hb,hr⟩:=f
 suffices h:∀k x,x<us.length->r x≤k->∃l,Way us x l/\l.length≤k+1 by
  obtain⟨l,w,hl⟩:=h (r x) x hx (Nat.le_refl _)
  exact⟨l,w,by have:=hb x hx;omega⟩
 intro k
 induction k with
 |zero=>
  intro x hx h0
  by_cases e:up us x=x
  ·exact⟨_,.head e,by simp⟩
  ·exact absurd (hr x hx e) (by omega)
 |succ k ih=>
  intro x hx h0
  by_cases e:up us x=x
  ·exact⟨_,.head e,by simp⟩
  ·obtain⟨l,w,hl⟩:=ih (up us x) (b x hx) (by have:=hr x hx e;omega)
   exact⟨_,.step e w,by simp;omega⟩
theorem Way.congr {us us':List Nat}{x:Nat}{l:List Nat}(h:Way us x l)(e:∀y∈l,up us' y=up us y):Way us' x l:=by
 induction h with
 | @head x q=>exact .head (by rw[e x (by simp),q])
 | @step x l n w ih=>
  have q:up us' x=up us x:=e x (by simp)
  exact .step (by rw[q];exact n) (by rw[q];exact ih fun y hy=>e y (List.mem_cons_of_mem _ hy))
theorem Way.closed {us:List Nat}{x:Nat}{l:List Nat}(h:Way us x l):∀y∈l,up us y∈l:=by
 induction h with
 | @head x q=>intro y hy;rw[List.mem_singleton] at hy;subst hy;rw[q];simp
 | @step x l n w ih=>
  intro y hy
  rcases List.mem_cons.mp hy with rfl|hy
  ·exact List.mem_cons_of_mem _ w.mem_self
  ·exact List.mem_cons_of_mem _ (ih y hy)
theorem Way.later {us:List Nat}{x:Nat}{l:List Nat}(h:Way us x l):∀y∈l,∃l2,Way us y l2/\cp l2=cp l/\l2.length≤l.length/\∀z∈l2,z∈l:=by
 induction h with
 | @head x q=>intro y hy;rw[List.mem_singleton] at hy;subst hy;exact⟨_,.head q,rfl,Nat.le_refl _,fun _ h=>h⟩
 | @step x l n w ih=>
  intro y hy
  rcases List.mem_cons.mp hy with rfl|hy
  ·exact⟨_,.step n w,rfl,Nat.le_refl _,fun _ h=>h⟩
  ·obtain⟨l2,a,b,c,d⟩:=ih y hy
   exact⟨l2,a,by rw[b,bM w.ne],by simp;omega,fun z hz=>List.mem_cons_of_mem _ (d z hz)⟩
structure Shorter (us us':List Nat):Prop where
 len:us'.length=us.length
 up:∀t,t<us.length->(up us t=t/\Fo.up us' t=t)\/(Fo.up us t≠t/\∃l,Way us (Fo.up us t) l/\Fo.up us' t∈l)
theorem Shorter.refl {us:List Nat}(f:Fst us):Shorter us us:=⟨rfl,fun t ht=>by
 by_cases e:Fo.up us t=t
 ·exact .inl ⟨e,e⟩
 ·obtain⟨l,w,_⟩:=f.way (f.bnd t ht)
  exact .inr ⟨e,l,w,w.mem_self⟩⟩
theorem Shorter.fst {us us':List Nat}(s:Shorter us us')(f:Fst us):Fst us':=by
 obtain⟨b,r,hb,hr⟩:=f
 refine⟨fun x hx=>?_,r,fun x hx=>?_,fun x hx hn=>?_⟩
 ·rw[s.len] at hx ⊢
  rcases s.up x hx with ⟨_,e⟩|⟨_,l,w,m⟩
  ·rw[e];exact hx
  ·exact w.lt b (b x hx) _ m
 ·rw[s.len] at hx ⊢;exact hb x hx
 ·rw[s.len] at hx
  rcases s.up x hx with ⟨_,e⟩|⟨n,l,w,m⟩
  ·exact absurd e hn
  ·exact Nat.lt_of_le_of_lt (w.rank b hr (b x hx) _ m) (hr x hx n)
theorem Shorter.way {us us':List Nat}(s:Shorter us us')(f:Fst us){t:Nat}(ht:t<us.length){l:List Nat}(w:Way us t l):∃l',Way us' t l'/\cp l'=cp l/\l'.length≤l.length:=by
 obtain⟨b,r,hb,hr⟩:=f
 suffices h:∀k t,t<us.length->r t≤k->∀l,Way us t l->∃l',Way us' t l'/\cp l'=cp l/\l'.length≤l.length from h (r t) t ht (Nat.le_refl _) l w
 intro k
 induction k with
 |zero=>
  intro t ht h0 l w
  rcases s.up t ht with ⟨e,e'⟩|⟨n,_⟩
  ·cases w with
   |head _=>exact⟨_,.head e',rfl,Nat.le_refl _⟩
   |step n _=>exact absurd e n
  ·exact absurd (hr t ht n) (by omega)
 |succ k ih=>
  intro t ht h0 l w
  rcases s.up t ht with ⟨e,e'⟩|⟨n,l1,w1,m⟩
  ·cases w with
   |head _=>exact⟨_,.head e',rfl,Nat.le_refl _⟩
   |step n _=>exact absurd e n
  ·cases w with
   |head e=>exact absurd e n
   | @step _ l0 _ w0=>
    obtain rfl:=w0.det w1
    obtain⟨l2,w2,e2,c2,_⟩:=w0.later _ m
    have hy:Fo.up us' t<us.length:=w0.lt b (b t ht) _ m
    have hry:r (Fo.up us' t)<r t:=Nat.lt_of_le_of_lt (w0.rank b hr (b t ht) _ m) (hr t ht n)
    obtain⟨l3,w3,e3,c3⟩:=ih _ hy (by omega) l2 w2
    refine⟨t::l3,.step (fun e=>?_) w3,?_,?_⟩
    ·rw[e] at hry;omega
    ·rw[bM w3.ne,e3,e2,bM w0.ne]
    ·simp;omega
inductive Halv:List Nat->Nat->Nat->List Nat->Nat->Prop where
 |stop {us:List Nat} {x:Nat}:up us x=x->Halv us x x us 0
 |step {us:List Nat} {x h n:Nat} {us':List Nat}:up us x≠x->Halv (us.set x (up us (up us x))) (up us (up us x)) h us' n->Halv us x h us' (n+1)
inductive Splt:List Nat->Nat->Nat->List Nat->Nat->Prop where
 |stop {us:List Nat} {x:Nat}:up us x=x->Splt us x x us 0
 |step {us:List Nat} {x h n:Nat} {us':List Nat}:up us x≠x->Splt (us.set x (up us (up us x))) (up us x) h us' n->Splt us x h us' (n+1)
theorem Way.set {us:List Nat}{x y v:Nat}{l:List Nat}(w:Way us y l)(hx:x<us.length)(h:x∉l):Way (us.set x v) y l:=
 w.congr fun z hz=>by rw[bv hx,if_neg (fun e:z=x=>h (e▸hz))]
theorem Cs {x:Nat}{l:List Nat}:∀{us:List Nat},Way us x l->l.Nodup->(∀y∈l,y<us.length)->∃us',Splt us x (cp l) us' (l.length - 1)/\us'.length=us.length/\∀t,up us' t=if t∈l then up us (up us t) else up us t:=by
 induction l generalizing x with
 |nil=>intro us w;exact absurd rfl w.ne
 |cons z l ih=>
  intro us w nd hl
  cases w with
  |head e=>exact⟨us,.stop e,rfl,fun t=>by
    by_cases h:t∈[z]
    ·rw[List.mem_singleton] at h;subst h;rw[if_pos (by simp),e,e]
    ·rw[if_neg h]⟩
  |step n w=>
   have hz:z<us.length:=hl z (by simp)
   obtain⟨nz,nd⟩:=List.nodup_cons.mp nd
   obtain⟨us',a,b,c⟩:=ih (w.set (v:=up us (up us z)) hz nz) nd fun y hy=>by rw[List.length_set];exact hl y (List.mem_cons_of_mem _ hy)
   have pos:=w.pos
   refine⟨us',?_,by rw[b,List.length_set],fun t=>?_⟩
   ·rw[bM w.ne]
    have:(z::l).length - 1=(l.length - 1)+1:=by simp;omega
    rw[this]
    exact .step n a
   ·rw[c]
    have cl:=w.closed
    by_cases h1:t∈l
    ·have h2:t≠z:=fun e=>nz (e▸h1)
     have h3:up us t≠z:=fun e=>nz (e▸cl t h1)
     rw[if_pos h1,if_pos (List.mem_cons_of_mem _ h1),bv hz,bv hz,if_neg h2,if_neg h3]
    ·rw[if_neg h1,bv hz]
     by_cases h2:t=z
     ·subst h2;simp
     ·rw[if_neg h2,if_neg (by simp[h1,h2])]
noncomputable def fH:List Nat->List Nat
 |[]=>[]
 |[x]=>[x]
 |x::_::l=>x::fH l
theorem iX:∀(l:List Nat) (x:Nat),x∈fH l->x∈l
 |[],_,h=>h
 |[_],_,h=>h
 |x::y::l,z,h=>by
  rcases List.mem_cons.mp h with rfl|h
  ·simp
  ·exact List.mem_cons_of_mem _ (List.mem_cons_of_mem _ (iX l z h))
theorem wa:∀(l:List Nat) {x:Nat} {us:List Nat},Way us x l->l.Nodup->(∀y∈l,y<us.length)->∃us',Halv us x (cp l) us' (l.length / 2)/\us'.length=us.length/\∀t,up us' t=if t∈fH l then up us (up us t) else up us t
 |[],_,_,w,_,_=>absurd rfl w.ne
 |[z],_,us,w,nd,hl=>by
  cases w with
  |head e=>exact⟨us,(show ([z].length / 2=0) from (by simp))▸Halv.stop e,rfl,fun t=>by
    by_cases h:t∈fH [z]
    ·have h':t∈[z]:=h
     rw[List.mem_singleton] at h';subst h';rw[if_pos h,e,e]
    ·rw[if_neg h]⟩
  |step n w=>exact absurd rfl w.ne
 |z::y::l,_,us,w,nd,hl=>by
  cases w with
  |step n w=>
   have hz:z<us.length:=hl z (by simp)
   obtain⟨nz,nd⟩:=List.nodup_cons.mp nd
   cases w with
   |head e=>
    refine⟨us.set z (up us z),?_,by rw[List.length_set],fun t=>?_⟩
    ·have q:Halv (us.set z (up us (up us z))) (up us (up us z)) (up us z) (us.set z (up us z)) 0:=by
      rw[e]
      exact .stop (by rw[bv hz,if_neg n,e])
     have h1:[z,up us z].length / 2=0+1:=by simp
     rw[h1]
     exact Halv.step n q
    ·rw[bv hz]
     by_cases h:t=z
     ·subst h;rw[if_pos rfl,if_pos (by simp[fH]),e]
     ·rw[if_neg h,if_neg (by simp[fH,h])]
   |step n2 w=>
    have hm:z∉l:=fun h=>nz (List.mem_cons_of_mem _ h)
    obtain⟨us',a,b,c⟩:=wa l (w.set (v:=up us (up us z)) hz hm) (List.nodup_cons.mp nd).2 fun q hq=>by rw[List.length_set];exact hl q (List.mem_cons_of_mem _ (List.mem_cons_of_mem _ hq))
    refine⟨us',?_,by rw[b,List.length_set],fun t=>?_⟩
    ·have e3:cp (z::up us z::l)=cp l:=by rw[bM (by simp),bM w.ne]
     have e4:(z::up us z::l).length / 2=l.length / 2+1:=by simp;omega
     rw[e3,e4]
     exact Halv.step n a
    ·rw[c]
     have cl:=w.closed
     by_cases h1:t∈fH l
     ·have h0:t∈l:=iX l t h1
      have h2:t≠z:=fun e=>hm (e▸h0)
      have h3:up us t≠z:=fun e=>hm (e▸cl t h0)
      rw[if_pos h1,if_pos (by simp[fH,h1]),bv hz,bv hz,if_neg h2,if_neg h3]
     ·rw[if_neg h1,bv hz]
      by_cases h2:t=z
      ·subst h2;rw[if_pos rfl,if_pos (by simp[fH])]
      ·rw[if_neg h2,if_neg (by simp[fH,h1,h2])]
end Fo
end
section
namespace Fo
open PySem
noncomputable def t9 (us:List Nat)(x h:Nat)(us':List Nat)(n:Nat):Prop:=us'=us/\∃l,Way us x l/\h=cp l/\n+1=l.length
noncomputable def qP (us:List Nat)(x h:Nat)(us':List Nat)(n:Nat):Prop:=∃l,Way us x l/\h=cp l/\n=l.length / 2/\us'.length=us.length/\∀t,up us' t=if t∈fH l then up us (up us t) else up us t
noncomputable def qF (us:List Nat)(x h:Nat)(us':List Nat)(n:Nat):Prop:=∃l,Way us x l/\h=cp l/\n+1=l.length/\us'.length=us.length/\∀t,up us' t=if t∈l then up us (up us t) else up us t
noncomputable def Fc (us:List Nat)(x h:Nat)(us':List Nat)(n:Nat):Prop:=us'=us.set x (up us (up us x))/\∃l,Way us x l/\h=cp l/\n+1=l.length
noncomputable def uP (us:List Nat)(x h:Nat)(us':List Nat)(n:Nat):Prop:=∃l,Way us x l/\h=cp l/\n+1=l.length/\us'.length=us.length/\∀t,up us' t=if t∈l then h else up us t
inductive RM:Str->List Nat->Nat->Nat->List Nat->Nat->Prop where
 |none {us x h us' n}:t9 us x h us' n->RM "none" us x h us' n
 |whole {us x h us' n}:uP us x h us' n->RM "whole" us x h us' n
 |halves {us x h us' n}:qP us x h us' n->RM "halves" us x h us' n
 |splits {us x h us' n}:qF us x h us' n->RM "splits" us x h us' n
 |one {us x h us' n}:Fc us x h us' n->RM "one" us x h us' n
noncomputable def manners:List Str:=["none","whole","halves","splits","one"]
structure Frst (us:List Nat):Prop where
 one:1≤us.length
 most:us.length≤40
 fst:Fst us
end Fo
namespace Pu
open PySem PySem.Spec L2 Fo
noncomputable def nI (n:Nat):PV:=.int n
noncomputable def ak (us:List Nat):List PV:=us.map nI
noncomputable def oy:we:=fun qs Q=>∃y:Str,qs=[.str y]/\Q (.v (.bl (decide (y∈manners))))
noncomputable def qm:we:=fun qs Q=>∃us y x,qs=[.tup (ak us),.str y,nI x]/\Frst us/\y∈manners/\x<us.length/\∀h us' n,RM y us x h us' n->Q (.v (.tup [nI h,.tup (ak us'),nI n]))
theorem Grow.tup {F H F' H':Hp}(g:Grow F H F' H'){p:Addr}{vs:List V}(h:H' p=some (.tup vs)):Grow F H (L2.upd F' p (.tup vs)) H'/\Same F' (L2.upd F' p (.tup vs)):=by
 have sm:Same F' (L2.upd F' p (.tup vs)):=fun b o e=>by
  by_cases hb:b=p
  ·subst hb;rw[aw,←h];exact (g.fh b o e)
  ·rw[aC hb];exact e
 refine⟨⟨g.hh,g.ff.trans sm,fun b o e=>?_,fun b o e=>?_⟩,sm⟩
 ·by_cases hb:b=p
  ·subst hb;rw[aw] at e;rw[h];exact e
  ·rw[aC hb] at e;exact g.fh b o e
 ·by_cases hb:b=p
  ·subst hb;rw[aw] at e;cases e;exact .inr (.inr ⟨_,rfl⟩)
  ·rw[aC hb] at e;exact g.nw b o e
theorem ql {K:PySem.W.Frag}{F:Hp}:∀(us:List Nat),Reps K F (ak us) (us.map fun n:Nat=>V.int (n:Int))
 |[]=>rfl
 |n::us=>⟨_,_,rfl,rfl,ql us⟩
theorem lD {K:PySem.W.Frag}{F:Hp}:∀{us:List Nat} {vs:List V},Reps K F (ak us) vs->vs=us.map fun n:Nat=>V.int (n:Int)
 |[],_,h=>h
 |n::us,_,⟨v,r,e,h1,h2⟩=>by
  subst e
  cases (show v=_ from h1)
  rw[lD h2];rfl
end Pu
end
section
namespace Dp
open PySem PySem.Spec L2 Pu
inductive RV where
 |fz (p:PV)|nw (ps:List PV)|ln (p:PV)
noncomputable def RV.pv:RV->PV
 |.fz p=>p
 |.nw ps=>.lst ps
 |.ln p=>p
noncomputable def RV.fr:RV->Option PV
 |.fz p=>some p
 |.nw ps=>some (.lst ps)
 |.ln _=>none
noncomputable abbrev FE:=ay->Option RV
noncomputable abbrev FB:=ay->Option Bool
noncomputable abbrev FA:=ay->Option (List RV)
noncomputable abbrev FI:=ay->Option (List PV)
noncomputable def RvOk (K:PySem.W.Frag)(H F' H':Hp)(v:V):RV->Prop
 |.fz p=>Rep K F' p v
 |.nw ps=>∃a vs,v=.ref a/\H a=none/\F' a=none/\H' a=some (.lst vs)/\Reps K F' ps vs
 |.ln p=>RdV K F' H' p v
noncomputable def lR (K:PySem.W.Frag)(f:FE):TE:=fun σ H Q=>∃F ρ r,ER K F H σ ρ/\f ρ=some r/\∀v F' H',Grow F H F' H'->RvOk K H F' H' v r->Q v H'
theorem lR.elim {K:PySem.W.Frag}{f:FE}{σ:St}{H:Hp}{Q:VK}{C:Prop}(h:lR K f σ H Q)(k:∀F ρ r,ER K F H σ ρ->f ρ=some r->(∀v F' H',Grow F H F' H'->RvOk K H F' H' v r->Q v H')->C):C:=by obtain⟨F,ρ,r,a,b,c⟩:=h;exact k F ρ r a b c
noncomputable def DE (X:Cx)(e:Expr)(f:FE):Prop:=PE X e (lR X.K f)
noncomputable def tT (f:FE):gQ:=fun ρ Q=>∃r,f ρ=some r/\Q r.pv
noncomputable def tF (f:FE):gQ:=fun ρ Q=>∃r p,f ρ=some r/\r.fr=some p/\Q p
noncomputable def tN (f:FE):uk:=fun ρ Q=>∃ps,f ρ=some (.nw ps)/\Q ps
noncomputable def EC (f:FB):mr:=fun ρ Q=>∃b,f ρ=some b/\Q b
noncomputable def IB (f:FA):jC:=fun ρ Q=>∃rs ps,f ρ=some rs/\rs.mapM RV.fr=some ps/\Q ps
noncomputable def EO (f:FA):jC:=fun ρ Q=>∃rs,f ρ=some rs/\Q (rs.map RV.pv)
noncomputable def KJ (f:FI):vV:=fun ρ Q=>∃its,f ρ=some its/\Q its
section
variable {X:Cx}{e a b c:Expr}{pos:Pos}{f fa fb fc:FE}{te t1 t2:gQ}{tn n1 n2:uk}{i:Nat}
theorem RvOk.rd {K:PySem.W.Frag}{H F' H':Hp}{v:V}:∀{r:RV},RvOk K H F' H' v r->RdV K F' H' r.pv v
 |.fz _,h=>.frz h
 |.nw _,⟨_,_,e,_,h1,h2,h3⟩=>by subst e;exact .own h2 h1 h3
 |.ln _,h=>h
theorem DE.tt (h:DE X e f):jz X e (tT f):=PE.weak h fun σ H Q hh_=>hh_.elim fun F ρ Qp er ⟨r,e,q⟩ k=>⟨F,ρ,r,er,e,fun v F' H' g ro=>k _ v F' H' q g ro.rd⟩
theorem DE.ee (h:DE X e f):hG X e (tF f):=PE.weak h fun σ H Q hh_=>hh_.elim fun F ρ Qp er ⟨r,p,e,ef,q⟩ k=>⟨F,ρ,r,er,e,fun v F' H' g ro=>by
 cases r with
 |fz p'=>cases ef;exact k _ v F' H' q g ro
 |nw ps=>
  cases ef
  obtain⟨a,vs,rfl,h0,hF,hH,rs⟩:=ro
  exact k _ _ _ H' q (g.freeze h0 hF hH) ⟨a,vs,rfl,aw,rs.mono (b0 hF _)⟩
 |ln p'=>cases ef⟩
theorem DE.nn (h:DE X e f):vK X e (tN f):=PE.weak h fun σ H Q hh_=>hh_.elim fun F ρ Qp er ⟨ps,e,q⟩ k=>⟨F,ρ,_,er,e,fun v F' H' g ro=>by
 obtain⟨a,vs,rfl,h0,hF,hH,rs⟩:=ro
 exact k ps a vs F' H' q g h0 hF hH rs⟩
theorem DE.ofE (h:hG X e te)(w:∀ρ r,f ρ=some r->∃p,r=.fz p/\te ρ (fun x=>x=p)):DE X e f:=PE.weak h fun σ H Q hh_=>hh_.elim fun F ρ r er e k=>by
 obtain⟨p,rfl,t⟩:=w ρ r e
 exact⟨F,ρ,_,er,t,fun q v F' H' hq g rr=>by subst hq;exact k v F' H' g rr⟩
theorem DE.ofN (h:vK X e tn)(w:∀ρ r,f ρ=some r->∃ps,r=.nw ps/\tn ρ (fun x=>x=ps)):DE X e f:=PE.weak h fun σ H Q hh_=>hh_.elim fun F ρ r er e k=>by
 obtain⟨p,rfl,t⟩:=w ρ r e
 exact⟨F,ρ,_,er,t,fun q a vs F' H' hq g h0 hF hH rr=>by subst hq;exact k _ F' H' g ⟨a,vs,rfl,h0,hF,hH,rr⟩⟩
theorem PE.or {t u:TE}(h:PE X e t)(h':PE X e u):PE X e (fun σ H Q=>t σ H Q\/u σ H Q):=fun pins s σ H Q I q=>q.elim (h pins s σ H Q I) (h' pins s σ H Q I)
theorem DE.of2 (hE:hG X e te)(hN:vK X e tn)(w:∀ρ r,f ρ=some r->(∃p,r=.fz p/\te ρ (fun x=>x=p))\/∃ps,r=.nw ps/\tn ρ (fun x=>x=ps)):DE X e f:=PE.weak (PE.or hE hN) fun σ H Q hh_=>hh_.elim fun F ρ r er e k=>by
 rcases w ρ r e with ⟨p,rfl,t⟩|⟨p,rfl,t⟩
 ·exact .inl ⟨F,ρ,_,er,t,fun q v F' H' hq g rr=>by subst hq;exact k v F' H' g rr⟩
 ·exact .inr ⟨F,ρ,_,er,t,fun q a vs F' H' hq g h0 hF hH rr=>by subst hq;exact k _ F' H' g ⟨a,vs,rfl,h0,hF,hH,rr⟩⟩
theorem oK (h:hG X e t1)(h':hG X e t2):hG X e (fun ρ Q=>t1 ρ Q\/t2 ρ Q):=PE.weak (PE.or h h') fun σ H Q hh_=>hh_.elim fun F ρ Qp er q k=>q.elim (fun q=>.inl ⟨F,ρ,Qp,er,q,k⟩) fun q=>.inr ⟨F,ρ,Qp,er,q,k⟩
theorem AJ (h:vK X e n1)(h':vK X e n2):vK X e (fun ρ Q=>n1 ρ Q\/n2 ρ Q):=PE.weak (PE.or h h') fun σ H Q hh_=>hh_.elim fun F ρ Qp er q k=>q.elim (fun q=>.inl ⟨F,ρ,Qp,er,q,k⟩) fun q=>.inr ⟨F,ρ,Qp,er,q,k⟩
noncomputable def sl (ρ:ay)(i:Nat):Option Sl:=(ρ[i]?).join
noncomputable def CB:Sl->RV
 |.val p=>.fz p
 |.own ps=>.ln (.lst ps)
 |.dic ks ps=>.ln (.dct ks ps)
noncomputable def fV (i:Nat):FE:=fun ρ=>(sl ρ i).map CB
theorem kh {ρ:ay}{s:Sl}(h:sl ρ i=some s):ρ[i]?=some (some s):=by
 unfold sl at h
 cases q:ρ[i]? with
 |none=>rw[q] at h;cases h
 |some o=>rw[q] at h;rw[show o=some s from h]
theorem aq (h:PE X e (eE i)):DE X e (fV i):=PE.weak h fun σ H Q hh_=>hh_.elim fun F ρ r er e k=>by
 unfold fV at e
 obtain⟨s,es,rfl⟩:=Option.map_eq_some_iff.mp e
 have e1:=kh es
 obtain⟨v,ev,rd⟩:=er.rd e1
 refine⟨v,ev,k v F H (.refl er.fz) ?_⟩
 cases s with
 |val p=>
  have:=er.sl i _ e1
  rw[ev] at this
  exact this
 |own ps=>exact rd
 |dic ks ps=>exact rd
noncomputable def fC (p:PV):FE:=fun _=>some (.fz p)
theorem yr {p:PV}(h:hG X e (pC p)):DE X e (fC p):=.ofE h fun ρ r e=>by cases e;exact⟨p,rfl,rfl⟩
theorem aj {i:Int}{j}:DE X (.Constant (.int i) j pos) (fC (.int i)):=yr Hl
theorem jP {i:Bool}{j}:DE X (.Constant (.bool i) j pos) (fC (.bl i)):=yr J6
theorem d6 {x:Str}{j}:DE X (.Constant (.str x) j pos) (fC (.str x)):=yr HB
noncomputable def ah (g:PV->PV->Option RV)(a b:FE):FE:=fun ρ=>(a ρ).bind fun x=>(b ρ).bind fun y=>g x.pv y.pv
theorem tY {α β γ:Type}{a:Option α}{b:Option β}{g:α->β->Option γ}{r:γ}(h:(a.bind fun x=>b.bind fun y=>g x y)=some r):∃x y,a=some x/\b=some y/\g x y=some r:=by
 obtain⟨x,e1,h⟩:=Option.bind_eq_some_iff.mp h
 obtain⟨y,e2,h⟩:=Option.bind_eq_some_iff.mp h
 exact⟨x,y,e1,e2,h⟩
theorem ye {g:PV->PV->Option RV}{gE:kc}(h:hG X e (u7 gE (tT fa) (tT fb)))(w:∀x y r,g x y=some r->∃p,r=.fz p/\gE x y (fun z=>z=p)):DE X e (ah g fa fb):=.ofE h fun ρ r e=>by
 obtain⟨x,y,e1,e2,e3⟩:=tY e
 obtain⟨p,rfl,q⟩:=w _ _ r e3
 exact⟨p,rfl,x,e1,y,e2,q⟩
noncomputable def rI (f:Int->Int->PV):PV->PV->Option RV
 |.int i,.int j=>some (.fz (f i j))
 |_,_=>none
theorem Kt {f:Int->Int->PV}:∀x y r,rI f x y=some r->∃p,r=.fz p/\BI f x y (fun z=>z=p):=fun x y r h=>by
 unfold rI at h
 split at h
 ·cases h;exact⟨_,rfl,rfl⟩
 ·cases h
noncomputable def Jk (C:Int->Int->Prop)[∀i j,Decidable (C i j)](f:Int->Int->PV):PV->PV->Option RV
 |.int i,.int j=>if C i j then some (.fz (f i j)) else none
 |_,_=>none
theorem ux {C D:Int->Int->Prop}[∀i j,Decidable (C i j)]{f:Int->Int->PV}(hc:∀i j,C i j->D i j):∀x y r,Jk C f x y=some r->∃p,r=.fz p/\Pu.gI D f x y (fun z=>z=p):=fun x y r h=>by
 unfold Jk at h
 split at h
 ·split at h
  ·cases h;exact⟨_,rfl,hc _ _ (by assumption),rfl⟩
  ·cases h
 ·cases h
end
end Dp
end
section
namespace Dp
open PySem PySem.Spec L2 Pu
theorem En {n:Nat}(h:n≤100000):n≤sizeLine:=Nat.le_trans h (by decide)
theorem Lx {n:Nat}(h:n≤100000):n<sizeLine:=Nat.lt_of_le_of_lt h (by decide)
section
variable {X:Cx}{e a b c:Expr}{es cU:List Expr}{pos:Pos}{f fa fb fc:FE}{fs:FA}{i:Nat}{ba bb:FB}
noncomputable def bV:PV->PV->Option RV
 |.int i,.int j=>some (.fz (.int (i+j)))
 |.lst ps,.lst qs=>if ps.length+qs.length≤100000 then some (.nw (ps++qs)) else none
 |.tup ps,.tup qs=>if ps.isEmpty=false/\ps.length+qs.length≤100000 then some (.fz (.tup (ps++qs))) else none
 |.str x,.str y=>if x.length+y.length≤100000 then some (.fz (.str (x++y))) else none
 |_,_=>none
noncomputable def Ej:kc:=fun x y Q=>match x,y with
 |.str x,.str y=>x.length+y.length≤sizeLine/\Q (.str (x++y))
 |_,_=>False
theorem Bp:h7 X.K (fun x y H Q=>∃i j,x=.str i/\y=.str j/\i.length+j.length≤sizeLine/\Q (.str (i++j)) H) Ej:=fun F H x y p q Qp Q s rx ry h k=>by
 unfold Ej at h
 split at h
 ·cases rx with
  |frz rx=>cases ry with
   |frz ry=>exact⟨_,_,rx,ry,h.1,k _ _ F H h.2 (.refl s) rfl⟩
 ·exact h.elim
theorem eX (ha:DE X a fa)(hb:DE X b fb):DE X (.BinOp a .Add b pos) (ah bV fa fb):=
 .of2 (oK (Gj ha.tt hb.tt) (oK (Dh ha.tt hb.tt) (lq uC Bp ha.tt hb.tt))) (EZ ha.tt hb.tt) fun ρ r e=>by
  obtain⟨x,y,e1,e2,e3⟩:=tY e
  unfold bV at e3
  split at e3
  ·next p q=>cases e3;exact .inl ⟨_,rfl,.inl ⟨x,e1,y,e2,by rw[p,q];rfl⟩⟩
  ·next ps qs p q=>
   split at e3
   ·cases e3;exact .inr ⟨_,rfl,x,e1,y,e2,by rw[p,q];exact⟨En (by assumption),rfl⟩⟩
   ·cases e3
  ·next ps qs p q=>
   split at e3
   ·next h=>cases e3;exact .inl ⟨_,rfl,.inr (.inl ⟨x,e1,y,e2,by rw[p,q];exact⟨by intro z;subst z;exact absurd h.1 (by decide),En h.2,rfl⟩⟩)⟩
   ·cases e3
  ·next u v p q=>
   split at e3
   ·cases e3;exact .inl ⟨_,rfl,.inr (.inr ⟨x,e1,y,e2,by rw[p,q];exact⟨En (by assumption),rfl⟩⟩)⟩
   ·cases e3
  ·cases e3
noncomputable def sS:PV->PV->Option RV:=rI fun i j=>.int (i - j)
theorem EL (ha:DE X a fa)(hb:DE X b fb):DE X (.BinOp a .Sub b pos) (ah sS fa fb):=ye (Gy ha.tt hb.tt) Kt
noncomputable def fN:PV->PV->Option RV
 |.int i,.int j=>if (i.natAbs<2 ^ 64)\/(j.natAbs<2 ^ 64) then some (.fz (.int (i * j))) else none
 |.lst ps,.int j=>if j≤1000/\-1000≤j/\ps.length≤100 then some (.nw (List.replicate j.toNat ps).flatten) else none
 |.tup ps,.int j=>if ps.isEmpty=false/\1≤j/\j≤1000/\ps.length≤1000 then some (.fz (.tup (List.replicate j.toNat ps).flatten)) else none
 |_,_=>none
theorem kE (ha:DE X a fa)(hb:DE X b fb):DE X (.BinOp a .Mult b pos) (ah fN fa fb):=
 .of2 (oK (GQ ha.tt hb.tt) (C6 ha.tt hb.tt)) (Gg ha.tt hb.tt) fun ρ r e=>by
  obtain⟨x,y,e1,e2,e3⟩:=tY e
  unfold fN at e3
  split at e3
  ·next i j p q=>
   split at e3
   ·next h=>
    cases e3
    refine .inl ⟨_,rfl,.inl ⟨x,e1,y,e2,?_⟩⟩
    rw[p,q]
    refine⟨?_,rfl⟩
    show CMul i j
    unfold CMul
    rcases h with h|h
    ·exact .inl (by omega)
    ·exact .inr (by omega)
   ·cases e3
  ·next ps j p q=>
   split at e3
   ·next h=>
    cases e3
    refine .inr ⟨_,rfl,x,e1,y,e2,?_⟩
    rw[p,q]
    refine⟨by omega,by omega,?_,rfl⟩
    refine En ?_
    have h1:j.toNat≤1000:=by omega
    exact Nat.le_trans (Nat.mul_le_mul h.2.2 h1) (by decide)
   ·cases e3
  ·next ps j p q=>
   split at e3
   ·next h=>cases e3;exact .inl ⟨_,rfl,.inr ⟨x,e1,y,e2,by rw[p,q];exact⟨by intro z;subst z;exact absurd h.1 (by decide),h.2.1,h.2.2.1,h.2.2.2,rfl⟩⟩⟩
   ·cases e3
  ·cases e3
noncomputable def ji:PV->PV->Option RV:=Jk (fun _ j=>0<j/\j<1073741824) fun i j=>.int (i / j)
theorem nt (ha:DE X a fa)(hb:DE X b fb):DE X (.BinOp a .FloorDiv b pos) (ah ji fa fb):=ye (GV ha.tt hb.tt) (ux fun _ _ h=>h)
noncomputable def aZ:PV->PV->Option RV:=Jk (fun _ j=>0<j) fun i j=>.int (i % j)
theorem cL (ha:DE X a fa)(hb:DE X b fb):DE X (.BinOp a .Mod b pos) (ah aZ fa fb):=ye (Hr ha.tt hb.tt) (ux fun _ _ h=>h)
noncomputable def Dc:PV->PV->Option RV:=Jk (fun i j=>0≤j/\j≤1000000/\i.natAbs<2 ^ 64) fun i j=>.int (i ^ j.toNat)
theorem JU (ha:DE X a fa)(hb:DE X b fb):DE X (.BinOp a .Pow b pos) (ah Dc fa fb):=ye (Fl ha.tt hb.tt) (ux fun _ _ h=>h)
noncomputable def Km:PV->PV->Option RV:=rI fun i j=>.int (Builtin.bitAnd i j)
structure CmpR (X:Cx)(op:CmpOp)(g:PV->PV->Option RV):Prop where
 ok:∃(r:R2) (gE:kc),kj X (compareOp op) r/\h7 X.K r gE/\∀x y r,g x y=some r->∃p,r=.fz (.bl p)/\∀Q:PV->Prop,Q (.bl p)->gE x y Q
theorem MT {g:PV->PV->Option RV}{gE:kc}(h:∀x y r,g x y=some r->∃p,r=.fz (.bl p)/\∀Q:PV->Prop,Q (.bl p)->gE x y Q):∀x y r,g x y=some r->∃p,r=.fz p/\gE x y (fun z=>z=p):=fun x y r e=>by
 obtain⟨p,e1,e2⟩:=h x y r e;exact⟨_,e1,e2 _ rfl⟩
theorem i9 {op:CmpOp}{g:PV->PV->Option RV}(hc:CmpR X op g)(ha:DE X a fa)(hb:DE X b fb)(hm:behindInMarks op b=false):DE X (.Compare a [op] [b] pos) (ah g fa fb):=by
 obtain⟨r,gE,h1,h2,h3⟩:=hc.ok
 exact ye (Gb h1 h2 ha.tt hb.tt hm) (MT h3)
noncomputable def Im (f:Int->Int->Bool):PV->PV->Option RV
 |.int i,.int j=>some (.fz (.bl (f i j)))
 |_,_=>none
theorem sd {f:Int->Int->Bool}:∀x y r,Im f x y=some r->∃p,r=.fz (.bl p)/\∀Q:PV->Prop,Q (.bl p)->BI (fun i j=>.bl (f i j)) x y Q:=fun x y r h=>by
 unfold Im at h
 split at h
 ·cases h;exact⟨_,rfl,fun _ q=>q⟩
 ·cases h
noncomputable def A4:PV->PV->Option RV:=Im fun i j=>decide (i<j)
noncomputable def AY:PV->PV->Option RV:=Im fun i j=>decide (i≤j)
noncomputable def uJ:PV->PV->Option RV:=Im fun i j=>decide (j<i)
noncomputable def Ij:PV->PV->Option RV:=Im fun i j=>decide (j≤i)
theorem Cw:CmpR X .Lt A4:=⟨_,_,IQ,JZ,sd⟩
theorem CA:CmpR X .LtE AY:=⟨_,_,JP,KD,sd⟩
theorem xT:CmpR X .Gt uJ:=⟨_,_,Iv,J3,sd⟩
theorem Ko:CmpR X .GtE Ij:=⟨_,_,Jd,IW,sd⟩
noncomputable def dQ (x y:PV):Option RV:=if plain x&&plain y&&decide (kr x≤50) then some (.fz (.bl (iT x y))) else none
noncomputable def gd (x y:PV):Option RV:=if plain x&&plain y&&decide (kr x≤50) then some (.fz (.bl (!iT x y))) else none
theorem iK (hu:X.A.units+64<cLine):CmpR X .Eq dQ:=⟨_,_,Ho hu,ID,fun x y r h=>by
 unfold dQ at h
 split at h
 ·next q=>cases h;rw[Bool.and_eq_true,Bool.and_eq_true,decide_eq_true_eq] at q;exact⟨_,rfl,fun _ z=>⟨q.1.1,q.1.2,q.2,z⟩⟩
 ·cases h⟩
theorem mD (hu:X.A.units+64<cLine):CmpR X .NotEq gd:=⟨_,_,HG hu,IY,fun x y r h=>by
 unfold gd at h
 split at h
 ·next q=>cases h;rw[Bool.and_eq_true,Bool.and_eq_true,decide_eq_true_eq] at q;exact⟨_,rfl,fun _ z=>⟨q.1.1,q.1.2,q.2,z⟩⟩
 ·cases h⟩
noncomputable def CW (x y:PV):Option RV:=match items y with
 |some ps=>if plain x&&aL ps&&decide (cz ps≤50) then some (.fz (.bl (pin x ps))) else none
 |none=>none
noncomputable def mj (x y:PV):Option RV:=match items y with
 |some ps=>if plain x&&aL ps&&decide (cz ps≤50) then some (.fz (.bl (!pin x ps))) else none
 |none=>none
theorem Lw (hu:X.A.units+64<cLine):CmpR X .In CW:=⟨_,_,Id hu,JX,fun x y r h=>by
 unfold CW at h
 split at h
 ·next ps e=>
  split at h
  ·next q=>cases h;rw[Bool.and_eq_true,Bool.and_eq_true,decide_eq_true_eq] at q;refine⟨_,rfl,fun _ z=>?_⟩;unfold Mf OkS;rw[e];exact⟨q.1.1,q.1.2,q.2,z⟩
  ·cases h
 ·cases h⟩
theorem Cn (hu:X.A.units+64<cLine):CmpR X .NotIn mj:=⟨_,_,wU hu,Ax,fun x y r h=>by
 unfold mj at h
 split at h
 ·next ps e=>
  split at h
  ·next q=>cases h;rw[Bool.and_eq_true,Bool.and_eq_true,decide_eq_true_eq] at q;refine⟨_,rfl,fun _ z=>?_⟩;unfold Aq OkS;rw[e];exact⟨q.1.1,q.1.2,q.2,z⟩
  ·cases h
 ·cases h⟩
noncomputable def MI (x y:PV):Option RV:=match y with
 |.non=>some (.fz (.bl (kF x)))
 |_=>none
noncomputable def Gm (x y:PV):Option RV:=match y with
 |.non=>some (.fz (.bl (!kF x)))
 |_=>none
noncomputable def DB (X:Cx)(e:Expr)(g:FB):Prop:=PuB X e (EC g)
noncomputable def DW (X:Cx)(e:Expr)(g:FB):Prop:=PuW X e (EC g)
noncomputable def xS:Option RV->Option Bool
 |some (.fz (.bl b))=>some b
 |_=>none
noncomputable def fT (f:FE):FB:=fun ρ=>xS (f ρ)
theorem gY {o:Option RV}{b:Bool}(h:xS o=some b):o=some (.fz (.bl b)):=by
 unfold xS at h
 split at h
 ·cases h;rfl
 ·cases h
theorem PuB.weak {t t':mr}(h:PuB X e t)(w:∀ρ Q,t' ρ Q->t ρ Q):PuB X e t':=PT.weak h fun σ H Q hh_=>hh_.elim fun F ρ Qp er q k=>⟨F,ρ,Qp,er,w ρ Qp q,k⟩
theorem PuW.weak {t t':mr}(h:PuW X e t)(w:∀ρ Q,t' ρ Q->t ρ Q):PuW X e t':=PW.weak h fun σ H Q hh_=>hh_.elim fun F ρ Qp er q k=>⟨F,ρ,Qp,er,w ρ Qp q,k⟩
theorem bQ {op:CmpOp}{g:PV->PV->Option RV}(hc:CmpR X op g)(ha:DE X a fa)(hb:DE X b fb)(hm:behindInMarks op b=false):DB X (.Compare a [op] [b] pos) (fT (ah g fa fb)):=by
 obtain⟨r,gE,h1,h2,h3⟩:=hc.ok
 refine PuB.weak (Bq h1 h2 ha.tt hb.tt hm) fun ρ Q ⟨z,e,q⟩=>?_
 obtain⟨x,y,e1,e2,e3⟩:=tY (gY e)
 obtain⟨p,e4,q4⟩:=h3 _ _ _ e3
 cases e4
 exact⟨x,e1,y,e2,q4 _ q⟩
theorem jq (h:DE X e f)(hv:∀whole,isTrue e X.env whole=(do let v ←whole;standAt e.pos;holding [v] (truthy v)):=by intro _;rfl):DB X e (fT f):=PuB.weak (By (Ib h.ee hv)) fun ρ Q ⟨b,e,q⟩=>⟨_,_,gY e,rfl,q⟩
noncomputable def dZ (g:FB):FB:=fun ρ=>(g ρ).map fun b=>!b
theorem jY (h:DB X a ba):DB X (.UnaryOp .Not a pos) (dZ ba):=PuB.weak (Ci h) fun ρ Q ⟨b,e,q⟩=>by
 obtain⟨b',e1,rfl⟩:=Option.map_eq_some_iff.mp e
 exact⟨b',e1,q⟩
noncomputable def iD (g k:FB):FB:=fun ρ=>(g ρ).bind fun b=>if b=true then k ρ else some false
noncomputable def iU (g k:FB):FB:=fun ρ=>(g ρ).bind fun b=>if b=true then some true else k ρ
theorem nO (h:DB X a ba):DW X (.BoolOp .And [a] pos) ba:=zH h
theorem qk (h:DB X a ba):DW X (.BoolOp .Or [a] pos) ba:=Cb h
theorem tx (ha:DB X a ba)(hb:DW X (.BoolOp .And (b::cU) pos) bb):DW X (.BoolOp .And (a::b::cU) pos) (iD ba bb):=PuW.weak (Bx ha hb) fun ρ Q ⟨z,e,q⟩=>by
 obtain⟨x,e1,e2⟩:=Option.bind_eq_some_iff.mp e
 refine⟨x,e1,?_⟩
 cases x with
 |true=>exact⟨z,e2,q⟩
 |false=>cases e2;exact q
theorem qO (ha:DB X a ba)(hb:DW X (.BoolOp .Or (b::cU) pos) bb):DW X (.BoolOp .Or (a::b::cU) pos) (iU ba bb):=PuW.weak (Hm ha hb) fun ρ Q ⟨z,e,q⟩=>by
 obtain⟨x,e1,e2⟩:=Option.bind_eq_some_iff.mp e
 refine⟨x,e1,?_⟩
 cases x with
 |true=>cases e2;exact q
 |false=>exact⟨z,e2,q⟩
theorem zJ (h:DW X e ba):DB X e ba:=IN h
noncomputable def ox (f:FE):FE:=fun ρ=>(f ρ).bind fun r=>r.fr.map .fz
noncomputable def ju (f g:FE):FE:=fun ρ=>(xS (f ρ)).bind fun b=>if b=true then ox g ρ else some (.fz (.bl false))
noncomputable def CM (f g:FE):FE:=fun ρ=>(xS (f ρ)).bind fun b=>if b=true then some (.fz (.bl true)) else ox g ρ
theorem j0 {ρ:ay}{r:RV}(h:ox f ρ=some r):∃p,r=.fz p/\tF f ρ (fun x=>x=p):=by
 obtain⟨r',e1,e2⟩:=Option.bind_eq_some_iff.mp h
 obtain⟨p,e3,rfl⟩:=Option.map_eq_some_iff.mp e2
 exact⟨p,rfl,r',p,e1,e3,rfl⟩
theorem qj {op}(h:DE X a f):DE X (.BoolOp op [a] pos) (ox f):=.ofE (GO h.ee) fun ρ r e=>j0 e
theorem ua (ha:DE X a fa)(hb:DE X (.BoolOp .And (b::cU) pos) fb):DE X (.BoolOp .And (a::b::cU) pos) (ju fa fb):=.ofE (Fg ha.ee hb.ee) fun ρ r e=>by
 obtain⟨x,e1,e2⟩:=Option.bind_eq_some_iff.mp e
 cases x with
 |true=>
  rw[if_pos rfl] at e2
  obtain⟨p,e3,q⟩:=j0 e2
  refine⟨p,e3,_,_,gY e1,rfl,?_⟩
  exact q
 |false=>
  rw[if_neg Bool.false_ne_true] at e2
  cases e2
  exact⟨_,rfl,_,_,gY e1,rfl,rfl⟩
theorem LP (ha:DE X a fa)(hb:DE X (.BoolOp .Or (b::cU) pos) fb):DE X (.BoolOp .Or (a::b::cU) pos) (CM fa fb):=.ofE (IJ ha.ee hb.ee) fun ρ r e=>by
 obtain⟨x,e1,e2⟩:=Option.bind_eq_some_iff.mp e
 cases x with
 |false=>
  rw[if_neg Bool.false_ne_true] at e2
  obtain⟨p,e3,q⟩:=j0 e2
  refine⟨p,e3,_,_,gY e1,rfl,?_⟩
  exact q
 |true=>
  rw[if_pos rfl] at e2
  cases e2
  exact⟨_,rfl,_,_,gY e1,rfl,rfl⟩
noncomputable def wv (f:FE):FE:=fun ρ=>(xS (f ρ)).map fun b=>.fz (.bl (!b))
theorem Ka (ha:DE X a fa):DE X (.UnaryOp .Not a pos) (wv fa):=.ofE (G9 ha.ee) fun ρ r e=>by
 obtain⟨b,e1,rfl⟩:=Option.map_eq_some_iff.mp e
 exact⟨_,rfl,_,_,gY e1,rfl,rfl⟩
noncomputable def tH (f:FE):FE:=fun ρ=>(f ρ).bind fun r=>match r.fr with
 |some (.int i)=>some (.fz (.int (-i)))
 |_=>none
theorem AD (ha:DE X a fa):DE X (.UnaryOp .USub a pos) (tH fa):=.ofE (Gz ha.ee) fun ρ r e=>by
 obtain⟨x,e1,e2⟩:=Option.bind_eq_some_iff.mp e
 split at e2
 ·next i e3=>cases e2;exact⟨_,rfl,x,_,e1,e3,rfl⟩
 ·cases e2
noncomputable def Iq (g:FB)(f k:FE):FE:=fun ρ=>(g ρ).bind fun b=>if b=true then ox f ρ else ox k ρ
theorem J0 (hc:DB X c ba)(ha:DE X a fa)(hb:DE X b fb):DE X (.IfExp c a b pos) (Iq ba fa fb):=.ofE (Hu hc ha.ee hb.ee) fun ρ r e=>by
 obtain⟨x,e1,e2⟩:=Option.bind_eq_some_iff.mp e
 cases x with
 |true=>
  rw[if_pos rfl] at e2
  obtain⟨p,e3,q⟩:=j0 e2
  exact⟨p,e3,true,e1,q⟩
 |false=>
  rw[if_neg Bool.false_ne_true] at e2
  obtain⟨p,e3,q⟩:=j0 e2
  exact⟨p,e3,false,e1,q⟩
noncomputable def Hk (g g':PV->PV->Option RV)(a b c:FE):FE:=fun ρ=>(a ρ).bind fun x=>(b ρ).bind fun y=>(xS (g x.pv y.pv)).bind fun k=>if k=true then (c ρ).bind fun z=>g' y.pv z.pv else some (.fz (.bl false))
theorem IT {g g':PV->PV->Option RV}{gE gE':kc}(h:∀x y r,g x y=some r->∃p,r=.fz (.bl p)/\∀Q:PV->Prop,Q (.bl p)->gE x y Q)(h':∀x y r,g' x y=some r->∃p,r=.fz (.bl p)/\∀Q:PV->Prop,Q (.bl p)->gE' x y Q){ρ:ay}{r:RV}(e:Hk g g' fa fb fc ρ=some r) :
  ∃p,r=.fz (.bl p)/\∀Q:PV->Prop,Q (.bl p)->vN gE gE' (tT fa) (tT fb) (tT fc) ρ Q:=by
 obtain⟨x,y,e1,e2,e3⟩:=tY e
 obtain⟨k,e4,e5⟩:=Option.bind_eq_some_iff.mp e3
 obtain⟨p,e6,q6⟩:=h _ _ _ (gY e4)
 cases e6
 cases k with
 |true=>
  rw[if_pos rfl] at e5
  obtain⟨z,e7,e8⟩:=Option.bind_eq_some_iff.mp e5
  obtain⟨p,e9,q9⟩:=h' _ _ _ e8
  refine⟨p,e9,fun Q q=>⟨x,e1,y,e2,q6 _ ?_⟩⟩
  exact⟨z,e7,q9 _ q⟩
 |false=>
  rw[if_neg Bool.false_ne_true] at e5
  cases e5
  exact⟨_,rfl,fun Q q=>⟨x,e1,y,e2,q6 _ q⟩⟩
theorem Js {op op':CmpOp}{g g':PV->PV->Option RV}(h:CmpR X op g)(h':CmpR X op' g')(ha:DE X a fa)(hb:DE X b fb)(hc:DE X c fc)(hm:lastMarks [op,op'] [b,c]=false:=by rfl):DE X (.Compare a [op,op'] [b,c] pos) (Hk g g' fa fb fc):=by
 obtain⟨r,gE,h1,h2,h3⟩:=h.ok
 obtain⟨r',gE',h1',h2',h3'⟩:=h'.ok
 refine .ofE (zu h1 h2 h1' h2' ha.tt hb.tt hc.tt hm) fun ρ r e=>?_
 obtain⟨p,e1,q⟩:=IT h3 h3' e
 exact⟨_,e1,q _ rfl⟩
structure DA (X:Cx)(es:List Expr)(fs:FA):Prop where
 f:Ef X es (IB fs)
 t:xA X es (EO fs)
noncomputable def ag:FA:=fun _=>some []
noncomputable def aa (f:FE)(fs:FA):FA:=fun ρ=>(f ρ).bind fun r=>(fs ρ).bind fun rs=>some (r::rs)
theorem sI {t t':jC}(h:Ef X es t)(w:∀ρ Q,t' ρ Q->t ρ Q):Ef X es t':=PA.weak h fun σ H Q hh_=>hh_.elim fun F ρ Qp er q k=>⟨F,ρ,Qp,er,w ρ Qp q,k⟩
theorem pU {t t':jC}(h:xA X es t)(w:∀ρ Q,t' ρ Q->t ρ Q):xA X es t':=PA.weak h fun σ H Q hh_=>hh_.elim fun F ρ Qp er q k=>⟨F,ρ,Qp,er,w ρ Qp q,k⟩
theorem mapM_cons {r:RV}{rs:List RV}{ps:List PV}(h:(r::rs).mapM RV.fr=some ps):∃p qs,r.fr=some p/\rs.mapM RV.fr=some qs/\ps=p::qs:=by
 rw[List.mapM_cons] at h
 obtain⟨p,e1,h⟩:=Option.bind_eq_some_iff.mp h
 obtain⟨qs,e2,h⟩:=Option.bind_eq_some_iff.mp h
 cases h
 exact⟨p,qs,e1,e2,rfl⟩
theorem ai:DA X [] ag:=⟨sI B9 fun ρ Q ⟨rs,ps,e,e2,q⟩=>by cases e;cases e2;exact q,pU zf fun ρ Q ⟨rs,e,q⟩=>by cases e;exact q⟩
theorem ae (hn:NS e)(he:DE X e f)(ht:DA X es fs):DA X (e::es) (aa f fs):=by
 constructor
 ·refine sI (yD hn he.ee ht.f) fun ρ Q ⟨rs,ps,e1,e2,q⟩=>?_
  obtain⟨r,e3,e1⟩:=Option.bind_eq_some_iff.mp e1
  obtain⟨rs',e4,e1⟩:=Option.bind_eq_some_iff.mp e1
  cases e1
  obtain⟨p,qs,e5,e6,rfl⟩:=mapM_cons e2
  exact⟨r,p,e3,e5,rs',qs,e4,e6,q⟩
 ·refine pU (xI hn he.tt ht.t) fun ρ Q ⟨rs,e1,q⟩=>?_
  obtain⟨r,e3,e1⟩:=Option.bind_eq_some_iff.mp e1
  obtain⟨rs',e4,e1⟩:=Option.bind_eq_some_iff.mp e1
  cases e1
  exact⟨r,e3,rs',e4,q⟩
noncomputable def cw (fs:FA):FE:=fun ρ=>(fs ρ).bind fun rs=>(rs.mapM RV.fr).bind fun ps=>if ps.length≤100000 then some (.fz (.tup ps)) else none
noncomputable def fe (fs:FA):FE:=fun ρ=>(fs ρ).bind fun rs=>(rs.mapM RV.fr).bind fun ps=>if ps.length≤100000 then some (.nw ps) else none
theorem eW {x1}(h:DA X es fs):DE X (.Tuple es x1 pos) (cw fs):=.ofE (GS h.f) fun ρ r e=>by
 obtain⟨rs,e1,e⟩:=Option.bind_eq_some_iff.mp e
 obtain⟨ps,e2,e⟩:=Option.bind_eq_some_iff.mp e
 split at e
 ·next z=>cases e;exact⟨_,rfl,rs,ps,e1,e2,En z,rfl⟩
 ·cases e
theorem iE (h:DA X es fs):DE X (.List es pos) (fe fs):=.ofN (F8 h.f) fun ρ r e=>by
 obtain⟨rs,e1,e⟩:=Option.bind_eq_some_iff.mp e
 obtain⟨ps,e2,e⟩:=Option.bind_eq_some_iff.mp e
 split at e
 ·next z=>cases e;exact⟨_,rfl,rs,ps,e1,e2,En z,rfl⟩
 ·cases e
noncomputable def aH:PV->PV->Option RV
 |.str z,.int i=>if z.length≤100000 then (L2.atI z.cps.toList i).map fun c=>.fz (.str ⟨#[c]⟩) else none
 |p,.int i=>(items p).bind fun ps=>(L2.atI ps i).map .fz
 |_,_=>none
theorem Go:∀x y r,aH x y=some r->∃p,r=.fz p/\Ld x y (fun z=>z=p):=fun x y r h=>by
 unfold aH at h
 split at h
 ·split at h
  ·next z=>
   obtain⟨c,e1,rfl⟩:=Option.map_eq_some_iff.mp h
   refine⟨_,rfl,En z,?_⟩
   rw[e1];exact rfl
  ·cases h
 ·next hn=>
  obtain⟨ps,e1,h⟩:=Option.bind_eq_some_iff.mp h
  obtain⟨p,e2,rfl⟩:=Option.map_eq_some_iff.mp h
  refine⟨p,rfl,?_⟩
  have:∀i:Int,L2.atI ps i=some p->OkS x fun ps=>OkO (L2.atI ps i) fun z=>z=p:=fun i ei=>by
   unfold OkS;rw[e1];show OkO (L2.atI ps i) _;rw[ei];exact rfl
  show OkI (.int _) _
  cases x<;>first|exact this _ e2|(cases e1)
 ·cases h
theorem aS (ha:DE X a fa)(hb:DE X b fb)(hs:lH b):DE X (.Subscript a b pos) (ah aH fa fb):=ye (Ex ha.tt hb.tt hs) Go
noncomputable abbrev FO:=ay->Option (Option Int)
noncomputable def tO (f:FO):yx:=fun ρ Q=>∃o,f ρ=some o/\Q o
noncomputable def DO (X:Cx)(e:Option Expr)(f:FO):Prop:=DV X e (tO f)
noncomputable def rQ:FO:=fun _=>some none
noncomputable def rm (f:FE):FO:=fun ρ=>(f ρ).bind fun r=>match r.fr with
 |some (.int i)=>some (some i)
 |_=>none
theorem tm {o:Option Expr}{t t':yx}(h:DV X o t)(w:∀ρ Q,t' ρ Q->t ρ Q):DV X o t':=PO.weak h fun σ H Q hh_=>hh_.elim fun F ρ Qp er q k=>⟨F,ρ,Qp,er,w ρ Qp q,k⟩
theorem sK:DO X none rQ:=tm Ap fun ρ Q ⟨o,e,q⟩=>by cases e;exact q
theorem ud (h:DE X e f):DO X (some e) (rm f):=tm (zp h.ee) fun ρ Q ⟨o,e,q⟩=>by
 obtain⟨r,e1,e2⟩:=Option.bind_eq_some_iff.mp e
 split at e2
 ·next i e3=>cases e2;exact⟨r,_,e1,e3,q⟩
 ·cases e2
noncomputable def A0 (p:PV)(l h:Option Int):Option RV:=match p with
 |.lst ps=>some (.nw (cut ps l h))
 |.src ps=>some (.nw (cut ps l h))
 |.tup ps=>if HT.sIx ps.length 0 l=0/\HT.sIx ps.length ps.length h=ps.length then none else some (.fz (.tup (cut ps l h)))
 |_=>none
noncomputable def qL (f:FE)(l h:FO):FE:=fun ρ=>(f ρ).bind fun r=>(l ρ).bind fun lo=>(h ρ).bind fun hi=>A0 r.pv lo hi
theorem sE {lo hi:Option Expr}{fl fh:FO}{p2:Pos}(ha:DE X a fa)(hl:DO X lo fl)(hh:DO X hi fh):DE X (.Subscript a (.Slice lo hi none p2) pos) (qL fa fl fh):=.of2 (GL ha.tt hl hh) (Fi ha.tt hl hh) fun ρ r e=>by
 obtain⟨x,e1,e⟩:=Option.bind_eq_some_iff.mp e
 obtain⟨l,e2,e⟩:=Option.bind_eq_some_iff.mp e
 obtain⟨h,e3,e⟩:=Option.bind_eq_some_iff.mp e
 unfold A0 at e
 split at e
 ·next ps q=>cases e;exact .inr ⟨_,rfl,x,e1,l,e2,h,e3,by rw[q];exact rfl⟩
 ·next ps q=>cases e;exact .inr ⟨_,rfl,x,e1,l,e2,h,e3,by rw[q];exact rfl⟩
 ·next ps q=>
  split at e
  ·cases e
  ·next z=>cases e;exact .inl ⟨_,rfl,x,e1,l,e2,h,e3,by rw[q];exact⟨z,rfl⟩⟩
 ·cases e
end
end Dp
end
section
namespace Dp
open PySem PySem.Spec L2 Pu
section
variable {X:Cx}{e a b c tg iter:Expr}{es cU:List Expr}{pos:Pos}{f fa fb fc:FE}{fs:FA}{i:Nat}{ba bb:FB}
noncomputable def fB (g:List PV->Option RV)(fs:FA):FE:=fun ρ=>(fs ρ).bind fun rs=>g (rs.map RV.pv)
theorem dh {r:List V->Hp->VK->Prop}{g0:wk}{g:List PV->Option RV}(hr:m5 X.K r g0)(w:∀ps r,g ps=some r->∃p,r=.fz p/\g0 ps (fun z=>z=p))(h:PE X e (kl r (lAT X.K (EO fs)))):DE X e (fB g fs):=.ofE (Jc hr h) fun ρ r e=>by
 obtain⟨rs,e1,e2⟩:=Option.bind_eq_some_iff.mp e
 obtain⟨p,rfl,q⟩:=w _ _ e2
 exact⟨p,rfl,rs,e1,q⟩
theorem Lj {r:List V->Hp->VK->Prop}{g0:FN}{g:List PV->Option RV}(hr:AM X.K r g0)(w:∀ps r,g ps=some r->∃p,r=.nw p/\g0 ps (fun z=>z=p))(h:PE X e (kl r (lAT X.K (EO fs)))):DE X e (fB g fs):=.ofN (yT hr h) fun ρ r e=>by
 obtain⟨rs,e1,e2⟩:=Option.bind_eq_some_iff.mp e
 obtain⟨p,rfl,q⟩:=w _ _ e2
 exact⟨p,rfl,rs,e1,q⟩
noncomputable def eK:List PV->Option RV
 |[.str z]=>if z.length≤100000 then some (.fz (.int z.length)) else none
 |[p]=>(items p).map fun ps=>.fz (.int ps.length)
 |_=>none
theorem d5:∀ps r,eK ps=some r->∃p,r=.fz p/\IU ps (fun z=>z=p):=fun ps r h=>by
 unfold eK at h
 split at h
 ·split at h
  ·next z=>cases h;exact⟨_,rfl,En z,rfl⟩
  ·cases h
 ·next p hp=>
  obtain⟨qs,e1,rfl⟩:=Option.map_eq_some_iff.mp h
  refine⟨_,rfl,?_⟩
  have:OkS p fun ps=>PV.int ps.length=PV.int qs.length:=by unfold OkS;rw[e1]
  show One [p] _
  cases p<;>first|exact this|(cases e1)
 ·cases h
noncomputable def AU:List PV->Option RV
 |[.int i]=>some (.fz (.int (if i<0 then -i else i)))
 |_=>none
theorem Dm:∀ps r,AU ps=some r->∃p,r=.fz p/\Jt ps (fun z=>z=p):=fun ps r h=>by
 unfold AU at h
 split at h
 ·cases h;exact⟨_,rfl,rfl⟩
 ·cases h
noncomputable def sv:List PV->Option RV
 |[.int i,.int j]=>some (.fz (.int (if j > i then j else i)))
 |_=>none
theorem zc:∀ps r,sv ps=some r->∃p,r=.fz p/\Em ps (fun z=>z=p):=fun ps r h=>by
 unfold sv at h
 split at h
 ·cases h;exact⟨_,rfl,rfl⟩
 ·cases h
noncomputable def kH:List PV->Option RV
 |[.int i,.int j]=>some (.fz (.int (if j<i then j else i)))
 |_=>none
theorem nM:∀ps r,kH ps=some r->∃p,r=.fz p/\Er ps (fun z=>z=p):=fun ps r h=>by
 unfold kH at h
 split at h
 ·cases h;exact⟨_,rfl,rfl⟩
 ·cases h
noncomputable def o8:List PV->Option RV
 |[.int i]=>some (.fz (.int i))
 |[.bl b]=>some (.fz (.int (if b then 1 else 0)))
 |_=>none
theorem qD:∀ps r,o8 ps=some r->∃p,r=.fz p/\Ju ps (fun z=>z=p):=fun ps r h=>by
 unfold o8 at h
 split at h
 ·cases h;exact⟨_,rfl,rfl⟩
 ·cases h;exact⟨_,rfl,rfl⟩
 ·cases h
noncomputable def A6:List PV->Option (List Bool)
 |[]=>some []
 |.bl b::ps=>(A6 ps).map fun bs=>b::bs
 |_=>none
theorem Gv:∀{ps:List PV} {bs:List Bool},A6 ps=some bs->ps=bs.map PV.bl:=fun {ps}=>by
 induction ps with
 |nil=>intro bs h;cases h;rfl
 |cons p ps ih=>
  intro bs h
  cases p<;>first|(cases h;done)|skip
  obtain⟨bs',e1,rfl⟩:=Option.map_eq_some_iff.mp h
  rw[ih e1];rfl
noncomputable def jc:PV->Option (List PV)
 |.lst ps=>some ps
 |.src ps=>some ps
 |_=>none
noncomputable def qV:List PV->Option RV
 |[p]=>(jc p).bind fun ps=>(A6 ps).map fun bs=>.fz (.bl (bs.all id))
 |_=>none
noncomputable def Le:List PV->Option RV
 |[p]=>(jc p).bind fun ps=>(A6 ps).map fun bs=>.fz (.bl (bs.any id))
 |_=>none
theorem tq {p:PV}{ps:List PV}{Q:List PV->Prop}(h:jc p=some ps)(q:Q ps):OkL p Q:=by
 cases p<;>first|(cases h;done)|(cases h;exact q)
theorem qB:∀ps r,qV ps=some r->∃p,r=.fz p/\JQ ps (fun z=>z=p):=fun ps r h=>by
 unfold qV at h
 split at h
 ·obtain⟨qs,e1,h⟩:=Option.bind_eq_some_iff.mp h
  obtain⟨bs,e2,rfl⟩:=Option.map_eq_some_iff.mp h
  refine⟨_,rfl,tq e1 ?_⟩
  rw[Gv e2,zx]
 ·cases h
noncomputable def jy:List PV->Option RV
 |[.lst ps]=>some (.fz (.tup ps))
 |[.tup ps]=>some (.fz (.tup ps))
 |[.src ps]=>some (.fz (.tup ps))
 |_=>none
theorem jl:∀ps r,jy ps=some r->∃p,r=.fz p/\Kq ps (fun z=>z=p):=fun ps r h=>by
 unfold jy at h
 split at h
 ·cases h;exact⟨_,rfl,rfl⟩
 ·cases h;exact⟨_,rfl,rfl⟩
 ·cases h;exact⟨_,rfl,rfl⟩
 ·cases h
noncomputable def gX:List PV->Option RV
 |[.rng lo j]=>if lo=0/\0≤j/\j≤1000000 then some (.nw (sq 0 j.toNat)) else none
 |[p]=>(items p).map .nw
 |_=>none
theorem Bl:∀ps r,gX ps=some r->∃p,r=.nw p/\(Ki ps (fun z=>z=p)\/Ey ps (fun z=>z=p)):=fun ps r h=>by
 unfold gX at h
 split at h
 ·split at h
  ·next z=>cases h;exact⟨_,rfl,.inr ⟨z.1,z.2.1,z.2.2,rfl⟩⟩
  ·cases h
 ·next p hp=>
  obtain⟨qs,e1,rfl⟩:=Option.map_eq_some_iff.mp h
  refine⟨_,rfl,.inl ?_⟩
  show OkS p _
  unfold OkS;rw[e1]
 ·cases h
theorem EW {x:Str}{p:Pos}(hx:x = "list")(h1:PE X e (kl (fun xs H Q=>∃p ys,xs=[.ref p]/\(SqL X.K H p ys\/SqT X.K H p ys)/\∀l,H l=none->Q (.ref l) (upd H l (.lst ys))) (lAT X.K (EO fs))))
  (h2:PE X e (kl (fun xs H Q=>∃p j,xs=[.ref p]/\H p=some (.rng 0 j)/\0≤j/\j≤1000000/\∀l,H l=none->Q (.ref l) (upd H l (.lst (nA j.toNat)))) (lAT X.K (EO fs)))):DE X e (fB gX fs):=.ofN (AJ (yT ES h1) (yT D8 h2)) fun ρ r e=>by
 obtain⟨rs,e1,e2⟩:=Option.bind_eq_some_iff.mp e
 obtain⟨p,rfl,q⟩:=Bl _ _ e2
 exact⟨p,rfl,q.elim (fun q=>.inl ⟨rs,e1,q⟩) fun q=>.inr ⟨rs,e1,q⟩⟩
noncomputable def uZ:List PV->Option RV
 |[.int j]=>if -(2 ^ 62)≤j/\j<2 ^ 62 then some (.fz (.rng 0 j)) else none
 |_=>none
theorem DX:∀ps r,uZ ps=some r->∃p,r=.fz p/\Kj ps (fun z=>z=p):=fun ps r h=>by
 unfold uZ at h
 split at h
 ·split at h
  ·next z=>cases h;exact⟨_,rfl,z.1,z.2,rfl⟩
  ·cases h
 ·cases h
noncomputable def g8:List PV->Option RV
 |[p,.ty n]=>if n = "int"\/n = "bool"\/n = "str"\/n = "tuple"\/n = "list"\/n = "dict" then (KM n p).map fun b=>.fz (.bl b) else none
 |_=>none
theorem ma:∀ps r,g8 ps=some r->∃p,r=.fz p/\Jn ps (fun z=>z=p):=fun ps r h=>by
 unfold g8 at h
 split at h
 ·split at h
  ·next z=>
   obtain⟨b,e1,rfl⟩:=Option.map_eq_some_iff.mp h
   refine⟨_,rfl,z,?_⟩
   rw[e1];exact rfl
  ·cases h
 ·cases h
noncomputable def jO:List PV->Option (List Int)
 |[]=>some []
 |.int i::ps=>(jO ps).map fun is=>i::is
 |_=>none
noncomputable def ii:List PV->Option (List (List Int))
 |[]=>some []
 |.tup qs::ps=>(jO qs).bind fun is=>if is.isEmpty then none else (ii ps).map fun ks=>is::ks
 |_=>none
theorem yp:∀{ps:List PV} {is:List Int},jO ps=some is->ps=is.map PV.int:=fun {ps}=>by
 induction ps with
 |nil=>intro bs h;cases h;rfl
 |cons p ps ih=>
  intro bs h
  cases p<;>first|(cases h;done)|skip
  obtain⟨bs',e1,rfl⟩:=Option.map_eq_some_iff.mp h
  rw[ih e1];rfl
theorem sH {K:PySem.W.Frag}{F:Hp}:∀{is:List Int} {vs:List V},Reps K F (is.map PV.int) vs->vs=is.map V.int
 |[],_,h=>h
 |i::is,_,⟨v,r,e,h,t⟩=>by rw[e,show v=V.int i from h,sH t];rfl
noncomputable def kf:List PV->Option RV
 |[p]=>(jc p).bind fun ps=>(ii ps).bind fun ks=>if ps.length<64 then some (.nw ((mX ks).map fun i=>ps.getD i .non)) else none
 |_=>none
noncomputable def tQ:FN:=fun ps Q=>One ps fun p=>OkL p fun ps=>∃ks,ii ps=some ks/\ps.length<64/\Q ((mX ks).map fun i=>ps.getD i .non)
theorem wJ {K:PySem.W.Frag}{F H:Hp}(s:Same F H):∀{ps:List PV} {vs:List V} {ks:List (List Int)},Reps K F ps vs->ii ps=some ks->TupsIn H vs ks
 |[],_,_,h,e=>by rw[show _=[] from h];cases e;exact .nil
 |p::ps,_,_,⟨v,r,ev,h,t⟩,e=>by
  subst ev
  cases p<;>first|(cases e;done)|skip
  rw[ii] at e
  obtain⟨is,e1,e⟩:=Option.bind_eq_some_iff.mp e
  split at e
  ·cases e
  ·next ne=>
   obtain⟨ks,e2,rfl⟩:=Option.map_eq_some_iff.mp e
   obtain⟨a,vs,rfl,h1,h2⟩:=h
   rw[yp e1] at h2
   rw[sH h2] at h1
   exact .cons (s _ _ h1) (by intro z;subst z;exact absurd rfl ne) (wJ s t e2)
theorem vW {K:PySem.W.Frag}{F:Hp}{ps:List PV}{vs:List V}(h:Reps K F ps vs):∀{l:List Nat},(∀i∈l,i<ps.length)->Reps K F (l.map fun i=>ps.getD i .non) (l.map fun i=>vs.getD i .non)
 |[],_=>rfl
 |i::l,hl=>by
  have hi:=hl i List.mem_cons_self
  obtain⟨v,ev,rv⟩:=h.get (List.getElem?_eq_getElem hi)
  refine⟨v,_,?_,?_,vW h fun j hj=>hl j (List.mem_cons_of_mem _ hj)⟩
  ·rw[List.map_cons,List.getD_eq_getElem?_getD,ev];rfl
  ·show Rep K F (ps.getD i .non) v
   rw[List.getD_eq_getElem?_getD,List.getElem?_eq_getElem hi];exact rv
theorem zB:∀{ps:List PV} {ks:List (List Int)},ii ps=some ks->ks.length=ps.length:=fun {ps}=>by
 induction ps with
 |nil=>intro bs h;cases h;rfl
 |cons p ps ih=>
  intro ks e
  cases p<;>first|(cases e;done)|skip
  rw[ii] at e
  obtain⟨is,e1,e⟩:=Option.bind_eq_some_iff.mp e
  split at e
  ·cases e
  ·obtain⟨ks,e2,rfl⟩:=Option.map_eq_some_iff.mp e
   rw[List.length_cons,List.length_cons,ih e2]
theorem vb:AM X.K (fun xs H Q=>∃p ts ks,xs=[.ref p]/\SqL X.K H p ts/\ts.length<64/\TupsIn H ts ks/\∀l,H l=none->Q (.ref l) (upd H l (.lst ((mX ks).map fun i=>ts.getD i .non)))) tQ:=fun F H xs ps Qp Q s r h k=>by
 obtain⟨p,v,rfl,rfl,r,h⟩:=h.rd r
 obtain⟨a,vs,ps,rfl,hs,rs,ks,e,h64,h⟩:=h.rd s r
 refine⟨a,vs,ks,rfl,hs,by rw[rs.length];exact h64,wJ s rs e,fun l hl=>?_⟩
 have hk:=zB e
 refine k _ l _ F _ h (.newO s hl _) hl (s.free hl) aw (vW rs fun i hi=>?_)
 have:=(qb ks).subset hi
 rw[List.mem_range] at this
 omega
theorem uM:∀ps r,kf ps=some r->∃p,r=.nw p/\tQ ps (fun z=>z=p):=fun ps r h=>by
 unfold kf at h
 split at h
 ·obtain⟨qs,e1,h⟩:=Option.bind_eq_some_iff.mp h
  obtain⟨ks,e2,h⟩:=Option.bind_eq_some_iff.mp h
  split at h
  ·next z=>cases h;exact⟨_,rfl,tq e1 ⟨ks,e2,z,rfl⟩⟩
  ·cases h
 ·cases h
mutual
noncomputable def tf:PV->Bool
 |.tup ps=>Ik ps
 |p=>cZ p
noncomputable def Ik:List PV->Bool
 |[]=>true
 |p::ps=>tf p&&Ik ps
end
noncomputable def Gn:PR->Bool
 |.v p=>tf p
 |.n ps=>Ik ps
noncomputable def lC (F1 F2:Hp):Hp:=fun b=>match F2 b with
 |some (.tup vs)=>some (.tup vs)
 |_=>F1 b
mutual
theorem zM {K:PySem.W.Frag}{F1 F2:Hp}:∀{p:PV} {v:V},tf p=true->Rep K F2 p v->Rep K (lC F1 F2) p v
 |.tup ps,v,h,⟨a,vs,e,h1,h2⟩=>by
  rw[tf] at h
  refine⟨a,vs,e,?_,ng h h2⟩
  unfold lC;rw[h1]
 |.non,_,_,r=>r
 |.bl _,_,_,r=>r
 |.int _,_,_,r=>r
 |.str _,_,_,r=>r
 |.ty _,_,_,r=>r
 |.fn _,_,_,r=>r
 |.lst _,_,h,_=>by cases h
 |.dct _ _,_,h,_=>by cases h
 |.src _,_,h,_=>by cases h
 |.ktu _,_,h,_=>by cases h
 |.rng _ _,_,h,_=>by cases h
theorem ng {K:PySem.W.Frag}{F1 F2:Hp}:∀{ps:List PV} {vs:List V},Ik ps=true->Reps K F2 ps vs->Reps K (lC F1 F2) ps vs
 |[],_,_,r=>r
 |p::ps,_,h,⟨v,t,e,r1,r2⟩=>by
  rw[Ik,Bool.and_eq_true] at h
  exact⟨v,t,e,zM h.1 r1,ng h.2 r2⟩
end
theorem zV {F1 H1 F2 H2:Hp}(s:Same F1 H1)(g:Grow H1 H1 F2 H2):Grow F1 H1 (lC F1 F2) H2:=by
 refine⟨g.hh,fun b o e=>?_,fun b o e=>?_,fun b o e=>?_⟩
 ·have h2:=g.ff b o (s b o e)
  unfold lC
  cases o<;>rw[h2]<;>first|rfl|exact e
 ·unfold lC at e
  split at e
  ·next vs h=>rw[←e];exact g.fh b _ h
  ·exact g.hh b o (s b o e)
 ·unfold lC at e
  split at e
  ·cases e;exact .inr (.inr ⟨_,rfl⟩)
  ·exact .inl e
theorem o0 {F1 F2:Hp}{a:Addr}(h1:F1 a=none)(h2:F2 a=none):lC F1 F2 a=none:=by unfold lC;rw[h2];exact h1
noncomputable def BZ (φ:we)(t:jC):gQ:=fun ρ Q=>t ρ fun ps=>φ ps fun r=>Gn r=true/\Q r.pv
noncomputable def zU (φ:we)(t:jC):uk:=fun ρ Q=>t ρ fun ps=>φ ps fun r=>Gn r=true/\Mk r Q
theorem xD {φ:we}{t:jC}(h:PE X e (bY (cv X.K φ) [] E0 (lAT X.K t))):hG X e (BZ φ t):=PE.weak h fun σ H Q hh_=>hh_.elim fun F ρ Qp er q k=>⟨F,ρ,_,er,q,fun ps vs F1 H1 h1 g1 r1=>by
 show cv X.K φ (vs++[]) H1 Q E0
 rw[List.append_nil]
 refine⟨H1,ps,_,Same.refl _,r1.all g1.fh,h1,fun r v F2 H2 h2 g2 rr=>?_⟩
 have gk:=zV g1.fh g2
 cases r with
 |v p=>exact k p _ _ H2 h2.2 (g1.trans gk) (zM h2.1 rr)
 |n ps=>
  obtain⟨a,vs,rfl,h0,hF,hH,rs⟩:=rr
  have hF1:=o0 (g1.fh.free h0) hF
  exact k (.lst ps) _ _ H2 h2.2 ((g1.trans gk).freeze (g1.hh.free h0) hF1 hH) ⟨a,vs,rfl,aw,(ng h2.1 rs).mono (b0 hF1 _)⟩⟩
theorem vp {φ:we}{t:jC}(h:PE X e (bY (cv X.K φ) [] E0 (lAT X.K t))):vK X e (zU φ t):=PE.weak h fun σ H Q hh_=>hh_.elim fun F ρ Qp er q k=>⟨F,ρ,_,er,q,fun ps vs F1 H1 h1 g1 r1=>by
 show cv X.K φ (vs++[]) H1 Q E0
 rw[List.append_nil]
 refine⟨H1,ps,_,Same.refl _,r1.all g1.fh,h1,fun r v F2 H2 h2 g2 rr=>?_⟩
 have gk:=zV g1.fh g2
 cases r with
 |v p=>exact h2.2.elim
 |n ps=>
  obtain⟨a,vs,rfl,h0,hF,hH,rs⟩:=rr
  exact k ps a vs _ H2 h2.2 (g1.trans gk) (g1.hh.free h0) (o0 (g1.fh.free h0) hF) hH (ng h2.1 rs)⟩
noncomputable def dz (F:List PV->Option PR):we:=fun qs Q=>∃r,F qs=some r/\Q r
noncomputable def pP:PR->RV
 |.v p=>.fz p
 |.n ps=>.nw ps
noncomputable def au (F:List PV->Option PR)(fs:FA):FE:=fun ρ=>(fs ρ).bind fun rs=>match rs.mapM RV.fr with
 |some ps=>(F ps).map pP
 |none=>(F (rs.map RV.pv)).bind fun r=>if Gn r=true then some (pP r) else none
theorem Ft {F:List PV->Option PR}(h1:PE X e (bY (cv X.K (dz F)) [] E0 (lA X.K (IB fs))))(h2:PE X e (bY (cv X.K (dz F)) [] E0 (lAT X.K (EO fs)))):DE X e (au F fs):=
 .of2 (oK (DM h1) (xD h2)) (AJ (yR h1) (vp h2)) fun ρ r e=>by
  obtain⟨rs,e1,e2⟩:=Option.bind_eq_some_iff.mp e
  split at e2
  ·next ps ep=>
   obtain⟨q,e3,rfl⟩:=Option.map_eq_some_iff.mp e2
   cases q with
   |v p=>exact .inl ⟨p,rfl,.inl ⟨rs,ps,e1,ep,.v p,e3,rfl⟩⟩
   |n qs=>exact .inr ⟨qs,rfl,.inl ⟨rs,ps,e1,ep,.n qs,e3,rfl⟩⟩
  ·obtain⟨q,e3,e4⟩:=Option.bind_eq_some_iff.mp e2
   split at e4
   ·next hf=>
    cases e4
    cases q with
    |v p=>exact .inl ⟨p,rfl,.inr ⟨rs,e1,.v p,e3,hf,rfl⟩⟩
    |n qs=>exact .inr ⟨qs,rfl,.inr ⟨rs,e1,.n qs,e3,hf,rfl⟩⟩
   ·cases e4
noncomputable def DI (X:Cx)(tg iter:Expr)(f:FI):Prop:=AX X tg iter (KJ f)
theorem oa {t t':vV}(h:AX X tg iter t)(w:∀ρ Q,t' ρ Q->t ρ Q):AX X tg iter t':=PI.weak h fun σ H Q hh_=>hh_.elim fun F ρ Qp er q k=>⟨F,ρ,Qp,er,w ρ Qp q,k⟩
theorem EU {t u:vV}(h:AX X tg iter t)(h':AX X tg iter u):AX X tg iter (fun ρ Q=>t ρ Q\/u ρ Q):=fun pins s σ H Q I hh_=>hh_.elim fun F ρ Qp er q k=>q.elim (fun q=>h pins s σ H Q I ⟨F,ρ,Qp,er,q,k⟩) fun q=>h' pins s σ H Q I ⟨F,ρ,Qp,er,q,k⟩
noncomputable def lP (f:FE):FI:=fun ρ=>(f ρ).bind fun r=>r.fr.bind items
theorem iZ (h:DE X iter f):DI X tg iter (lP f):=oa (EU (yY h.ee) (Co h.ee)) fun ρ Q ⟨its,e,q⟩=>by
 obtain⟨r,e1,e⟩:=Option.bind_eq_some_iff.mp e
 obtain⟨p,e2,e⟩:=Option.bind_eq_some_iff.mp e
 cases p<;>first|(cases e;done)|skip
 ·cases e;exact .inr ⟨r,_,e1,e2,q⟩
 ·cases e;exact .inl ⟨r,_,e1,e2,q⟩
 ·cases e;exact .inl ⟨r,_,e1,e2,q⟩
 ·cases e;exact .inr ⟨r,_,e1,e2,q⟩
noncomputable def IR (i:Int):Bool:=decide (-(2 ^ 62)≤i)&&decide (i<2 ^ 62)
noncomputable def im:List PV->Option (List PV)
 |[.int j]=>if IR j then some (sq 0 j.toNat) else none
 |_=>none
noncomputable def jw (g:List PV->Option (List PV))(fs:FA):FI:=fun ρ=>(fs ρ).bind fun rs=>g (rs.map RV.pv)
theorem y4 {i:Int}(h:IR i=true):-(2 ^ 62)≤i/\i<2 ^ 62:=by
 unfold IR at h
 rw[Bool.and_eq_true,decide_eq_true_eq,decide_eq_true_eq] at h
 exact h
theorem jZ (h:PI X tg iter (cM (lAT X.K (EO fs)))):DI X tg iter (jw im fs):=oa (AF h) fun ρ Q ⟨its,e,q⟩=>by
 obtain⟨rs,e1,e⟩:=Option.bind_eq_some_iff.mp e
 refine⟨rs,e1,?_⟩
 unfold im at e
 split at e
 ·next j ej=>
  split at e
  ·next z=>cases e;rw[ej];exact⟨(y4 z).1,(y4 z).2,q⟩
  ·cases e
 ·cases e
noncomputable def IS (fs:FA):FI:=fun ρ=>(fs ρ).bind fun rs=>(rs.mapM RV.fr).bind fun ps=>match ps with
 |[p]=>(jc p).map (eZ 0)
 |_=>none
noncomputable abbrev FT:=PV->ay->Option ay
noncomputable abbrev Ct:=List PV->ay->Option ay
noncomputable def qT (t:FT):ul:=fun p ρ Q=>∃ρ',t p ρ=some ρ'/\Q ρ'
noncomputable def KO (t:Ct):rG:=fun p ρ Q=>∃ρ',t p ρ=some ρ'/\Q ρ'
noncomputable def gN (i:Nat):FT:=fun p ρ=>some (ρ.set i (some (.val p)))
noncomputable def g0:Ct:=fun ps ρ=>match ps with
 |[]=>some ρ
 |_=>none
noncomputable def gC (t:FT)(ts:Ct):Ct:=fun ps ρ=>match ps with
 |p::ps=>(t p ρ).bind fun ρ'=>ts ps ρ'
 |[]=>none
theorem pQ {K:PySem.W.Frag}{g0:TG}{g g':ul}(h:kT K g0 g)(w:∀p ρ Q,g' p ρ Q->g p ρ Q):kT K g0 g':=fun F H σ ρ p v Qp Q s r q k=>h F H σ ρ p v Qp Q s r (w p ρ Qp q) k
theorem oq {K:PySem.W.Frag}{g0:wN}{g g':rG}(h:kz K g0 g)(w:∀p ρ Q,g' p ρ Q->g p ρ Q):kz K g0 g':=fun F H σ ρ p v Qp Q s r q k=>h F H σ ρ p v Qp Q s r (w p ρ Qp q) k
theorem ax {K:PySem.W.Frag}{i:Nat}:kT K (bO i) (qT (gN i)):=pQ B3 fun p ρ Q ⟨ρ',e,q⟩=>by cases e;exact q
theorem hX {K:PySem.W.Frag}:kz K fX (KO g0):=oq FJ fun ps ρ Q ⟨ρ',e,q⟩=>by
 cases ps with
 |nil=>cases e;exact q
 |cons=>cases e
theorem aR {K:PySem.W.Frag}{h0:TG}{t:FT}{hs0:wN}{ts:Ct}(h1:kT K h0 (qT t))(h2:kz K hs0 (KO ts)):kz K (cN h0 hs0) (KO (gC t ts)):=oq (C0 h1 h2) fun ps ρ Q ⟨ρ',e,q⟩=>by
 cases ps with
 |nil=>cases e
 |cons p ps=>
  obtain⟨ρ2,e1,e2⟩:=Option.bind_eq_some_iff.mp e
  exact⟨ρ2,e1,ρ',e2,q⟩
noncomputable def iY (n:Nat)(ts:Ct):FT:=fun p ρ=>match p with
 |.tup ps=>if ps.length=n then ts ps ρ else none
 |_=>none
theorem hZ {K:PySem.W.Frag}{n:Nat}{hs0:wN}{ts:Ct}(h:kz K hs0 (KO ts)):kT K (fP K n hs0) (qT (iY n ts)):=pQ (HM h) fun p ρ Q ⟨ρ',e,q⟩=>by
 unfold iY at e
 split at e
 ·split at e
  ·next z=>exact⟨z,ρ',e,q⟩
  ·cases e
 ·cases e
noncomputable def mH (t:FT)(c:FB)(f:FE)(ρ:ay):List PV->Option (List PV)
 |[]=>some []
 |p::ps=>(t p ρ).bind fun ρ2=>(c ρ2).bind fun b=>if b=true then (f ρ2).bind fun r=>r.fr.bind fun q=>(mH t c f ρ ps).map fun qs=>q::qs else mH t c f ρ ps
noncomputable def cG (fm:List (Option Nat))(it:FI)(t:FT)(c:FB)(f:FE):FE:=fun ρ=>(it ρ).bind fun its=>if its.length<1000 then (mH t c f (lx fm ρ) its).map .nw else none
noncomputable def cr:FB:=fun _=>some true
theorem IM {t:FT}{c:FB}{ρ:ay}:∀{its qs acc:List PV} {Q:List PV->Prop},mH t c f ρ its=some qs->Q (acc++qs)->IA (qT t) (EC c) (tF f) ρ its acc Q:=fun {its}=>by
 induction its with
 |nil=>intro qs acc Q e q;cases e;rw[List.append_nil] at q;exact q
 |cons p ps ih=>
  intro qs acc Q e q
  rw[mH] at e
  obtain⟨ρ2,e1,e⟩:=Option.bind_eq_some_iff.mp e
  obtain⟨b,e2,e⟩:=Option.bind_eq_some_iff.mp e
  refine⟨ρ2,e1,b,e2,?_⟩
  cases b with
  |true=>
   rw[if_pos rfl] at e ⊢
   obtain⟨r,e3,e⟩:=Option.bind_eq_some_iff.mp e
   obtain⟨y,e4,e⟩:=Option.bind_eq_some_iff.mp e
   obtain⟨ys,e5,rfl⟩:=Option.map_eq_some_iff.mp e
   exact⟨r,y,e3,e4,ih e5 (by rw[List.append_assoc];exact q)⟩
  |false=>
   rw[if_neg Bool.false_ne_true] at e ⊢
   exact ih e q
theorem D9 {fm:List (Option Nat)}{it:FI}{t:FT}{c:FB}{ρ:ay}{r:RV}(e:cG fm it t c f ρ=some r):∃ps,r=.nw ps/\y6 fm (KJ it) (qT t) (EC c) (tF f) ρ (fun x=>x=ps):=by
 obtain⟨its,e1,e⟩:=Option.bind_eq_some_iff.mp e
 split at e
 ·next z=>
  obtain⟨ps,e2,rfl⟩:=Option.map_eq_some_iff.mp e
  exact⟨ps,rfl,its,e1,z,IM e2 rfl⟩
 ·cases e
noncomputable def Nl (X:Cx)(ifs:List Expr)(c:FB):Prop:=IH X ifs (EC c)
theorem gG:Nl X [] cr:=PIf.weak Aw fun σ H Q hh_=>hh_.elim fun F ρ Qp er ⟨b,e,q⟩ k=>by cases e;exact⟨F,ρ,Qp,er,q,k⟩
theorem gq {fm:List (Option Nat)}{it:FI}{h0:TG}{t:FT}{c:FB}(hg:kT X.K h0 (qT t))(h:PE X e (tz fm (lI X.K (KJ it)) h0 (lB X.K (EC c)) (lE X.K (tF f)))):DE X e (cG fm it t c f):=.ofN (DF (K:=X.K) hg h) fun ρ r e=>D9 e
end
end Dp
end
section
namespace Dp
open PySem PySem.Spec L2 Pu
inductive Out where
 |nx (ρ:ay)|bk (ρ:ay)|ct (ρ:ay)|rt (p:PV)|rn (ps:List PV)|bad
noncomputable abbrev FS:=ay->Out
noncomputable def Out.sat (D:PEnds):Out->Prop
 |.nx ρ=>D.nx ρ
 |.bk ρ=>D.bk ρ
 |.ct ρ=>D.ct ρ
 |.rt p=>D.rt p
 |.rn ps=>D.rn ps
 |.bad=>False
noncomputable def rC (f:FS):jx:=fun D ρ=>(f ρ).sat D
noncomputable def DS (X:Cx)(st:Stmt)(f:FS):Prop:=nj X st (rC f)
noncomputable def El (X:Cx)(st:List Stmt)(f:FS):Prop:=oj X st (rC f)
section
variable {X:Cx}{e a b c tg iter:Expr}{es:List Expr}{st:Stmt}{cU:List Stmt}{pos:Pos}{f fa fb:FE}{fs:FA}{s u:FS}{i j:Nat}{ba:FB}
theorem da {t t':jx}(h:nj X st t)(w:∀D ρ,t' D ρ->t D ρ):nj X st t':=PS.weak h fun D σ H hh_=>hh_.elim fun F0 H0 F ρ Dp br q ft=>⟨F0,H0,F,ρ,Dp,br,w Dp ρ q,ft⟩
theorem yi {t t':jx}(h:oj X cU t)(w:∀D ρ,t' D ρ->t D ρ):oj X cU t':=PSs.weak h fun D σ H hh_=>hh_.elim fun F0 H0 F ρ Dp br q ft=>⟨F0,H0,F,ρ,Dp,br,w Dp ρ q,ft⟩
theorem uo {t t':jx}(h:nj X st t)(h':nj X st t'):nj X st (fun D ρ=>t D ρ\/t' D ρ):=fun pins s σ H D I hh_=>hh_.elim fun F0 H0 F ρ Dp br q ft=>q.elim (fun q=>h pins s σ H D I ⟨F0,H0,F,ρ,Dp,br,q,ft⟩) fun q=>h' pins s σ H D I ⟨F0,H0,F,ρ,Dp,br,q,ft⟩
noncomputable def aK:FS:=fun ρ=>.nx ρ
noncomputable def mo:FS:=fun _=>.bad
noncomputable def Nb:FS:=fun ρ=>.bk ρ
noncomputable def MG:FS:=fun ρ=>.ct ρ
noncomputable def al (s u:FS):FS:=fun ρ=>match s ρ with
 |.nx ρ'=>u ρ'
 |o=>o
theorem cx:El X [] aK:=Am
theorem aE (h:DS X st s):El X [st] s:=zz h
theorem ao (h1:DS X st s)(h2:El X cU u):El X (st::cU) (al s u):=yi (xn h1 h2) fun D ρ q=>by
 unfold rC al at q
 unfold Jr rC
 cases e:s ρ with
 |nx ρ'=>rw[e] at q;exact q
 |_=>rw[e] at q;exact q
theorem qa:DS X st mo:=da xU fun D ρ q=>q
noncomputable def j6 (f:FE):FS:=fun ρ=>match f ρ with
 |some (.fz _)=>.nx ρ
 |_=>.bad
theorem qY (h:PS X st (cq (lE X.K (tF f)))):DS X st (j6 f):=da (AH h) fun D ρ q=>by
 unfold rC j6 at q
 split at q
 ·next p e=>exact⟨_,_,e,rfl,q⟩
 ·exact q.elim
noncomputable def aT (f:FE):FS:=fun ρ=>match f ρ with
 |some (.fz p)=>.rt p
 |some (.nw ps)=>.rn ps
 |_=>.bad
theorem bo (h:DE X e f):DS X (.Return (some e) pos) (aT f):=da (uo (wD h.ee) (AO h.nn)) fun D ρ q=>by
 unfold rC aT at q
 split at q
 ·next p e=>exact .inl ⟨_,_,e,rfl,q⟩
 ·next p e=>exact .inr ⟨_,e,q⟩
 ·exact q.elim
noncomputable def j7 (i:Nat):FS:=fun ρ=>match sl ρ i with
 |some (.val p)=>.rt p
 |some (.own ps)=>.rn ps
 |_=>.bad
theorem rH (h:PE X e (eE i)):DS X (.Return (some e) pos) (j7 i):=da (uo (wD (aq h).ee) (zZ h)) fun D ρ q=>by
 unfold rC j7 at q
 split at q
 ·next p e=>exact .inl ⟨.fz p,p,by unfold fV;rw[e];rfl,rfl,q⟩
 ·next p e=>refine .inr ?_;unfold EH go;rw[kh e];exact q
 ·exact q.elim
noncomputable def eT (g:FB)(s u:FS):FS:=fun ρ=>match g ρ with
 |some true=>s ρ
 |some false=>u ρ
 |none=>.bad
theorem fM {sa sb:List Stmt}(hc:DB X c ba)(ha:El X sa s)(hb:El X sb u):DS X (.If c sa sb pos) (eT ba s u):=da (GG hc ha hb) fun D ρ q=>by
 unfold rC eT at q
 split at q
 ·next e=>exact⟨true,e,q⟩
 ·next e=>exact⟨false,e,q⟩
 ·exact q.elim
noncomputable def bd (i:Nat)(f:FE):FS:=fun ρ=>match (f ρ).bind RV.fr with
 |some p=>.nx (ρ.set i (some (.val p)))
 |none=>.bad
theorem cy (h:PS X st (dN (lE X.K (tF f)) (bO i))):DS X st (bd i f):=da (wG h) fun D ρ q=>by
 unfold rC bd at q
 split at q
 ·next p e=>
  obtain⟨r,e1,e2⟩:=Option.bind_eq_some_iff.mp e
  exact⟨r,p,e1,e2,q⟩
 ·exact q.elim
noncomputable def iW (i:Nat)(f:FE):FS:=fun ρ=>match f ρ with
 |some (.fz p)=>.nx (ρ.set i (some (.val p)))
 |some (.nw ps)=>.nx (ρ.set i (some (.own ps)))
 |_=>.bad
theorem Iy (h:PS X st (dN (lE X.K (tF f)) (bO i)))(h':PS X st (dN (lN X.K (tN f)) (bO i))):DS X st (iW i f):=da (uo (wG h) (AW h')) fun D ρ q=>by
 unfold rC iW at q
 split at q
 ·next p e=>exact .inl ⟨_,_,e,rfl,q⟩
 ·next p e=>exact .inr ⟨_,e,q⟩
 ·exact q.elim
noncomputable def fO (f:FE)(t:FT):FS:=fun ρ=>match (f ρ).bind RV.fr with
 |some p=>match t p ρ with
  |some ρ'=>.nx ρ'
  |none=>.bad
 |none=>.bad
theorem i7 {h0:TG}{t:FT}(hg:kT X.K h0 (qT t))(h:PS X st (dN (lE X.K (tF f)) h0)):DS X st (fO f t):=da (BH hg h) fun D ρ q=>by
 unfold rC fO at q
 split at q
 ·next p e=>
  obtain⟨r,e1,e2⟩:=Option.bind_eq_some_iff.mp e
  split at q
  ·next ρ' e3=>exact⟨r,p,e1,e2,ρ',e3,q⟩
  ·exact q.elim
 ·exact q.elim
noncomputable def rY (i j:Nat)(fs:FA):FS:=fun ρ=>match (fs ρ).bind fun rs=>rs.mapM RV.fr with
 |some [p,q]=>.nx ((ρ.set i (some (.val p))).set j (some (.val q)))
 |_=>.bad
theorem Et (h:PS X st (fU i j (lA X.K (IB fs)))):DS X st (rY i j fs):=da (DT h) fun D ρ q=>by
 unfold rC rY at q
 split at q
 ·next p p' e=>
  obtain⟨r,e1,e2⟩:=Option.bind_eq_some_iff.mp e
  exact⟨r,_,e1,e2,q⟩
 ·exact q.elim
noncomputable def ym (i:Nat)(s:FS):FS:=fun ρ=>s (frz i ρ)
theorem Ez (i:Nat)(h:DS X st s):DS X st (ym i s):=vy i h
noncomputable def LO (g:Int->Int->Int)(i:Nat)(f:FE):FS:=fun ρ=>match sl ρ i,(f ρ).bind RV.fr with
 |some (.val (.int a)),some (.int b)=>.nx (ρ.set i (some (.val (.int (g a b)))))
 |_,_=>.bad
noncomputable def kw (i:Nat)(fs:FA):FS:=fun ρ=>match sl ρ i,(fs ρ).bind fun rs=>rs.mapM RV.fr with
 |some (.own ps),some [q]=>if ps.length≤100000 then .nx (ρ.set i (some (.own (ps++[q])))) else .bad
 |_,_=>.bad
theorem qh (h:PS X st (cq (lh X.K "list" rX (eE i) (lA X.K (IB fs))))):DS X st (kw i fs):=da (CS h) fun D ρ q=>by
 unfold rC kw at q
 split at q
 ·next ps p e1 e2=>
  obtain⟨r,e3,e4⟩:=Option.bind_eq_some_iff.mp e2
  unfold Jy go
  rw[kh e1]
  split at q
  ·next z=>exact⟨r,_,e3,e4,Lx z,q⟩
  ·exact q.elim
 ·exact q.elim
noncomputable def uH (j:Nat)(fi f:FE):FS:=fun ρ=>match (f ρ).bind RV.fr,sl ρ j,(fi ρ).bind RV.fr with
 |some v,some (.own ps),some (.int k)=>match qi ps.length k with
  |some n=>.nx (ρ.set j (some (.own (ps.set n v))))
  |none=>.bad
 |_,_,_=>.bad
theorem Ev {fi:FE}(h:PS X st (dN (lE X.K (tF f)) (L2.fo (eE j) (lE X.K (tF fi)) cJ))):DS X st (uH j fi f):=da (wX h) fun D ρ q=>by
 unfold rC uH at q
 split at q
 ·next v ps k e1 e2 e3=>
  obtain⟨r,e4,e5⟩:=Option.bind_eq_some_iff.mp e1
  obtain⟨r',e6,e7⟩:=Option.bind_eq_some_iff.mp e3
  split at q
  ·next n en=>
   refine⟨r,v,e4,e5,?_⟩
   unfold go
   rw[kh e2]
   refine⟨r',_,e6,e7,?_⟩
   show OkO (qi ps.length k) _
   rw[en]
   exact q
  ·exact q.elim
 ·exact q.elim
noncomputable def cR (t:FT)(s:FS):List PV->ay->Out
 |[],ρ=>.nx ρ
 |p::ps,ρ=>match t p ρ with
  |some ρ1=>match s ρ1 with
   |.nx ρ2=>cR t s ps ρ2
   |.ct ρ2=>cR t s ps ρ2
   |.bk ρ2=>.nx ρ2
   |o=>o
  |none=>.bad
noncomputable def io (it:FI)(t:FT)(s:FS):FS:=fun ρ=>match it ρ with
 |some its=>cR t s its ρ
 |none=>.bad
theorem BW {t:FT}{D:PEnds}:∀{its:List PV} {ρ:ay},(cR t s its ρ).sat D->qr (qT t) (rC s) D its ρ:=fun {its}=>by
 induction its with
 |nil=>intro ρ q;exact q
 |cons p ps ih=>
  intro ρ q
  rw[cR] at q
  split at q
  ·next ρ1 e1=>
   refine⟨ρ1,e1,?_⟩
   show (s ρ1).sat _
   cases e2:s ρ1 with
   |nx ρ2=>rw[e2] at q;exact ih q
   |ct ρ2=>rw[e2] at q;exact ih q
   |bk ρ2=>rw[e2] at q;exact q
   |rt _=>rw[e2] at q;exact q
   |rn _=>rw[e2] at q;exact q
   |bad=>rw[e2] at q;exact q
  ·exact q.elim
theorem kI {it:FI}{h0:TG}{t:FT}(hg:kT X.K h0 (qT t))(h:PS X st (HY (lI X.K (KJ it)) h0 (lS X.K (rC s)))):DS X st (io it t s):=da (DK hg h) fun D ρ q=>by
 unfold rC io at q
 split at q
 ·next its e=>exact⟨its,e,BW q⟩
 ·exact q.elim
noncomputable def gn (c:FB)(s:FS):Nat->ay->Out
 |0,_=>.bad
 |n+1,ρ=>match c ρ with
  |some true=>match s ρ with
   |.nx ρ2=>gn c s n ρ2
   |.ct ρ2=>gn c s n ρ2
   |.bk ρ2=>.nx ρ2
   |o=>o
  |some false=>.nx ρ
  |none=>.bad
noncomputable def q8 (c:FB)(s:FS):FS:=fun ρ=>gn c s 10000 ρ
theorem yz {c:FB}{D:PEnds}:∀{n:Nat} {ρ:ay},(gn c s n ρ).sat D->kn (EC c) (rC s) D n ρ:=fun {n}=>by
 induction n with
 |zero=>intro ρ q;exact q
 |succ n ih=>
  intro ρ q
  rw[gn] at q
  split at q
  ·next e1=>
   refine⟨true,e1,?_⟩
   show (if true=true then (s ρ).sat _ else _)
   rw[if_pos rfl]
   cases e2:s ρ with
   |nx ρ2=>rw[e2] at q;exact ih q
   |ct ρ2=>rw[e2] at q;exact ih q
   |bk ρ2=>rw[e2] at q;exact q
   |rt _=>rw[e2] at q;exact q
   |rn _=>rw[e2] at q;exact q
   |bad=>rw[e2] at q;exact q
  ·next e1=>
   exact⟨false,e1,q⟩
  ·exact q.elim
theorem CF {c:FB}(h:PS X st (uT (lB X.K (EC c)) (lS X.K (rC s)))):DS X st (q8 c s):=da (xg h) fun D ρ q=>⟨10000,yz q⟩
end
noncomputable def Out.res:Out->Option PR
 |.nx _=>some (.v .non)
 |.rt p=>some (.v p)
 |.rn ps=>some (.n ps)
 |_=>none
noncomputable def run (a n:Nat)(s:FS)(qs:List PV):Option PR:=if qs.length=a then (s (KI n qs)).res else none
theorem AN {o:Out}{r:PR}{Q:PR->Prop}(h:o.res=some r)(q:Q r):o.sat (PEnds.of Q):=by
 cases o<;>cases h<;>exact q
theorem cQ {P:Program}{w:World}{K:PySem.W.Frag}{mg:Str->Option Value}{base:Heap}{x:Str}{st:Stmt}{N ps:List Str}{k a n:Nat}{s:FS}(F:FunD K mg x st ps)(S:FnScope N ps (af st))
  (hb:∀(f:Addr) (cdv:Value) (A:Around) (outer:List Env) (s':Shared) (H:Hp) (E:XK),Room k (A.deeper (PyProof.Rows.envOfC x (af st) s'.heap.objs.size f cdv))->El (lV uQ P w K mg base N x (af st) f cdv A outer s' H E).nox (aA st) s)
  (ha:ps.length=a:=by rfl) (hn:N.length=n:=by rfl):Def P w K mg base (k+1) x ps (cv K (dz (run a n s))):=by
 subst ha hn
 refine La F S (fun qs Q ⟨r,e,q⟩=>?_) hb fun qs Q ⟨r,e,q⟩=>?_
 ·unfold run at e
  split at e
  ·assumption
  ·cases e
 ·unfold run at e
  split at e
  ·exact AN e q
  ·cases e
theorem Hd {X:Cx}{body:List Stmt}{s:FS}{N:List Str}{H:Hp}{vs:List V}{Q:VK}{E:XK}{n:Nat}(hb:El X body s)(h:p5 X.K vs H Q E)
  (hp:∀ns:List Int,ns.length≤63->run 1 n s [.src (ns.map PV.int)]=some (.v (.bl true))) (hn:N.length=n:=by rfl):∃t,PSs X body t/\t { nx:=fun _ H'=>Q .non H',rt:=Q } (L2.be N vs) H:=by
 subst hn
 exact x5 hb h fun ns hl=>by
  have this:(s (KI N.length [.src (ns.map PV.int)])).res=some (.v (.bl true)):=hp ns hl
  exact AN this rfl
end Dp
end
section
namespace Dp
open PySem PySem.Spec L2 Pu
section
variable {X:Cx}{e a b c tg iter:Expr}{es:List Expr}{st:Stmt}{cU:List Stmt}{p pos:Pos}{f fa fb:FE}{fs:FA}{s u:FS}{i j k:Nat}{ba:FB}{x:Str}{ps:List Str}{F:List PV->Option PR}
theorem az (d:Def X.prog X.w X.K X.mg X.base j x ps (cv X.K (dz F)))(hr:Room k X.A)(ha:DA X (e::es) fs)(hj:j≤k:=by decide)(hg:Gl X x:=by rfl)(hdb:(x==("__debug__" : Str))=false:=by decide)(he:starEach (e::es) X.env=(false,eval e X.env)::starEach es X.env:=by rfl)
  (hpl:(backTo pos (starEach es X.env)).any (·.1)=false:=by rfl):DE X (.Call (.Name x p) (e::es) [] pos) (au F fs):=Ft (kZ d hr ha.f hj hg hdb he hpl) (kZ d hr ha.t hj hg hdb he hpl)
theorem nh (hm:X.mg "list" = none)(ha:DA X (e::es) fs)(hc:X.calm=true:=by rfl)(hg:Gl X "list":=by rfl)(he:starEach (e::es) X.env=(false,eval e X.env)::starEach es X.env:=by rfl)(hpl:(backTo pos (starEach es X.env)).any (·.1)=false:=by rfl) :
  DE X (.Call (.Name "list" p) (e::es) [] pos) (fB gX fs):=EW (x:="list") (p:=p) rfl (bB le hg hm qW ha.t (by decide) (by decide) he hpl) (bB (pF hc) hg hm qW ha.t (by decide) (by decide) he hpl)
theorem jN {pos':Pos}(he:DE X e f)(hN:X.N.Nodup)(hi:X.N[i]?=some x)(hx:Ih X.env.scope x)(hs:swapsWith e (some (.Name x pos')) pos.line X.env=pure false:=by rfl)(hf:X.fn x=true\/X.env.scope.names.lookup x=some .local:=by first|exact .inl rfl|exact .inr rfl|assumption) :
  DS X (.Assign [.Name x pos'] e pos) (iW i f):=Iy (aN hN hi hx he.ee hs hf) (aN hN hi hx he.nn hs hf)
end
end Dp
end
section
namespace Pu
open PySem L2 Fo
theorem wo {i j:Int}:iT (.int i) (.int j)=decide (i=j):=by
 simp only[iT,cZ,j9,zy,Bool.true_and]
 rw[Bool.eq_iff_iff,beq_iff_eq,decide_eq_true_iff]
theorem vY {i j:Str}:iT (.str i) (.str j)=decide (i=j):=by
 simp only[iT,cZ,j9,zy,Bool.true_and]
 rw[Bool.eq_iff_iff,beq_iff_eq,decide_eq_true_iff]
theorem FG {i j:Bool}:iT (.bl i) (.bl j)=(i==j):=by
 simp only[iT,cZ,j9,zy,Bool.true_and]
theorem A9 {ps qs:List PV}:iT (.tup ps) (.tup qs)=iQ ps qs:=by simp only[iT]
theorem CP {ps qs:List PV}:iT (.lst ps) (.lst qs)=iQ ps qs:=by simp only[iT]
theorem yq {p q:PV}{ps qs:List PV}:iQ (p::ps) (q::qs)=(iT p q&&iQ ps qs):=by simp only[iQ]
theorem tu:iQ [] []=true:=by simp only[iQ]
theorem jM (us:List Nat):(ak us).length=us.length:=List.length_map ..
theorem oZ:ak []=[]:=rfl
theorem ia (x:Nat)(us:List Nat):ak (x::us)=nI x::ak us:=rfl
theorem ug (us vs:List Nat):ak (us++vs)=ak us++ak vs:=List.map_append
theorem AG (us:List Nat)(i v:Nat):(ak us).set i (nI v)=ak (us.set i v):=by unfold ak;rw[List.map_set]
theorem ce:∀us:List Nat,aL (ak us)=true
 |[]=>by simp only[ak,List.map_nil,aL]
 |x::us=>by rw[ia,aL,ce us];simp only[nI,plain,Bool.and_true]
theorem dD:∀us:List Nat,cz (ak us)=0
 |[]=>by simp only[ak,List.map_nil,cz]
 |x::us=>by rw[ia,cz,dD us];simp only[nI,kr,Nat.max_self]
theorem jf {n x:Nat}(h:x<n):qi n (x:Int)=some x:=by
 unfold qi
 rw[if_pos (by omega),if_pos (by omega),Int.toNat_natCast]
theorem eL {ps:List PV}{x:Nat}{p:PV}(h:ps[x]?=some p):L2.atI ps (x:Int)=some p:=by
 unfold L2.atI
 have hx:x<ps.length:=(List.getElem?_eq_some_iff.mp h).1
 rw[jf hx]
 exact h
theorem MS {a:PV}{l:List PV}:L2.atI (a::l) (0:Int)=some a:=eL (x:=0) rfl
theorem MO {a b:PV}{l:List PV}:L2.atI (a::b::l) (1:Int)=some b:=eL (x:=1) rfl
theorem Ms {a b c:PV}{l:List PV}:L2.atI (a::b::c::l) (2:Int)=some c:=eL (x:=2) rfl
theorem Nq {a b c d:PV}{l:List PV}:L2.atI (a::b::c::d::l) (3:Int)=some d:=eL (x:=3) rfl
theorem lf {us:List Nat}{x:Nat}(hx:x<us.length):(ak us)[x]?=some (nI (up us x)):=by
 unfold ak
 rw[List.getElem?_map,List.getElem?_eq_getElem hx]
 simp[up,hx]
theorem aJ {us:List Nat}{x:Nat}(hx:x<us.length):L2.atI (ak us) (x:Int)=some (nI (up us x)):=eL (lf hx)
theorem om (us:List Nat)(y:Nat):L2.atI (ak (us++[y])) (-1)=some (nI y):=by
 unfold L2.atI qi
 rw[jM,List.length_append,if_neg (by decide),if_pos (by simp;omega)]
 have:(-1+((us.length+[y].length:Nat):Int)).toNat=us.length:=by simp;omega
 rw[this]
 show (ak (us++[y]))[us.length]?=_
 rw[lf (by simp)]
 simp[up]
theorem qc (us:List Nat)(y:Nat):ak us++[PV.int y]=ak (us++[y]):=(ug us [y]).symm
theorem qw (us:List Nat)(i v:Nat):(ak us).set i (PV.int v)=ak (us.set i v):=AG us i v
theorem CH (n:Nat):sq 0 n=ak (List.range n):=by
 unfold sq ak
 exact List.map_congr_left fun i _=>by rw[nI,Int.zero_add]
theorem AQ {us:List Nat}{v:PV}(h:v∈ak us):∃u∈us,v=nI u:=by
 obtain⟨u,hu,e⟩:=List.mem_map.mp h
 exact⟨u,hu,e.symm⟩
noncomputable def iL (ns:List Int):List PV:=ns.map PV.int
theorem AC (ns:List Int):(iL ns).length=ns.length:=List.length_map ..
theorem GD {n:Nat}{lo:Int}{v:PV}(h:v∈sq lo n):∃i:Int,v=.int i/\lo≤i/\i<lo+n:=by
 obtain⟨k,hk,rfl⟩:=List.mem_map.mp h
 have:=List.mem_range.mp hk
 exact⟨lo+k,rfl,by omega,by omega⟩
theorem wd (lo:Int)(n:Nat):(sq lo n).length=n:=by simp[sq]
theorem Ix {i:Int}(h:0≤i):PV.int i=nI i.toNat:=by rw[nI,Int.toNat_of_nonneg h]
theorem Fk (ns:List Int)(lo hi:Option Int):cut (iL ns) lo hi=iL (cut ns lo hi):=by
 unfold cut iL
 rw[List.length_map,List.map_take,List.map_drop]
theorem sJ (ns:List Nat)(lo hi:Option Int):cut (ak ns) lo hi=ak (cut ns lo hi):=by
 unfold cut ak
 rw[List.length_map,List.map_take,List.map_drop]
end Pu
namespace Fo
open PySem L2
structure Left (y:Str)(us:List Nat)(x h:Nat)(us':List Nat)(n:Nat)(l:List Nat):Prop where
 way:Way us x l
 hd:h=cp l
 st:n+1≤l.length
 tV:y ≠ "halves"->n+1=l.length
 sh:Shorter us us'
 off:∀t,t<us.length->t∉l->up us' t=up us t
 no:y = "none"->us'=us
theorem vI {us:List Nat}(f:Fst us){t:Nat}(ht:t<us.length):(up us t=t/\up us (up us t)=t)\/(up us t≠t/\∃l,Way us (up us t) l/\up us (up us t)∈l):=by
 by_cases e:up us t=t
 ·exact .inl ⟨e,by rw[e,e]⟩
 ·obtain⟨l,w,_⟩:=f.way (f.bnd t ht)
  exact .inr ⟨e,l,w,w.closed _ w.mem_self⟩
theorem RM.left {y:Str}{us:List Nat}{x h:Nat}{us':List Nat}{n:Nat}(f:Fst us)(hx:x<us.length)(r:RM y us x h us' n):∃l,Left y us x h us' n l:=by
 have self:=Shorter.refl f
 cases r with
 |none r=>
  obtain⟨rfl,l,w,e,hn⟩:=r
  exact⟨l,w,e,by omega,fun _=>hn,self,fun _ _ _=>rfl,fun _=>rfl⟩
 |whole r=>
  obtain⟨l,w,e,hn,len,hu⟩:=r
  refine⟨l,w,e,by omega,fun _=>hn,⟨len,fun t ht=>?_⟩,fun t ht hm=>by rw[hu,if_neg hm],fun z=>absurd z (by decide)⟩
  rw[hu]
  by_cases hm:t∈l
  ·rw[if_pos hm]
   obtain⟨l2,w2,e2,_,_⟩:=w.later t hm
   cases w2 with
   |head q=>exact .inl ⟨q,by rw[e,←e2];rfl⟩
   |step q w3=>exact .inr ⟨q,_,w3,by rw[e,←e2,bM w3.ne];exact oz w3.ne⟩
  ·rw[if_neg hm];exact self.up t ht
 |halves r=>
  obtain⟨l,w,e,hn,len,hu⟩:=r
  have pos:=w.pos
  refine⟨l,w,e,by omega,fun z=>absurd rfl z,⟨len,fun t ht=>?_⟩,fun t ht hm=>by rw[hu,if_neg fun q=>hm (iX l t q)],fun z=>absurd z (by decide)⟩
  rw[hu]
  by_cases hm:t∈fH l
  ·rw[if_pos hm];exact vI f ht
  ·rw[if_neg hm];exact self.up t ht
 |splits r=>
  obtain⟨l,w,e,hn,len,hu⟩:=r
  refine⟨l,w,e,by omega,fun _=>hn,⟨len,fun t ht=>?_⟩,fun t ht hm=>by rw[hu,if_neg hm],fun z=>absurd z (by decide)⟩
  rw[hu]
  by_cases hm:t∈l
  ·rw[if_pos hm];exact vI f ht
  ·rw[if_neg hm];exact self.up t ht
 |one r=>
  obtain⟨rfl,l,w,e,hn⟩:=r
  refine⟨l,w,e,by omega,fun _=>hn,⟨by rw[List.length_set],fun t ht=>?_⟩,fun t ht hm=>by rw[bv hx,if_neg fun q=>hm (by rw[q];exact w.mem_self)],fun z=>absurd z (by decide)⟩
  rw[bv hx]
  by_cases hm:t=x
  ·rw[if_pos hm,hm];exact vI f hx
  ·rw[if_neg hm];exact self.up t ht
theorem Gp {us vs:List Nat}(h:us.length=vs.length)(e:∀t,up us t=up vs t):us=vs:=by
 apply List.ext_getElem h
 intro i h1 h2
 have:=e i
 simpa [up,h1,h2] using this
theorem RM.frst {y:Str}{us:List Nat}{x h:Nat}{us':List Nat}{n:Nat}(f:Frst us)(hx:x<us.length)(r:RM y us x h us' n):Frst us'/\us'.length=us.length:=by
 obtain⟨l,L⟩:=r.left f.fst hx
 have e:=L.sh.len
 exact⟨⟨by rw[e];exact f.one,by rw[e];exact f.most,L.sh.fst f.fst⟩,e⟩
end Fo
namespace Pu
open PySem L2 Fo
end Pu
end
section
namespace Dp
open PySem PySem.Spec L2 Pu
section
variable {X:Cx}{e a b c tg iter:Expr}{es:List Expr}{st:Stmt}{cU:List Stmt}{p pos:Pos}{f fa fb:FE}{fs:FA}{s u:FS}{i j k:Nat}{ba:FB}{x:Str}
noncomputable def K0 (f:FE):FE:=fun ρ=>(f ρ).bind fun r=>(jc r.pv).map fun ps=>.nw ps.reverse
noncomputable def GF:List Int->Int
 |[]=>0
 |[i]=>i
 |i::j::l=>max i (GF (j::l))
noncomputable def ET:List Int->Int
 |[]=>0
 |[i]=>i
 |i::j::l=>min i (ET (j::l))
noncomputable def kL (g:List Int->Int):List PV->Option RV
 |[p]=>(jc p).bind fun ps=>(jO ps).bind fun is=>if is.length=0 then none else some (.fz (.int (g is)))
 |_=>none
noncomputable def Jf:=kL GF
noncomputable def Kg:=kL ET
noncomputable def Lm:List PV->Option RV
 |[p]=>(jc p).bind fun ps=>(jO ps).map fun is=>.fz (.int is.sum)
 |_=>none
noncomputable def H9 (g:Int->Int->Int)(j:Nat)(fi f:FE):FS:=fun ρ=>match sl ρ j,(fi ρ).bind RV.fr,(f ρ).bind RV.fr with
 |some (.own ps),some (.int k),some (.int b)=>if 0≤k then (match ps[k.toNat]? with
  |some (.int a)=>.nx (ρ.set j (some (.own (ps.set k.toNat (.int (g a b))))))
  |_=>.bad) else .bad
 |_,_,_=>.bad
end
end Dp
end
section
namespace Fo
open PySem
noncomputable def h8 (us:List Nat):Nat->Nat->List Nat
 |0,x=>[x]
 |n+1,x=>if up us x=x then [x] else x::h8 us n (up us x)
noncomputable def way (us:List Nat)(x:Nat):List Nat:=h8 us us.length x
theorem Ck {us:List Nat}{x:Nat}{l:List Nat}(w:Way us x l):∀{n:Nat},l.length≤n+1->h8 us n x=l:=by
 induction w with
 | @head x e=>
  intro n h
  cases n with
  |zero=>rfl
  |succ n=>rw[h8,if_pos e]
 | @step x l ne w ih=>
  intro n h
  cases n with
  |zero=>have:=w.pos;rw[List.length_cons] at h;omega
  |succ n=>rw[h8,if_neg ne,ih (by simpa using h)]
theorem eG {us:List Nat}{x:Nat}{l:List Nat}(f:Fst us)(hx:x<us.length)(w:Way us x l):way us x=l:=by
 obtain⟨l',w',h⟩:=f.way hx
 cases w.det w'
 exact Ck w (by omega)
theorem bN {us:List Nat}{x:Nat}(f:Fst us)(hx:x<us.length):Way us x (way us x):=by
 obtain⟨l,w,_⟩:=f.way hx
 rw[eG f hx w];exact w
theorem wK {us:List Nat}{x:Nat}(f:Fst us)(hx:x<us.length):(way us x).length≤us.length:=by
 obtain⟨l,w,h⟩:=f.way hx
 rw[eG f hx w];exact h
noncomputable def hd (us:List Nat)(x:Nat):Nat:=cp (way us x)
noncomputable def dp (us:List Nat)(x:Nat):Nat:=(way us x).length - 1
noncomputable def eQ (y:Str)(us:List Nat)(x t:Nat):Nat:=
 if y = "whole" then (if t∈way us x then hd us x else up us t)
 else if y = "halves" then (if t∈fH (way us x) then up us (up us t) else up us t)
 else if y = "splits" then (if t∈way us x then up us (up us t) else up us t)
 else if y = "one" then (if t=x then up us (up us t) else up us t)
 else up us t
noncomputable def eU (y:Str)(us:List Nat)(x:Nat):List Nat:=(List.range us.length).map (eQ y us x)
noncomputable def iy (y:Str)(us:List Nat)(x:Nat):Nat:=if y = "halves" then (way us x).length / 2 else dp us x
theorem na {us:List Nat}{t:Nat}(h:us.length≤t):up us t=0:=by
 unfold up;rw[List.getD_eq_getElem?_getD,List.getElem?_eq_none h];rfl
theorem cu (y:Str)(us:List Nat)(x:Nat):(eU y us x).length=us.length:=by unfold eU;rw[List.length_map,List.length_range]
theorem jL {y:Str}{us:List Nat}{x t:Nat}(h:t<us.length):up (eU y us x) t=eQ y us x t:=by
 unfold up eU
 rw[List.getD_eq_getElem?_getD,List.getElem?_map,List.getElem?_range h];rfl
theorem jQ {y:Str}{us us':List Nat}{x:Nat}(hl:us'.length=us.length)(h:∀t,t<us.length->up us' t=eQ y us x t):us'=eU y us x:=by
 refine Gp (by rw[hl,cu]) fun t=>?_
 by_cases ht:t<us.length
 ·rw[h t ht,jL ht]
 ·rw[na (by omega),na (by rw[cu];omega)]
theorem RM.fun {y:Str}{us:List Nat}{x h:Nat}{us':List Nat}{n:Nat}(f:Fst us)(hx:x<us.length)(r:RM y us x h us' n):h=hd us x/\us'=eU y us x/\n=iy y us x:=by
 cases r with
 |none r=>
  obtain⟨rfl,l,w,e,hn⟩:=r
  rw[←eG f hx w] at e hn
  refine⟨e,jQ rfl fun t ht=>rfl,?_⟩
  show n=dp us' x
  unfold dp;omega
 |whole r=>
  obtain⟨l,w,e,hn,hl,hu⟩:=r
  rw[←eG f hx w] at e hn hu
  refine⟨e,jQ hl fun t ht=>?_,?_⟩
  ·rw[hu t,e];rfl
  ·show n=dp us x
   unfold dp;omega
 |halves r=>
  obtain⟨l,w,e,hn,hl,hu⟩:=r
  rw[←eG f hx w] at e hn hu
  exact⟨e,jQ hl fun t ht=>by rw[hu t];rfl,hn⟩
 |splits r=>
  obtain⟨l,w,e,hn,hl,hu⟩:=r
  rw[←eG f hx w] at e hn hu
  refine⟨e,jQ hl fun t ht=>by rw[hu t];rfl,?_⟩
  show n=dp us x
  unfold dp;omega
 |one r=>
  obtain⟨rfl,l,w,e,hn⟩:=r
  rw[←eG f hx w] at e hn
  refine⟨e,jQ (List.length_set) fun t ht=>?_,?_⟩
  ·rw[bv hx]
   show (if t=x then up us (up us x) else up us t)=if t=x then up us (up us t) else up us t
   by_cases q:t=x
   ·rw[if_pos q,if_pos q,q]
   ·rw[if_neg q,if_neg q]
  ·show n=dp us x
   unfold dp;omega
theorem re (us:List Nat)(k x:Nat):Nat.repeat (up us) (k+1) x=Nat.repeat (up us) k (up us x):=by
 induction k with
 |zero=>rfl
 |succ k ih=>
  show up us (Nat.repeat (up us) (k+1) x)=up us (Nat.repeat (up us) k (up us x))
  rw[ih]
theorem xo {us:List Nat}{x:Nat}{l:List Nat}(w:Way us x l):∀k,l.length≤k+1->up us (Nat.repeat (up us) k x)=Nat.repeat (up us) k x:=by
 induction w with
 | @head x e=>
  intro k _
  have:Nat.repeat (up us) k x=x:=by
   induction k with
   |zero=>rfl
   |succ k ih=>show up us (Nat.repeat (up us) k x)=x;rw[ih (by simp)];exact e
  rw[this];exact e
 | @step x l n w ih=>
  intro k hk
  have pos:=w.pos
  cases k with
  |zero=>rw[List.length_cons] at hk;omega
  |succ k=>rw[re];exact ih k (by simpa using hk)
noncomputable def Il (us:List Nat):Bool:=decide (1≤us.length)&&decide (us.length≤40)&&us.all (fun u=>decide (u<us.length))&&(List.range us.length).all fun x=>decide (up us (Nat.repeat (up us) (us.length - 1) x)=Nat.repeat (up us) (us.length - 1) x)
theorem td {us:List Nat}:∀(k y:Nat),up us (Nat.repeat (up us) k y)=Nat.repeat (up us) k y->∀m,k≤m->h8 us m y=h8 us k y:=fun k=>by
 induction k with
 |zero=>
  intro y h m _
  cases m with
  |zero=>rfl
  |succ m=>have e:h8 us (m+1) y=if up us y=y then [y] else y::h8 us m (up us y):=rfl;rw[e,if_pos (show up us y=y from h)];rfl
 |succ k ih=>
  intro y h m hm
  cases m with
  |zero=>omega
  |succ m=>
   rw[h8,h8]
   by_cases e:up us y=y
   ·rw[if_pos e,if_pos e]
   ·rw[if_neg e,if_neg e,ih (up us y) (by rw[←re];exact h) m (by omega)]
theorem wE (us:List Nat):∀(n x:Nat),(h8 us n x).length≤n+1
 |0,x=>by rw[h8];simp
 |n+1,x=>by
  rw[h8]
  split
  ·simp
  ·rw[List.length_cons];have:=wE us n (up us x);omega
theorem zP (us:List Nat):∀(n x:Nat),1≤(h8 us n x).length
 |0,x=>by rw[h8];simp
 |n+1,x=>by
  rw[h8]
  split<;>simp
theorem Fs {us:List Nat}(h:Il us=true):Frst us:=by
 unfold Il at h
 rw[Bool.and_eq_true,Bool.and_eq_true,Bool.and_eq_true,decide_eq_true_eq,decide_eq_true_eq,List.all_eq_true,List.all_eq_true] at h
 obtain⟨⟨⟨h1,h2⟩,h3⟩,h4⟩:=h
 have bnd:∀x,x<us.length->up us x<us.length:=fun x hx=>by
  have:=h3 us[x] (List.getElem_mem hx)
  rw[decide_eq_true_eq] at this
  show us.getD x 0<_
  rw[List.getD_eq_getElem?_getD,List.getElem?_eq_getElem hx];exact this
 refine⟨h1,h2,bnd,fun x=>(h8 us (us.length - 1) x).length - 1,fun x hx=>?_,fun x hx ne=>?_⟩
 ·have:=wE us (us.length - 1) x
  show (h8 us (us.length - 1) x).length - 1<us.length
  omega
 ·have hf:=h4 x (List.mem_range.mpr hx)
  rw[decide_eq_true_eq] at hf
  have hu:=h4 (up us x) (List.mem_range.mpr (bnd x hx))
  rw[decide_eq_true_eq] at hu
  show (h8 us (us.length - 1) (up us x)).length - 1<(h8 us (us.length - 1) x).length - 1
  cases hn:us.length - 1 with
  |zero=>rw[hn] at hf;exact absurd hf ne
  |succ n=>
   rw[hn,re] at hf
   have e:=td n (up us x) hf (n+1) (by omega)
   have e2:h8 us (n+1) x=x::h8 us n (up us x):=by rw[h8,if_neg ne]
   rw[e,e2,List.length_cons]
   have:=zP us n (up us x)
   omega
theorem Gr {us:List Nat}(f:Frst us):Il us=true:=by
 unfold Il
 rw[Bool.and_eq_true,Bool.and_eq_true,Bool.and_eq_true,decide_eq_true_eq,decide_eq_true_eq,List.all_eq_true,List.all_eq_true]
 refine⟨⟨⟨f.one,f.most⟩,fun u hu=>?_⟩,fun x hx=>?_⟩
 ·obtain⟨i,hi,rfl⟩:=List.mem_iff_getElem.mp hu
  have:=f.fst.bnd i hi
  rw[decide_eq_true_eq]
  unfold up at this
  rwa [List.getD_eq_getElem?_getD,List.getElem?_eq_getElem hi] at this
 ·rw[decide_eq_true_eq]
  obtain⟨l,w,hl⟩:=f.fst.way (List.mem_range.mp hx)
  have:=f.one
  exact xo w _ (by omega)
end Fo
namespace Dp
open PySem L2 Pu Fo
noncomputable def jU:List PV->Option (List Nat)
 |[]=>some []
 |.int i::ps=>if 0≤i then (jU ps).map fun us=>i.toNat::us else none
 |_=>none
theorem mN:∀us:List Nat,jU (ak us)=some us
 |[]=>rfl
 |u::us=>by
  show jU (.int (u:Int)::ak us)=_
  rw[jU,if_pos (by omega),mN us];rfl
theorem xX:∀{ps:List PV} {us:List Nat},jU ps=some us->ps=ak us:=fun {ps}=>by
 induction ps with
 |nil=>intro us h;cases h;rfl
 |cons p ps ih=>
  intro us h
  cases p<;>first|(cases h;done)|skip
  next i=>
  rw[jU] at h
  split at h
  ·next z=>
   obtain⟨us',e1,rfl⟩:=Option.map_eq_some_iff.mp h
   rw[ih e1,ia,nI,Int.toNat_of_nonneg z]
  ·cases h
noncomputable def eC (qs:List PV):Option PR:=match qs with
 |[.str y]=>some (.v (.bl (decide (y∈manners))))
 |_=>none
noncomputable def fw (qs:List PV):Option PR:=match qs with
 |[.tup ps,.str y,.int x]=>match jU ps with
  |some us=>if Il us=true/\y∈manners/\0≤x/\x<us.length then some (.v (.tup [nI (hd us x.toNat),.tup (ak (eU y us x.toNat)),nI (iy y us x.toNat)])) else none
  |none=>none
 |_=>none
section
variable {P:Program}{w:World}{K:PySem.W.Frag}{mg:Str->Option Value}{base:Heap}{k:Nat}{ps:List Str}{x:Str}
theorem wm {φ ψ:we}(h:∀qs Q,ψ qs Q->φ qs Q)(d:Def P w K mg base k x ps (cv K φ)):Def P w K mg base k x ps (cv K ψ):=Pu.Def.imp d fun vs H Q E ⟨F,qs,Qp,s,r,q,z⟩=>⟨F,qs,Qp,s,r,h qs Qp q,z⟩
theorem sL (d:Def P w K mg base k x ps (cv K oy)):Def P w K mg base k x ps (cv K (dz eC)):=wm (fun qs Q ⟨r,e,q⟩=>by
 unfold eC at e
 split at e
 ·cases e;exact⟨_,rfl,q⟩
 ·cases e) d
theorem vT (d:Def P w K mg base k x ps (cv K qm)):Def P w K mg base k x ps (cv K (dz fw)):=wm (fun qs Q ⟨r,e,q⟩=>by
 unfold fw at e
 split at e
 ·next pp y xx _=>
  split at e
  ·next us eu=>
   split at e
   ·next z=>
    cases e
    have f:=Fs z.1
    refine⟨us,y,xx.toNat,?_,f,z.2.1,?_,fun h us' n r=>?_⟩
    ·rw[xX eu,nI,Int.toNat_of_nonneg z.2.2.1]
    ·have:=z.2.2;omega
    ·obtain⟨rfl,rfl,rfl⟩:=r.fun f.fst (by have:=z.2.2;omega)
     exact q
   ·cases e
  ·cases e
 ·cases e) d
end
theorem xJ {us:List Nat}(f:Frst us){y:Str}(hy:y∈manners){x:Nat}(hx:x<us.length):fw [.tup (ak us),.str y,nI x]=some (.v (.tup [nI (hd us x),.tup (ak (eU y us x)),nI (iy y us x)])):=by
 show (match jU (ak us) with
  |some us=>if Il us=true/\y∈manners/\0≤(x:Int)/\(x:Int)<us.length then some (PR.v (.tup [nI (hd us (x:Int).toNat),.tup (ak (eU y us (x:Int).toNat)),nI (iy y us (x:Int).toNat)])) else none
  |none=>none)=_
 rw[mN]
 show (if _ then _ else _)=_
 rw[if_pos ⟨Gr f,hy,by omega,by omega⟩,Int.toNat_natCast]
theorem vw (y:Str):eC [.str y]=some (.v (.bl (decide (y∈manners)))):=rfl
end Dp
namespace Lo
open PySem Fo Pu
end Lo
namespace Dp
open PySem L2 Pu Fo Lo
end Dp
end
section
namespace Fo
open PySem L2
theorem eF {us:List Nat}{x t:Nat}(f:Fst us)(hx:x<us.length)(h:t∈way us x):t<us.length:=(bN f hx).lt f.bnd hx t h
theorem vE {us:List Nat}(f:Fst us){x:Nat}(hx:x<us.length){y:Str}(hy:y∈manners):RM y us x (hd us x) (eU y us x) (iy y us x):=by
 have w:=bN f hx
 have pos:=w.pos
 have low:∀t,us.length≤t->up (eU y us x) t=0/\up us t=0/\t∉way us x:=fun t ht=>⟨na (by rw[cu];omega),na ht,fun q=>by have:=eF f hx q;omega⟩
 have hdp:dp us x+1=(way us x).length:=by unfold dp;omega
 rcases (show y = "none"\/y = "whole"\/y = "halves"\/y = "splits"\/y = "one" by simpa [manners] using hy) with rfl|rfl|rfl|rfl|rfl
 ·exact .none ⟨(jQ rfl fun t ht=>rfl).symm,_,w,rfl,hdp⟩
 ·refine .whole ⟨_,w,rfl,hdp,cu ..,fun t=>?_⟩
  by_cases ht:t<us.length
  ·rw[jL ht];rfl
  ·obtain⟨a,b,c⟩:=low t (by omega)
   rw[a,b,if_neg c]
 ·refine .halves ⟨_,w,rfl,rfl,cu ..,fun t=>?_⟩
  by_cases ht:t<us.length
  ·rw[jL ht];rfl
  ·obtain⟨a,b,c⟩:=low t (by omega)
   rw[a,b,if_neg fun q=>c (iX _ _ q)]
 ·refine .splits ⟨_,w,rfl,hdp,cu ..,fun t=>?_⟩
  by_cases ht:t<us.length
  ·rw[jL ht];rfl
  ·obtain⟨a,b,c⟩:=low t (by omega)
   rw[a,b,if_neg c]
 ·refine .one ⟨(jQ (List.length_set) fun t ht=>?_).symm,_,w,rfl,hdp⟩
  rw[bv hx]
  show (if t=x then up us (up us x) else up us t)=if t=x then up us (up us t) else up us t
  by_cases q:t=x
  ·rw[if_pos q,if_pos q,q]
  ·rw[if_neg q,if_neg q]
theorem gT {us:List Nat}(f:Frst us){x:Nat}(hx:x<us.length){y:Str}(hy:y∈manners):Frst (eU y us x):=((vE f.fst hx hy).frst f hx).1
theorem jX {us:List Nat}{x:Nat}(f:Fst us)(hx:x<us.length)(e:up us x=x):way us x=[x]:=eG f hx (.head e)
theorem iV {us:List Nat}{x:Nat}(f:Fst us)(hx:x<us.length)(e:up us x≠x):way us x=x::way us (up us x):=eG f hx (.step e (bN f (f.bnd x hx)))
theorem Ch {us:List Nat}{x:Nat}(f:Fst us)(hx:x<us.length)(e:up us x=x):dp us x=0:=by unfold dp;rw[jX f hx e];rfl
theorem B6 {us:List Nat}{x:Nat}(f:Fst us)(hx:x<us.length)(e:up us x≠x):dp us x=dp us (up us x)+1:=by
 unfold dp
 rw[iV f hx e,List.length_cons]
 have:=(bN f (f.bnd x hx)).pos
 omega
theorem m7 {us:List Nat}{x:Nat}(f:Fst us)(hx:x<us.length)(e:up us x=x):hd us x=x:=by unfold hd;rw[jX f hx e];rfl
theorem Be {us:List Nat}{x:Nat}(f:Fst us)(hx:x<us.length)(e:up us x≠x):hd us x=hd us (up us x):=by
 unfold hd
 rw[iV f hx e,bM (bN f (f.bnd x hx)).ne]
theorem EJ {us:List Nat}{x:Nat}(f:Fst us)(hx:x<us.length):hd us (up us x)=hd us x:=by
 by_cases e:up us x=x
 ·rw[e]
 ·exact (Be f hx e).symm
theorem Ae {us:List Nat}{x:Nat}(f:Fst us)(hx:x<us.length):up us (hd us x)=hd us x:=(bN f hx).head_last
theorem j5 {us:List Nat}{x:Nat}(f:Fst us)(hx:x<us.length):hd us x<us.length:=eF f hx (oz (bN f hx).ne)
theorem zT {us:List Nat}(f:Fst us){x:Nat}(hx:x<us.length){y:Str}(hy:y∈manners){t:Nat}(ht:t<us.length):hd (eU y us x) t=hd us t/\dp (eU y us x) t≤dp us t:=by
 obtain⟨l,L⟩:=(vE f hx hy).left f hx
 obtain⟨l',w',e1,e2⟩:=L.sh.way f ht (bN f ht)
 have f':=L.sh.fst f
 have:=eG f' (by rw[cu];exact ht) w'
 unfold hd dp
 rw[this]
 exact⟨e1,by omega⟩
theorem GM {us:List Nat}(f:Fst us){v D j:Nat->Nat}{d:Nat}(hv:∀k,k≤d->v k<us.length)(h0:up us (v 0)=v 0)(z:D 0=0)(hj:∀k,1≤k->k≤d->j k<k/\up us (v k)=v (j k)/\v (j k)≠v k/\D k=D (j k)+1):∀k,k≤d->dp us (v k)=D k:=by
 intro k
 induction k using Nat.strongRecOn with
 |ind k ih=>
  intro hk
  cases k with
  |zero=>rw[z];exact Ch f (hv 0 hk) h0
  |succ k=>
   obtain⟨a,b,c,e⟩:=hj (k+1) (by omega) hk
   rw[B6 f (hv _ hk) (by rw[b];exact c),b,ih _ a (by omega),e]
end Fo
end
section
namespace Dp
open PySem L2 Fo Pu
noncomputable def cE:FS:=(al (bd 3 (ah aZ (ah bV (ah bV (ah fN (fV 3) (ah bV (ah aZ (fV 3) (fC (.int 65521))) (fC (.int 40487)))) (ah fN (fC (.int 7)) (fV 5))) (fC (.int 5))) (fC (.int 1999999973))))
  (al (kw 2 (aa (ah aH (fe (aa (fV 3) (aa (ah aZ (fV 4) (fC (.int 1000000))) ag))) (fB o8 (aa (ah uJ (fV 4) (fC (.int 0))) ag))) ag))
  (bd 4 (ah ji (fV 4) (fC (.int 1000000))))))
theorem ku {ρ:ay}:cE ρ=(al (bd 3 (ah aZ (ah bV (ah bV (ah fN (fV 3) (ah bV (ah aZ (fV 3) (fC (.int 65521))) (fC (.int 40487)))) (ah fN (fC (.int 7)) (fV 5))) (fC (.int 5))) (fC (.int 1999999973))))
  (al (kw 2 (aa (ah aH (fe (aa (fV 3) (aa (ah aZ (fV 4) (fC (.int 1000000))) ag))) (fB o8 (aa (ah uJ (fV 4) (fC (.int 0))) ag))) ag))
  (bd 4 (ah ji (fV 4) (fC (.int 1000000)))))) ρ:=Eq.trans rfl rfl
noncomputable def gw:FS:=(al (iW 2 (fe ag))
  (al (bd 3 (ah aZ (ah fN (ah bV (ah aZ (fV 0) (fC (.int 1999999973))) (fC (.int 31))) (fC (.int 765432101))) (fC (.int 1999999973))))
  (al (bd 4 (fC (.int 0)))
  (al (eT (iU (fT (ah A4 (fV 0) (fC (.int 0)))) (fT (ah Ij (fV 0) (ah Dc (fC (.int 10)) (fC (.int 18)))))) (bd 4 (fB AU (aa (fV 0) ag))) aK)
  (al (io (jw im (aa (fV 1) ag)) (gN 5) cE)
  (j7 2))))))
theorem fq {ρ:ay}:gw ρ=(al (iW 2 (fe ag))
  (al (bd 3 (ah aZ (ah fN (ah bV (ah aZ (fV 0) (fC (.int 1999999973))) (fC (.int 31))) (fC (.int 765432101))) (fC (.int 1999999973))))
  (al (bd 4 (fC (.int 0)))
  (al (eT (iU (fT (ah A4 (fV 0) (fC (.int 0)))) (fT (ah Ij (fV 0) (ah Dc (fC (.int 10)) (fC (.int 18)))))) (bd 4 (fB AU (aa (fV 0) ag))) aK)
  (al (io (jw im (aa (fV 1) ag)) (gN 5) cE)
  (j7 2)))))) ρ:=Eq.trans rfl rfl
noncomputable def aD:List PV->Option PR:=run 2 6 gw
theorem gl {a0 a1:PV}:aD [a0,a1]=(gw [some (.val a0),some (.val a1),none,none,none,none]).res:=Eq.trans rfl rfl
noncomputable def eB:FS:=(bd 2 (ah aZ (ah bV (ah fN (fV 2) (fC (.int 69621))) (fV 3)) (fC (.int 2147483647))))
theorem lX {ρ:ay}:eB ρ=(bd 2 (ah aZ (ah bV (ah fN (fV 2) (fC (.int 69621))) (fV 3)) (fC (.int 2147483647)))) ρ:=Eq.trans rfl rfl
noncomputable def iS:FS:=(al (eT (fT (ah A4 (fV 1) (fB eK (aa (fV 0) ag)))) (aT (ah aH (fV 0) (fV 1))) aK)
  (al (bd 2 (ah aZ (ah fN (fC (.int 48271)) (ah bV (ah bV (ah fN (fV 1) (fV 1)) (ah fN (fC (.int 7)) (fV 1))) (fC (.int 11)))) (fC (.int 2147483647))))
  (al (io (lP (qL (fV 0) rQ (rm (fC (.int 3))))) (gN 3) eB)
  (j7 2))))
theorem jt {ρ:ay}:iS ρ=(al (eT (fT (ah A4 (fV 1) (fB eK (aa (fV 0) ag)))) (aT (ah aH (fV 0) (fV 1))) aK)
  (al (bd 2 (ah aZ (ah fN (fC (.int 48271)) (ah bV (ah bV (ah fN (fV 1) (fV 1)) (ah fN (fC (.int 7)) (fV 1))) (fC (.int 11)))) (fC (.int 2147483647))))
  (al (io (lP (qL (fV 0) rQ (rm (fC (.int 3))))) (gN 3) eB)
  (j7 2)))) ρ:=Eq.trans rfl rfl
noncomputable def aV:List PV->Option PR:=run 2 4 iS
theorem kJ {a0 a1:PV}:aV [a0,a1]=(iS [some (.val a0),some (.val a1),none,none]).res:=Eq.trans rfl rfl
noncomputable def jd:FS:=(aT (ju (fB g8 (aa (fV 0) (aa (fC (.ty "int")) ag))) (ox (wv (fB g8 (aa (fV 0) (aa (fC (.ty "bool")) ag)))))))
theorem nF {ρ:ay}:jd ρ=(aT (ju (fB g8 (aa (fV 0) (aa (fC (.ty "int")) ag))) (ox (wv (fB g8 (aa (fV 0) (aa (fC (.ty "bool")) ag))))))) ρ:=Eq.trans rfl rfl
noncomputable def cn:List PV->Option PR:=run 1 1 jd
theorem rP {a0:PV}:cn [a0]=(jd [some (.val a0)]).res:=Eq.trans rfl rfl
noncomputable def jV:FS:=(aT (ju (au cn (aa (fV 0) ag)) (ox (Hk AY AY (fC (.int 1)) (fV 0) (fC (.int 40))))))
theorem pz {ρ:ay}:jV ρ=(aT (ju (au cn (aa (fV 0) ag)) (ox (Hk AY AY (fC (.int 1)) (fV 0) (fC (.int 40)))))) ρ:=Eq.trans rfl rfl
noncomputable def eI:List PV->Option PR:=run 1 1 jV
theorem t4 {a0:PV}:eI [a0]=(jV [some (.val a0)]).res:=Eq.trans rfl rfl
noncomputable def je:FS:=(aT (ju (au cn (aa (fV 1) ag)) (ox (Hk AY A4 (fC (.int 0)) (fV 1) (fV 0)))))
theorem oR {ρ:ay}:je ρ=(aT (ju (au cn (aa (fV 1) ag)) (ox (Hk AY A4 (fC (.int 0)) (fV 1) (fV 0))))) ρ:=Eq.trans rfl rfl
noncomputable def d9:List PV->Option PR:=run 2 2 je
theorem rZ {a0 a1:PV}:d9 [a0,a1]=(je [some (.val a0),some (.val a1)]).res:=Eq.trans rfl rfl
noncomputable def hJ:FS:=(eT (dZ (fT (au eC (aa (fV 0) ag)))) mo aK)
theorem ld {ρ:ay}:hJ ρ=(eT (dZ (fT (au eC (aa (fV 0) ag)))) mo aK) ρ:=Eq.trans rfl rfl
noncomputable def ck:List PV->Option PR:=run 1 1 hJ
theorem mY {a0:PV}:ck [a0]=(hJ [some (.val a0)]).res:=Eq.trans rfl rfl
noncomputable def iF:FS:=(aT (ah aH (fe (aa (ah bV (fC (.int 1)) (ah aZ (ah ji (fV 0) (fC (.int 8))) (fC (.int 12)))) (aa (ah bV (fC (.int 1)) (ah aZ (ah ji (fV 0) (fC (.int 8))) (fC (.int 40)))) ag))) (fB o8 (aa (ah dQ (ah aZ (fV 0) (fC (.int 8))) (fC (.int 3))) ag))))
theorem jn {ρ:ay}:iF ρ=(aT (ah aH (fe (aa (ah bV (fC (.int 1)) (ah aZ (ah ji (fV 0) (fC (.int 8))) (fC (.int 12)))) (aa (ah bV (fC (.int 1)) (ah aZ (ah ji (fV 0) (fC (.int 8))) (fC (.int 40)))) ag))) (fB o8 (aa (ah dQ (ah aZ (fV 0) (fC (.int 8))) (fC (.int 3))) ag)))) ρ:=Eq.trans rfl rfl
noncomputable def dm:List PV->Option PR:=run 1 1 iF
theorem kA {a0:PV}:dm [a0]=(iF [some (.val a0)]).res:=Eq.trans rfl rfl
noncomputable def eV:FB:=(iD (fT (ah gd (ah aH (fV 0) (ah aH (fV 2) (tH (fC (.int 1))))) (ah aH (fV 2) (tH (fC (.int 1)))))) (fT (ah AY (fB eK (aa (fV 2) ag)) (fB eK (aa (fV 0) ag)))))
theorem jr {ρ:ay}:eV ρ=(iD (fT (ah gd (ah aH (fV 0) (ah aH (fV 2) (tH (fC (.int 1))))) (ah aH (fV 2) (tH (fC (.int 1)))))) (fT (ah AY (fB eK (aa (fV 2) ag)) (fB eK (aa (fV 0) ag))))) ρ:=Eq.trans rfl rfl
noncomputable def eY:FS:=(kw 2 (aa (ah aH (fV 0) (ah aH (fV 2) (tH (fC (.int 1))))) ag))
theorem m6 {ρ:ay}:eY ρ=(kw 2 (aa (ah aH (fV 0) (ah aH (fV 2) (tH (fC (.int 1))))) ag)) ρ:=Eq.trans rfl rfl
noncomputable def jk:FS:=(al (iW 2 (fe (aa (fV 1) ag)))
  (al (q8 eV eY)
  (j7 2)))
theorem og {ρ:ay}:jk ρ=(al (iW 2 (fe (aa (fV 1) ag)))
  (al (q8 eV eY)
  (j7 2))) ρ:=Eq.trans rfl rfl
noncomputable def bI:List PV->Option PR:=run 2 3 jk
theorem rp {a0 a1:PV}:bI [a0,a1]=(jk [some (.val a0),some (.val a1),none]).res:=Eq.trans rfl rfl
end Dp
end
section
namespace Dp
open PySem L2 Fo Pu
noncomputable def p3 (o:Out)(u:FS):Out:=match o with
 |.nx ρ'=>u ρ'
 |o=>o
noncomputable def EG (o:Option RV)(ρ:ay):Out:=match o with
 |some (.fz _)=>.nx ρ
 |_=>.bad
noncomputable def FQ (o:Option RV):Out:=match o with
 |some (.fz p)=>.rt p
 |some (.nw ps)=>.rn ps
 |_=>.bad
noncomputable def yF (o:Option Sl):Out:=match o with
 |some (.val p)=>.rt p
 |some (.own ps)=>.rn ps
 |_=>.bad
noncomputable def Lq (o:Option Bool)(s u:FS)(ρ:ay):Out:=match o with
 |some true=>s ρ
 |some false=>u ρ
 |none=>.bad
noncomputable def Jl (o:Option PV)(i:Nat)(ρ:ay):Out:=match o with
 |some p=>.nx (ρ.set i (some (.val p)))
 |none=>.bad
noncomputable def GA (o:Option RV)(i:Nat)(ρ:ay):Out:=match o with
 |some (.fz p)=>.nx (ρ.set i (some (.val p)))
 |some (.nw ps)=>.nx (ρ.set i (some (.own ps)))
 |_=>.bad
noncomputable def LE (o:Option ay):Out:=match o with
 |some ρ'=>.nx ρ'
 |none=>.bad
noncomputable def IV (o:Option PV)(t:FT)(ρ:ay):Out:=match o with
 |some p=>LE (t p ρ)
 |none=>.bad
noncomputable def Kv (o:Option (List PV))(i j:Nat)(ρ:ay):Out:=match o with
 |some [p,q]=>.nx ((ρ.set i (some (.val p))).set j (some (.val q)))
 |_=>.bad
noncomputable def JT (g:Int->Int->Int)(a:Option Sl)(b:Option PV)(i:Nat)(ρ:ay):Out:=match a,b with
 |some (.val (.int a)),some (.int b)=>.nx (ρ.set i (some (.val (.int (g a b)))))
 |_,_=>.bad
noncomputable def Ir (a:Option Sl)(b:Option (List PV))(i:Nat)(ρ:ay):Out:=match a,b with
 |some (.own ps),some [q]=>if ps.length≤100000 then .nx (ρ.set i (some (.own (ps++[q])))) else .bad
 |_,_=>.bad
noncomputable def Aj (o:Option Nat)(v:PV)(ps:List PV)(j:Nat)(ρ:ay):Out:=match o with
 |some n=>.nx (ρ.set j (some (.own (ps.set n v))))
 |none=>.bad
noncomputable def IF (v:Option PV)(a:Option Sl)(k:Option PV)(j:Nat)(ρ:ay):Out:=match v,a,k with
 |some v,some (.own ps),some (.int k)=>Aj (qi ps.length k) v ps j ρ
 |_,_,_=>.bad
noncomputable def JI (o:Option (List PV))(t:FT)(s:FS)(ρ:ay):Out:=match o with
 |some its=>cR t s its ρ
 |none=>.bad
noncomputable def Kh (o:Option PV):Option RV:=match o with
 |some (.int i)=>some (.fz (.int (-i)))
 |_=>none
noncomputable def Mb (o:Option PV):Option (Option Int):=match o with
 |some (.int i)=>some (some i)
 |_=>none
noncomputable def zG (F:List PV->Option PR)(o:Option (List PV))(rs:List RV):Option RV:=match o with
 |some ps=>(F ps).map pP
 |none=>(F (rs.map RV.pv)).bind fun r=>if Gn r=true then some (pP r) else none
noncomputable def ED (ps:List PV):Option (List PV):=match ps with
 |[p]=>(jc p).map (eZ 0)
 |_=>none
noncomputable def nr (o:Out)(t:FT)(s:FS)(ps:List PV):Out:=match o with
 |.nx ρ2=>cR t s ps ρ2
 |.ct ρ2=>cR t s ps ρ2
 |.bk ρ2=>.nx ρ2
 |o=>o
noncomputable def uI (o:Option ay)(t:FT)(s:FS)(ps:List PV):Out:=match o with
 |some ρ=>nr (s ρ) t s ps
 |none=>.bad
theorem hU {t:FT}{s:FS}{p:PV}{ps:List PV}{ρ:ay}:cR t s (p::ps) ρ=uI (t p ρ) t s ps:=Eq.trans rfl rfl
noncomputable def Io (o:Out)(c:FB)(s:FS)(n:Nat):Out:=match o with
 |.nx ρ2=>gn c s n ρ2
 |.ct ρ2=>gn c s n ρ2
 |.bk ρ2=>.nx ρ2
 |o=>o
noncomputable def Lp (o:Option Bool)(c:FB)(s:FS)(n:Nat)(ρ:ay):Out:=match o with
 |some true=>Io (s ρ) c s n
 |some false=>.nx ρ
 |none=>.bad
theorem wF {c:FB}{s:FS}{n:Nat}{ρ:ay}:gn c s (n+1) ρ=Lp (c ρ) c s n ρ:=Eq.trans rfl rfl
noncomputable def rS (g:Int->Int->Int)(o:Option PV)(ps:List PV)(k b:Int)(j:Nat)(ρ:ay):Out:=match o with
 |some (.int a)=>.nx (ρ.set j (some (.own (ps.set k.toNat (.int (g a b))))))
 |_=>.bad
noncomputable def zk (g:Int->Int->Int)(a:Option Sl)(k b:Option PV)(j:Nat)(ρ:ay):Out:=match a,k,b with
 |some (.own ps),some (.int k),some (.int b)=>if 0≤k then rS g ps[k.toNat]? ps k b j ρ else .bad
 |_,_,_=>.bad
theorem GP {s:Option Sl}{i:Nat}{ρ:ay}:frz (i+1) (s::ρ)=s::frz i ρ:=by
 unfold frz
 rw[List.getElem?_cons_succ]
 split<;>simp_all
theorem su {r:RV}{rs:List RV}:(r::rs).mapM RV.fr=r.fr.bind fun p=>(rs.mapM RV.fr).bind fun ps=>some (p::ps):=by
 rw[List.mapM_cons];rfl
theorem JC {s u:FS}{ρ:ay}:al s u ρ=p3 (s ρ) u:=Eq.trans rfl rfl
theorem Dx {t:FT}{s:FS}{ps:List PV}{ρ:ay}:nr (.nx ρ) t s ps=cR t s ps ρ:=Eq.trans rfl rfl
theorem CT {t:FT}{s:FS}{ps:List PV}{ρ:ay}:nr (.ct ρ) t s ps=cR t s ps ρ:=Eq.trans rfl rfl
theorem Dl {t:FT}{s:FS}{ps:List PV}{ρ:ay}:nr (.bk ρ) t s ps=.nx ρ:=Eq.trans rfl rfl
theorem Dy {t:FT}{s:FS}{ps:List PV}{p:PV}:nr (.rt p) t s ps=.rt p:=Eq.trans rfl rfl
theorem DG {t:FT}{s:FS}{ps:List PV}{p:List PV}:nr (.rn p) t s ps=.rn p:=Eq.trans rfl rfl
theorem CG {t:FT}{s:FS}{ps:List PV}{ρ:ay}:uI (some ρ) t s ps=nr (s ρ) t s ps:=Eq.trans rfl rfl
theorem Dj {t:FT}{s:FS}{ρ:ay}:cR t s [] ρ=.nx ρ:=Eq.trans rfl rfl
theorem B4 {c:FB}{s:FS}{n:Nat}{ρ:ay}:Io (.nx ρ) c s n=gn c s n ρ:=Eq.trans rfl rfl
theorem Do {c:FB}{s:FS}{n:Nat}{ρ:ay}:Io (.ct ρ) c s n=gn c s n ρ:=Eq.trans rfl rfl
theorem Br {c:FB}{s:FS}{n:Nat}{ρ:ay}:Io (.bk ρ) c s n=.nx ρ:=Eq.trans rfl rfl
theorem Cp {c:FB}{s:FS}{n:Nat}{p:PV}:Io (.rt p) c s n=.rt p:=Eq.trans rfl rfl
theorem Hh {c:FB}{s:FS}{n:Nat}{ρ:ay}:Lp (some true) c s n ρ=Io (s ρ) c s n:=Eq.trans rfl rfl
theorem GY {c:FB}{s:FS}{n:Nat}{ρ:ay}:Lp (some false) c s n ρ=.nx ρ:=Eq.trans rfl rfl
theorem xH {u:FS}{ρ:ay}:p3 (.nx ρ) u=u ρ:=Eq.trans rfl rfl
theorem yh {u:FS}{p:PV}:p3 (.rt p) u=.rt p:=Eq.trans rfl rfl
theorem xN {u:FS}{p:List PV}:p3 (.rn p) u=.rn p:=Eq.trans rfl rfl
theorem xi {u:FS}{ρ:ay}:p3 (.bk ρ) u=.bk ρ:=Eq.trans rfl rfl
theorem xL {u:FS}{ρ:ay}:p3 (.ct ρ) u=.ct ρ:=Eq.trans rfl rfl
theorem HF {ρ:ay}:aK ρ=.nx ρ:=Eq.trans rfl rfl
theorem K8 {ρ:ay}:Nb ρ=.bk ρ:=Eq.trans rfl rfl
theorem LS {ρ:ay}:MG ρ=.ct ρ:=Eq.trans rfl rfl
theorem EQ {f:FE}{ρ:ay}:j6 f ρ=EG (f ρ) ρ:=Eq.trans rfl rfl
theorem wW {p:PV}{ρ:ay}:EG (some (.fz p)) ρ=.nx ρ:=Eq.trans rfl rfl
theorem Jg {f:FE}{ρ:ay}:aT f ρ=FQ (f ρ):=Eq.trans rfl rfl
theorem AA {p:PV}:FQ (some (.fz p))=.rt p:=Eq.trans rfl rfl
theorem AV {p:List PV}:FQ (some (.nw p))=.rn p:=Eq.trans rfl rfl
theorem FU {i:Nat}{ρ:ay}:j7 i ρ=yF (sl ρ i):=Eq.trans rfl rfl
theorem zN {p:PV}:yF (some (.val p))=.rt p:=Eq.trans rfl rfl
theorem zd {p:List PV}:yF (some (.own p))=.rn p:=Eq.trans rfl rfl
theorem KW {g:FB}{s u:FS}{ρ:ay}:eT g s u ρ=Lq (g ρ) s u ρ:=Eq.trans rfl rfl
theorem Hs {s u:FS}{ρ:ay}:Lq (some true) s u ρ=s ρ:=Eq.trans rfl rfl
theorem GR {s u:FS}{ρ:ay}:Lq (some false) s u ρ=u ρ:=Eq.trans rfl rfl
theorem KB {i:Nat}{f:FE}{ρ:ay}:bd i f ρ=Jl ((f ρ).bind RV.fr) i ρ:=Eq.trans rfl rfl
theorem Bd {i:Nat}{p:PV}{ρ:ay}:Jl (some p) i ρ=.nx (ρ.set i (some (.val p))):=Eq.trans rfl rfl
theorem JL {i:Nat}{f:FE}{ρ:ay}:iW i f ρ=GA (f ρ) i ρ:=Eq.trans rfl rfl
theorem Ab {i:Nat}{p:PV}{ρ:ay}:GA (some (.fz p)) i ρ=.nx (ρ.set i (some (.val p))):=Eq.trans rfl rfl
theorem yK {i:Nat}{p:List PV}{ρ:ay}:GA (some (.nw p)) i ρ=.nx (ρ.set i (some (.own p))):=Eq.trans rfl rfl
theorem Kk {f:FE}{t:FT}{ρ:ay}:fO f t ρ=IV ((f ρ).bind RV.fr) t ρ:=Eq.trans rfl rfl
theorem CD {p:PV}{t:FT}{ρ:ay}:IV (some p) t ρ=LE (t p ρ):=Eq.trans rfl rfl
theorem HU {ρ:ay}:LE (some ρ)=.nx ρ:=Eq.trans rfl rfl
theorem IC {i j:Nat}{fs:FA}{ρ:ay}:rY i j fs ρ=Kv ((fs ρ).bind fun rs=>rs.mapM RV.fr) i j ρ:=Eq.trans rfl rfl
theorem Cj {i j:Nat}{p q:PV}{ρ:ay}:Kv (some [p,q]) i j ρ=.nx ((ρ.set i (some (.val p))).set j (some (.val q))):=Eq.trans rfl rfl
theorem J9 {i:Nat}{s:FS}{ρ:ay}:ym i s ρ=s (frz i ρ):=Eq.trans rfl rfl
theorem B2 {ps:List PV}{ρ:ay}:frz 0 (some (.own ps)::ρ)=some (.val (.lst ps))::ρ:=Eq.trans rfl rfl
theorem CN {p:PV}{ρ:ay}:frz 0 (some (.val p)::ρ)=some (.val p)::ρ:=Eq.trans rfl rfl
theorem J5 {g:Int->Int->Int}{i:Nat}{f:FE}{ρ:ay}:LO g i f ρ=JT g (sl ρ i) ((f ρ).bind RV.fr) i ρ:=Eq.trans rfl rfl
theorem Cu {g:Int->Int->Int}{i:Nat}{a b:Int}{ρ:ay}:JT g (some (.val (.int a))) (some (.int b)) i ρ=.nx (ρ.set i (some (.val (.int (g a b))))):=Eq.trans rfl rfl
theorem JG {i:Nat}{fs:FA}{ρ:ay}:kw i fs ρ=Ir (sl ρ i) ((fs ρ).bind fun rs=>rs.mapM RV.fr) i ρ:=Eq.trans rfl rfl
theorem Bg {i:Nat}{ps:List PV}{q:PV}{ρ:ay}:Ir (some (.own ps)) (some [q]) i ρ=if ps.length≤100000 then .nx (ρ.set i (some (.own (ps++[q])))) else .bad:=Eq.trans rfl rfl
theorem JM {j:Nat}{fi f:FE}{ρ:ay}:uH j fi f ρ=IF ((f ρ).bind RV.fr) (sl ρ j) ((fi ρ).bind RV.fr) j ρ:=Eq.trans rfl rfl
theorem Ba {v:PV}{ps:List PV}{k:Int}{j:Nat}{ρ:ay}:IF (some v) (some (.own ps)) (some (.int k)) j ρ=Aj (qi ps.length k) v ps j ρ:=Eq.trans rfl rfl
theorem Bh {v:PV}{ps:List PV}{n j:Nat}{ρ:ay}:Aj (some n) v ps j ρ=.nx (ρ.set j (some (.own (ps.set n v)))):=Eq.trans rfl rfl
theorem IK {it:FI}{t:FT}{s:FS}{ρ:ay}:io it t s ρ=JI (it ρ) t s ρ:=Eq.trans rfl rfl
theorem BB {its:List PV}{t:FT}{s:FS}{ρ:ay}:JI (some its) t s ρ=cR t s its ρ:=Eq.trans rfl rfl
theorem DH {c:FB}{s:FS}{ρ:ay}:q8 c s ρ=gn c s 10000 ρ:=Eq.trans rfl rfl
theorem zg {ρ:ay}:Out.res (.nx ρ)=some (.v .non):=Eq.trans rfl rfl
theorem yX {p:PV}:Out.res (.rt p)=some (.v p):=Eq.trans rfl rfl
theorem yW {p:List PV}:Out.res (.rn p)=some (.n p):=Eq.trans rfl rfl
theorem Mq {i:Nat}{ρ:ay}:fV i ρ=(sl ρ i).map CB:=Eq.trans rfl rfl
theorem Iw {s:Option Sl}{ρ:ay}:sl (s::ρ) 0=s:=Eq.trans rfl rfl
theorem J8 {s:Option Sl}{i:Nat}{ρ:ay}:sl (s::ρ) (i+1)=sl ρ i:=Eq.trans rfl rfl
theorem y1 {p:PV}:CB (.val p)=.fz p:=Eq.trans rfl rfl
theorem Ag {p:List PV}:CB (.own p)=.ln (.lst p):=Eq.trans rfl rfl
theorem MW {p:PV}{ρ:ay}:fC p ρ=some (.fz p):=Eq.trans rfl rfl
theorem LN {g:PV->PV->Option RV}{a b:FE}{ρ:ay}:ah g a b ρ=(a ρ).bind fun x=>(b ρ).bind fun y=>g x.pv y.pv:=Eq.trans rfl rfl
theorem Cq {p:PV}:RV.pv (.fz p)=p:=Eq.trans rfl rfl
theorem BX {p:List PV}:RV.pv (.nw p)=.lst p:=Eq.trans rfl rfl
theorem DP {p:PV}:RV.pv (.ln p)=p:=Eq.trans rfl rfl
theorem DU {p:PV}:RV.fr (.fz p)=some p:=Eq.trans rfl rfl
theorem Cd {p:List PV}:RV.fr (.nw p)=some (.lst p):=Eq.trans rfl rfl
theorem Bm {p:PV}:RV.fr (.ln p)=none:=Eq.trans rfl rfl
theorem MB {f:FE}{ρ:ay}:fT f ρ=xS (f ρ):=Eq.trans rfl rfl
theorem J1 {b:Bool}:xS (some (.fz (.bl b)))=some b:=Eq.trans rfl rfl
theorem Fa {g:FB}{ρ:ay}:dZ g ρ=(g ρ).map fun b=>!b:=Eq.trans rfl rfl
theorem Gh {g k:FB}{ρ:ay}:iD g k ρ=(g ρ).bind fun b=>if b=true then k ρ else some false:=Eq.trans rfl rfl
theorem Kw {g k:FB}{ρ:ay}:iU g k ρ=(g ρ).bind fun b=>if b=true then some true else k ρ:=Eq.trans rfl rfl
theorem II {f:FE}{ρ:ay}:ox f ρ=(f ρ).bind fun r=>r.fr.map .fz:=Eq.trans rfl rfl
theorem G8 {f g:FE}{ρ:ay}:ju f g ρ=(xS (f ρ)).bind fun b=>if b=true then ox g ρ else some (.fz (.bl false)):=Eq.trans rfl rfl
theorem Iz {f g:FE}{ρ:ay}:CM f g ρ=(xS (f ρ)).bind fun b=>if b=true then some (.fz (.bl true)) else ox g ρ:=Eq.trans rfl rfl
theorem GJ {f:FE}{ρ:ay}:wv f ρ=(xS (f ρ)).map fun b=>.fz (.bl (!b)):=Eq.trans rfl rfl
theorem Jw {f:FE}{ρ:ay}:tH f ρ=(f ρ).bind fun r=>Kh r.fr:=Eq.trans rfl rfl
theorem BM {i:Int}:Kh (some (.int i))=some (.fz (.int (-i))):=Eq.trans rfl rfl
theorem Kl {g:FB}{f k:FE}{ρ:ay}:Iq g f k ρ=(g ρ).bind fun b=>if b=true then ox f ρ else ox k ρ:=Eq.trans rfl rfl
theorem K3 {g g':PV->PV->Option RV}{a b c:FE}{ρ:ay}:Hk g g' a b c ρ=(a ρ).bind fun x=>(b ρ).bind fun y=>(xS (g x.pv y.pv)).bind fun k=>if k=true then (c ρ).bind fun z=>g' y.pv z.pv else some (.fz (.bl false)):=Eq.trans rfl rfl
theorem Kc {ρ:ay}:ag ρ=some []:=Eq.trans rfl rfl
theorem G0 {f:FE}{fs:FA}{ρ:ay}:aa f fs ρ=(f ρ).bind fun r=>(fs ρ).bind fun rs=>some (r::rs):=Eq.trans rfl rfl
theorem vh  : ([]:List RV).mapM RV.fr=some []:=Eq.trans rfl rfl
theorem IL {fs:FA}{ρ:ay}:cw fs ρ=(fs ρ).bind fun rs=>(rs.mapM RV.fr).bind fun ps=>if ps.length≤100000 then some (.fz (.tup ps)) else none:=Eq.trans rfl rfl
theorem IE {fs:FA}{ρ:ay}:fe fs ρ=(fs ρ).bind fun rs=>(rs.mapM RV.fr).bind fun ps=>if ps.length≤100000 then some (.nw ps) else none:=Eq.trans rfl rfl
theorem Df {i j:Int}:bV (.int i) (.int j)=some (.fz (.int (i+j))):=Eq.trans rfl rfl
theorem DY {ps qs:List PV}:bV (.lst ps) (.lst qs)=if ps.length+qs.length≤100000 then some (.nw (ps++qs)) else none:=Eq.trans rfl rfl
theorem De {ps qs:List PV}:bV (.tup ps) (.tup qs)=if ps.isEmpty=false/\ps.length+qs.length≤100000 then some (.fz (.tup (ps++qs))) else none:=Eq.trans rfl rfl
theorem Bf {i j:Int}:sS (.int i) (.int j)=some (.fz (.int (i - j))):=Eq.trans rfl rfl
theorem Cf {i j:Int}:fN (.int i) (.int j)=if (i.natAbs<2 ^ 64)\/(j.natAbs<2 ^ 64) then some (.fz (.int (i * j))) else none:=Eq.trans rfl rfl
theorem Ca {ps:List PV}{j:Int}:fN (.lst ps) (.int j)=if j≤1000/\-1000≤j/\ps.length≤100 then some (.nw (List.replicate j.toNat ps).flatten) else none:=Eq.trans rfl rfl
theorem DZ {ps:List PV}{j:Int}:fN (.tup ps) (.int j)=if ps.isEmpty=false/\1≤j/\j≤1000/\ps.length≤1000 then some (.fz (.tup (List.replicate j.toNat ps).flatten)) else none:=Eq.trans rfl rfl
theorem Dt {i j:Int}:ji (.int i) (.int j)=if 0<j/\j<1073741824 then some (.fz (.int (i / j))) else none:=Eq.trans rfl rfl
theorem CI {i j:Int}:aZ (.int i) (.int j)=if 0<j then some (.fz (.int (i % j))) else none:=Eq.trans rfl rfl
theorem Bc {i j:Int}:Dc (.int i) (.int j)=if 0≤j/\j≤1000000/\i.natAbs<2 ^ 64 then some (.fz (.int (i ^ j.toNat))) else none:=Eq.trans rfl rfl
theorem An {i j:Int}:Km (.int i) (.int j)=some (.fz (.int (Builtin.bitAnd i j))):=Eq.trans rfl rfl
theorem FF {i j:Int}:A4 (.int i) (.int j)=some (.fz (.bl (decide (i<j)))):=Eq.trans rfl rfl
theorem Hx {i j:Int}:AY (.int i) (.int j)=some (.fz (.bl (decide (i≤j)))):=Eq.trans rfl rfl
theorem HJ {i j:Int}:uJ (.int i) (.int j)=some (.fz (.bl (decide (j<i)))):=Eq.trans rfl rfl
theorem Fn {i j:Int}:Ij (.int i) (.int j)=some (.fz (.bl (decide (j≤i)))):=Eq.trans rfl rfl
theorem Fp {x y:PV}:dQ x y=if plain x&&plain y&&decide (kr x≤50) then some (.fz (.bl (iT x y))) else none:=Eq.trans rfl rfl
theorem Gs {x y:PV}:gd x y=if plain x&&plain y&&decide (kr x≤50) then some (.fz (.bl (!iT x y))) else none:=Eq.trans rfl rfl
theorem HZ {x:PV}{ps:List PV}:CW x (.lst ps)=if plain x&&aL ps&&decide (cz ps≤50) then some (.fz (.bl (pin x ps))) else none:=Eq.trans rfl rfl
theorem Hy {x:PV}{ps:List PV}:CW x (.tup ps)=if plain x&&aL ps&&decide (cz ps≤50) then some (.fz (.bl (pin x ps))) else none:=Eq.trans rfl rfl
theorem BC {x:PV}{ps:List PV}:mj x (.lst ps)=if plain x&&aL ps&&decide (cz ps≤50) then some (.fz (.bl (!pin x ps))) else none:=Eq.trans rfl rfl
theorem Bj {x:PV}{ps:List PV}:mj x (.tup ps)=if plain x&&aL ps&&decide (cz ps≤50) then some (.fz (.bl (!pin x ps))) else none:=Eq.trans rfl rfl
theorem FZ {x:PV}:MI x .non=some (.fz (.bl (kF x))):=Eq.trans rfl rfl
theorem wR {x:PV}:Gm x .non=some (.fz (.bl (!kF x))):=Eq.trans rfl rfl
theorem zq {ps:List PV}{i:Int}:aH (.tup ps) (.int i)=(L2.atI ps i).map .fz:=Eq.trans rfl rfl
theorem Hc {ps:List PV}{i:Int}:aH (.lst ps) (.int i)=(L2.atI ps i).map .fz:=Eq.trans rfl rfl
theorem FH {ps:List PV}{i:Int}:aH (.src ps) (.int i)=(L2.atI ps i).map .fz:=Eq.trans rfl rfl
theorem LR {f:FE}{l h:FO}{ρ:ay}:qL f l h ρ=(f ρ).bind fun r=>(l ρ).bind fun lo=>(h ρ).bind fun hi=>A0 r.pv lo hi:=Eq.trans rfl rfl
theorem Lb {ρ:ay}:rQ ρ=some none:=Eq.trans rfl rfl
theorem LW {f:FE}{ρ:ay}:rm f ρ=(f ρ).bind fun r=>Mb r.fr:=Eq.trans rfl rfl
theorem Fe {i:Int}:Mb (some (.int i))=some (some i):=Eq.trans rfl rfl
theorem Gf {ps:List PV}{l h:Option Int}:A0 (.lst ps) l h=some (.nw (cut ps l h)):=Eq.trans rfl rfl
theorem FY {ps:List PV}{l h:Option Int}:A0 (.src ps) l h=some (.nw (cut ps l h)):=Eq.trans rfl rfl
theorem F7 {ps:List PV}{l h:Option Int}:A0 (.tup ps) l h=if HT.sIx ps.length 0 l=0/\HT.sIx ps.length ps.length h=ps.length then none else some (.fz (.tup (cut ps l h))):=Eq.trans rfl rfl
theorem Ng {g:List PV->Option RV}{fs:FA}{ρ:ay}:fB g fs ρ=(fs ρ).bind fun rs=>g (rs.map RV.pv):=Eq.trans rfl rfl
theorem BJ {ps:List PV}:eK [.lst ps]=some (.fz (.int ps.length)):=Eq.trans rfl rfl
theorem Bt {ps:List PV}:eK [.tup ps]=some (.fz (.int ps.length)):=Eq.trans rfl rfl
theorem DL {ps:List PV}:eK [.src ps]=some (.fz (.int ps.length)):=Eq.trans rfl rfl
theorem C5 {i:Int}:AU [.int i]=some (.fz (.int (if i<0 then -i else i))):=Eq.trans rfl rfl
theorem DR {i j:Int}:sv [.int i,.int j]=some (.fz (.int (if j > i then j else i))):=Eq.trans rfl rfl
theorem C4 {i j:Int}:kH [.int i,.int j]=some (.fz (.int (if j<i then j else i))):=Eq.trans rfl rfl
theorem Ce {i:Int}:o8 [.int i]=some (.fz (.int i)):=Eq.trans rfl rfl
theorem Dk {b:Bool}:o8 [.bl b]=some (.fz (.int (if b then 1 else 0))):=Eq.trans rfl rfl
theorem A8 {ps:List PV}:qV [.lst ps]=(A6 ps).map fun bs=>.fz (.bl (bs.all id)):=Eq.trans rfl rfl
theorem BD {ps:List PV}:Le [.lst ps]=(A6 ps).map fun bs=>.fz (.bl (bs.any id)):=Eq.trans rfl rfl
theorem Du {ps:List PV}:jy [.lst ps]=some (.fz (.tup ps)):=Eq.trans rfl rfl
theorem Cv {ps:List PV}:jy [.tup ps]=some (.fz (.tup ps)):=Eq.trans rfl rfl
theorem zA {lo j:Int}:gX [.rng lo j]=if lo=0/\0≤j/\j≤1000000 then some (.nw (sq 0 j.toNat)) else none:=Eq.trans rfl rfl
theorem yG {ps:List PV}:gX [.lst ps]=some (.nw ps):=Eq.trans rfl rfl
theorem yu {ps:List PV}:gX [.tup ps]=some (.nw ps):=Eq.trans rfl rfl
theorem D6 {j:Int}:uZ [.int j]=if -(2 ^ 62)≤j/\j<2 ^ 62 then some (.fz (.rng 0 j)) else none:=Eq.trans rfl rfl
theorem uD {ps:List PV}:kf [.lst ps]=(ii ps).bind fun ks=>if ps.length<64 then some (.nw ((mX ks).map fun i=>ps.getD i .non)) else none:=Eq.trans rfl rfl
theorem Ia {F:List PV->Option PR}{fs:FA}{ρ:ay}:au F fs ρ=(fs ρ).bind fun rs=>zG F (rs.mapM RV.fr) rs:=Eq.trans rfl rfl
theorem yH {F:List PV->Option PR}{ps:List PV}{rs:List RV}:zG F (some ps) rs=(F ps).map pP:=Eq.trans rfl rfl
theorem zO {F:List PV->Option PR}{rs:List RV}:zG F none rs=(F (rs.map RV.pv)).bind fun r=>if Gn r=true then some (pP r) else none:=Eq.trans rfl rfl
theorem HI {p:PV}:pP (.v p)=.fz p:=Eq.trans rfl rfl
theorem F9 {p:List PV}:pP (.n p)=.nw p:=Eq.trans rfl rfl
theorem CL {p:PV}:Gn (.v p)=tf p:=Eq.trans rfl rfl
theorem Bb {p:List PV}:Gn (.n p)=Ik p:=Eq.trans rfl rfl
theorem L7 {f:FE}{ρ:ay}:lP f ρ=(f ρ).bind fun r=>r.fr.bind items:=Eq.trans rfl rfl
theorem xE {ps:List PV}:items (.tup ps)=some ps:=Eq.trans rfl rfl
theorem xt {ps:List PV}:items (.lst ps)=some ps:=Eq.trans rfl rfl
theorem yc {ps:List PV}:items (.src ps)=some ps:=Eq.trans rfl rfl
theorem IP {g:List PV->Option (List PV)}{fs:FA}{ρ:ay}:jw g fs ρ=(fs ρ).bind fun rs=>g (rs.map RV.pv):=Eq.trans rfl rfl
theorem He {j:Int}:im [.int j]=if IR j then some (sq 0 j.toNat) else none:=Eq.trans rfl rfl
theorem J4 {f:FE}{ρ:ay}:K0 f ρ=(f ρ).bind fun r=>(jc r.pv).map fun ps=>.nw ps.reverse:=Eq.trans rfl rfl
theorem xm {ps:List PV}:jc (.lst ps)=some ps:=Eq.trans rfl rfl
theorem xv {ps:List PV}:jc (.src ps)=some ps:=Eq.trans rfl rfl
theorem Fb {ps:List PV}:Jf [.lst ps]=(jO ps).bind fun is=>if is.length=0 then none else some (.fz (.int (GF is))):=Eq.trans rfl rfl
theorem FR {ps:List PV}:Kg [.lst ps]=(jO ps).bind fun is=>if is.length=0 then none else some (.fz (.int (ET is))):=Eq.trans rfl rfl
theorem GB {ps:List PV}:Lm [.lst ps]=(jO ps).map fun is=>.fz (.int is.sum):=Eq.trans rfl rfl
theorem CZ {g:Int->Int->Int}{j:Nat}{fi f:FE}{ρ:ay}:H9 g j fi f ρ=zk g (sl ρ j) ((fi ρ).bind RV.fr) ((f ρ).bind RV.fr) j ρ:=Eq.trans rfl rfl
theorem yo {g:Int->Int->Int}{ps:List PV}{k b:Int}{j:Nat}{ρ:ay}:zk g (some (.own ps)) (some (.int k)) (some (.int b)) j ρ=if 0≤k then rS g ps[k.toNat]? ps k b j ρ else .bad:=Eq.trans rfl rfl
theorem xW {g:Int->Int->Int}{a:Int}{ps:List PV}{k b:Int}{j:Nat}{ρ:ay}:rS g (some (.int a)) ps k b j ρ=.nx (ρ.set j (some (.own (ps.set k.toNat (.int (g a b)))))):=Eq.trans rfl rfl
theorem Hf {fs:FA}{ρ:ay}:IS fs ρ=(fs ρ).bind fun rs=>(rs.mapM RV.fr).bind ED:=Eq.trans rfl rfl
theorem yP {ps:List PV}:ED [.lst ps]=some (eZ 0 ps):=Eq.trans rfl rfl
theorem LK {i:Nat}{p:PV}{ρ:ay}:gN i p ρ=some (ρ.set i (some (.val p))):=Eq.trans rfl rfl
theorem L6 {ρ:ay}:g0 [] ρ=some ρ:=Eq.trans rfl rfl
theorem KY {t:FT}{ts:Ct}{p:PV}{ps:List PV}{ρ:ay}:gC t ts (p::ps) ρ=(t p ρ).bind fun ρ'=>ts ps ρ':=Eq.trans rfl rfl
theorem J2 {n:Nat}{ts:Ct}{ps:List PV}{ρ:ay}:iY n ts (.tup ps) ρ=if ps.length=n then ts ps ρ else none:=Eq.trans rfl rfl
theorem Hv {fm:List (Option Nat)}{it:FI}{t:FT}{c:FB}{f:FE}{ρ:ay}:cG fm it t c f ρ=(it ρ).bind fun its=>if its.length<1000 then (mH t c f (lx fm ρ) its).map .nw else none:=Eq.trans rfl rfl
theorem Jo {ρ:ay}:cr ρ=some true:=Eq.trans rfl rfl
theorem wQ {ρ:ay}:lx [] ρ=[]:=Eq.trans rfl rfl
theorem vU {fm:List (Option Nat)}{ρ:ay}:lx (none::fm) ρ=none::lx fm ρ:=Eq.trans rfl rfl
theorem vk {j:Nat}{fm:List (Option Nat)}{ρ:ay}:lx (some j::fm) ρ=sl ρ j::lx fm ρ:=Eq.trans rfl rfl
theorem HV {s v:Option Sl}{ρ:ay}:List.set (s::ρ) 0 v=v::ρ:=Eq.trans rfl rfl
theorem EV {s v:Option Sl}{i:Nat}{ρ:ay}:List.set (s::ρ) (i+1) v=s::List.set ρ i v:=Eq.trans rfl rfl
theorem bP {p:PV}{n:String}{b:Bool}(hn:n = "int"\/n = "bool"\/n = "str"\/n = "tuple"\/n = "list"\/n = "dict")(h:KM n p=some b):g8 [p,.ty n]=some (.fz (.bl b)):=by
 unfold g8;simp only[hn,if_true,h,Option.map_some]
theorem sg {i:Int}:g8 [(.int i),.ty "int"]=some (.fz (.bl true)):=bP (by decide) rfl
theorem o5 {i:Int}:g8 [(.int i),.ty "bool"]=some (.fz (.bl false)):=bP (by decide) rfl
theorem qI {i:Int}:g8 [(.int i),.ty "str"]=some (.fz (.bl false)):=bP (by decide) rfl
theorem oV {i:Int}:g8 [(.int i),.ty "tuple"]=some (.fz (.bl false)):=bP (by decide) rfl
theorem pG {i:Int}:g8 [(.int i),.ty "list"]=some (.fz (.bl false)):=bP (by decide) rfl
theorem o7 {i:Int}:g8 [(.int i),.ty "dict"]=some (.fz (.bl false)):=bP (by decide) rfl
theorem t5 {i:Bool}:g8 [(.bl i),.ty "int"]=some (.fz (.bl true)):=bP (by decide) rfl
theorem rf {i:Bool}:g8 [(.bl i),.ty "bool"]=some (.fz (.bl true)):=bP (by decide) rfl
theorem tW {i:Bool}:g8 [(.bl i),.ty "str"]=some (.fz (.bl false)):=bP (by decide) rfl
theorem o6 {i:Bool}:g8 [(.bl i),.ty "tuple"]=some (.fz (.bl false)):=bP (by decide) rfl
theorem rJ {i:Bool}:g8 [(.bl i),.ty "list"]=some (.fz (.bl false)):=bP (by decide) rfl
theorem rE {i:Bool}:g8 [(.bl i),.ty "dict"]=some (.fz (.bl false)):=bP (by decide) rfl
theorem sk {i:List PV}:g8 [(.tup i),.ty "int"]=some (.fz (.bl false)):=bP (by decide) rfl
theorem pI {i:List PV}:g8 [(.tup i),.ty "bool"]=some (.fz (.bl false)):=bP (by decide) rfl
theorem rj {i:List PV}:g8 [(.tup i),.ty "str"]=some (.fz (.bl false)):=bP (by decide) rfl
theorem nL {i:List PV}:g8 [(.tup i),.ty "tuple"]=some (.fz (.bl true)):=bP (by decide) rfl
theorem pc {i:List PV}:g8 [(.tup i),.ty "list"]=some (.fz (.bl false)):=bP (by decide) rfl
theorem pD {i:List PV}:g8 [(.tup i),.ty "dict"]=some (.fz (.bl false)):=bP (by decide) rfl
theorem qZ {i:List PV}:g8 [(.lst i),.ty "int"]=some (.fz (.bl false)):=bP (by decide) rfl
theorem pb {i:List PV}:g8 [(.lst i),.ty "bool"]=some (.fz (.bl false)):=bP (by decide) rfl
theorem ra {i:List PV}:g8 [(.lst i),.ty "str"]=some (.fz (.bl false)):=bP (by decide) rfl
theorem nH {i:List PV}:g8 [(.lst i),.ty "tuple"]=some (.fz (.bl false)):=bP (by decide) rfl
theorem pq {i:List PV}:g8 [(.lst i),.ty "list"]=some (.fz (.bl true)):=bP (by decide) rfl
theorem pN {i:List PV}:g8 [(.lst i),.ty "dict"]=some (.fz (.bl false)):=bP (by decide) rfl
theorem qR {i:Str}:g8 [(.str i),.ty "int"]=some (.fz (.bl false)):=bP (by decide) rfl
theorem pE {i:Str}:g8 [(.str i),.ty "bool"]=some (.fz (.bl false)):=bP (by decide) rfl
theorem q0 {i:Str}:g8 [(.str i),.ty "str"]=some (.fz (.bl true)):=bP (by decide) rfl
theorem nR {i:Str}:g8 [(.str i),.ty "tuple"]=some (.fz (.bl false)):=bP (by decide) rfl
theorem o4 {i:Str}:g8 [(.str i),.ty "list"]=some (.fz (.bl false)):=bP (by decide) rfl
theorem o3 {i:Str}:g8 [(.str i),.ty "dict"]=some (.fz (.bl false)):=bP (by decide) rfl
theorem se  : g8 [.non,.ty "int"]=some (.fz (.bl false)):=bP (by decide) rfl
theorem pO  : g8 [.non,.ty "bool"]=some (.fz (.bl false)):=bP (by decide) rfl
theorem rL  : g8 [.non,.ty "str"]=some (.fz (.bl false)):=bP (by decide) rfl
theorem nT  : g8 [.non,.ty "tuple"]=some (.fz (.bl false)):=bP (by decide) rfl
theorem pf  : g8 [.non,.ty "list"]=some (.fz (.bl false)):=bP (by decide) rfl
theorem pL  : g8 [.non,.ty "dict"]=some (.fz (.bl false)):=bP (by decide) rfl
theorem uf {α β:Type}{a:α}{f:α->Option β}:((some a).bind f)=f a:=Eq.trans rfl rfl
theorem t8 {α β:Type}{f:α->Option β}:((none:Option α).bind f)=none:=Eq.trans rfl rfl
theorem vm {α β:Type}{a:α}{f:α->β}:((some a).map f)=some (f a):=Eq.trans rfl rfl
theorem vo {α β:Type}{f:α->β}:((none:Option α).map f)=none:=Eq.trans rfl rfl
theorem u5 {α β:Type}{a:α}{l:List α}{f:α->β}:((a::l).map f)=f a::l.map f:=Eq.trans rfl rfl
theorem xz {α β:Type}{f:α->β}:(([]:List α).map f)=[]:=Eq.trans rfl rfl
theorem xK {α:Type}{l:List α}:([]++l)=l:=Eq.trans rfl rfl
theorem vC {α:Type}{a:α}{l m:List α}:((a::l)++m)=a::(l++m):=Eq.trans rfl rfl
theorem u6 {α:Type}{a:α}{l:List α}:((a::l).length)=l.length+1:=Eq.trans rfl rfl
theorem xw {α:Type}:(([]:List α).length)=0:=Eq.trans rfl rfl
theorem Gq {α:Type}{a b:α}:((if True then a else b))=a:=Eq.trans rfl rfl
theorem HE {α:Type}{a b:α}:((if False then a else b))=b:=Eq.trans rfl rfl
theorem CQ {α:Type}{a b:α}:((if true=true then a else b))=a:=Eq.trans rfl rfl
theorem Da {α:Type}{a b:α}:((if false=true then a else b))=b:=Eq.trans rfl rfl
theorem xQ {α:Type}{a:α}{l:List α}:((a::l).isEmpty)=false:=Eq.trans rfl rfl
theorem x8 {α:Type}:(([]:List α).isEmpty)=true:=Eq.trans rfl rfl
theorem t6  : (plain .non)=true:=Eq.trans rfl rfl
theorem uA {b:Bool}:(plain (.bl b))=true:=Eq.trans rfl rfl
theorem sX {b:Int}:(plain (.int b))=true:=Eq.trans rfl rfl
theorem tZ {b:Str}:(plain (.str b))=true:=Eq.trans rfl rfl
theorem xG  : (kr .non)=0:=Eq.trans rfl rfl
theorem AE {b:Bool}:(kr (.bl b))=0:=Eq.trans rfl rfl
theorem xB {b:Int}:(kr (.int b))=0:=Eq.trans rfl rfl
theorem xO {b:Str}:(kr (.str b))=0:=Eq.trans rfl rfl
theorem LD {n:Nat}:(nI n)=PV.int n:=Eq.trans rfl rfl
theorem BQ  : (kF .non)=true:=Eq.trans rfl rfl
theorem xj {i:Int}:(kF (.int i))=false:=Eq.trans rfl rfl
theorem x0 {i:Bool}:(kF (.bl i))=false:=Eq.trans rfl rfl
theorem xl {i:List PV}:(kF (.tup i))=false:=Eq.trans rfl rfl
theorem xy {i:List PV}:(kF (.lst i))=false:=Eq.trans rfl rfl
theorem xR {i:Str}:(kF (.str i))=false:=Eq.trans rfl rfl
theorem JW {i:Int}:(IR i)=(decide (-4611686018427387904≤i)&&decide (i<4611686018427387904)):=Eq.trans rfl rfl
theorem x9 {ps:List PV}:plain (.tup ps)=aL ps:=by rw[Pu.plain]
theorem yd {ps:List PV}:plain (.lst ps)=aL ps:=by rw[Pu.plain]
theorem uW:aL []=true:=by rw[aL]
theorem vg {p:PV}{ps:List PV}:aL (p::ps)=(plain p&&aL ps):=by rw[aL]
theorem C3 {ps:List PV}:kr (.tup ps)=cz ps+1:=by rw[kr]
theorem Bs {ps:List PV}:kr (.lst ps)=cz ps+1:=by rw[kr]
theorem zm:cz []=0:=by rw[cz]
theorem zD {p:PV}{ps:List PV}:cz (p::ps)=max (kr p) (cz ps):=by rw[cz]
noncomputable def E1:=(And.intro (And.intro @GP (And.intro @su @JC)) (And.intro @Dx (And.intro @CT @Dl)))
noncomputable def E2:=(And.intro (And.intro @Dy (And.intro @DG @CG)) (And.intro @Dj (And.intro @B4 @Do)))
noncomputable def E3:=(And.intro (And.intro @Br (And.intro @Cp @Hh)) (And.intro @GY (And.intro @xH @yh)))
noncomputable def E4:=(And.intro (And.intro @xN (And.intro @xi @xL)) (And.intro @HF (And.intro @K8 @LS)))
noncomputable def E5:=(And.intro (And.intro @EQ (And.intro @wW @Jg)) (And.intro @AA (And.intro @AV @FU)))
noncomputable def E6:=(And.intro (And.intro @zN (And.intro @zd @KW)) (And.intro @Hs (And.intro @GR @KB)))
noncomputable def E7:=(And.intro (And.intro @Bd (And.intro @JL @Ab)) (And.intro @yK (And.intro @Kk @CD)))
noncomputable def E8:=(And.intro (And.intro @HU (And.intro @IC @Cj)) (And.intro @J9 (And.intro @B2 @CN)))
noncomputable def E9:=(And.intro (And.intro @J5 (And.intro @Cu @JG)) (And.intro @Bg (And.intro @JM @Ba)))
noncomputable def MY:=(And.intro (And.intro @Bh (And.intro @IK @BB)) (And.intro @DH (And.intro @zg @yX)))
noncomputable def Mw:=(And.intro (And.intro @yW (And.intro @Mq @Iw)) (And.intro @J8 (And.intro @y1 @Ag)))
noncomputable def Nf:=(And.intro (And.intro @MW (And.intro @LN @Cq)) (And.intro @BX (And.intro @DP @DU)))
noncomputable def MA:=(And.intro (And.intro @Cd (And.intro @Bm @MB)) (And.intro @J1 (And.intro @Fa @Gh)))
noncomputable def No:=(And.intro (And.intro @Kw (And.intro @II @G8)) (And.intro @Iz (And.intro @GJ @Jw)))
noncomputable def Nk:=(And.intro (And.intro @BM (And.intro @Kl @K3)) (And.intro @Kc (And.intro @G0 @vh)))
noncomputable def MF:=(And.intro (And.intro @IL (And.intro @IE @Df)) (And.intro @DY (And.intro @De @Bf)))
noncomputable def Mp:=(And.intro (And.intro @Cf (And.intro @Ca @DZ)) (And.intro @Dt (And.intro @CI @Bc)))
noncomputable def Ni:=(And.intro (And.intro @An (And.intro @FF @Hx)) (And.intro @HJ (And.intro @Fn @Fp)))
noncomputable def MJ:=(And.intro (And.intro @Gs (And.intro @HZ @Hy)) (And.intro @BC (And.intro @Bj @FZ)))
noncomputable def M9:=(And.intro (And.intro @wR (And.intro @zq @Hc)) (And.intro @FH (And.intro @LR @Lb)))
noncomputable def Mz:=(And.intro (And.intro @LW (And.intro @Fe @Gf)) (And.intro @FY (And.intro @F7 @Ng)))
noncomputable def ME:=(And.intro (And.intro @BJ (And.intro @Bt @DL)) (And.intro @C5 (And.intro @DR @C4)))
noncomputable def MV:=(And.intro (And.intro @Ce (And.intro @Dk @A8)) (And.intro @BD (And.intro @Du @Cv)))
noncomputable def Nn:=(And.intro (And.intro @yG (And.intro @yu @uD)) (And.intro @Ia (And.intro @yH @zO)))
noncomputable def Nu:=(And.intro (And.intro @HI (And.intro @F9 @CL)) (And.intro @Bb (And.intro @L7 @xE)))
noncomputable def Mn:=(And.intro (And.intro @xt (And.intro @yc @IP)) (And.intro @J4 (And.intro @xm @xv)))
noncomputable def MZ:=(And.intro (And.intro @Fb (And.intro @FR @GB)) (And.intro @CZ (And.intro @yo @xW)))
noncomputable def Mm:=(And.intro (And.intro @Hf (And.intro @yP @LK)) (And.intro @L6 (And.intro @KY @J2)))
noncomputable def MX:=(And.intro (And.intro @Hv (And.intro @Jo @wQ)) (And.intro @vU (And.intro @vk @HV)))
noncomputable def Mo:=(And.intro (And.intro @EV (And.intro @sg @o5)) (And.intro @qI (And.intro @oV @pG)))
noncomputable def MU:=(And.intro (And.intro @o7 (And.intro @t5 @rf)) (And.intro @tW (And.intro @o6 @rJ)))
noncomputable def MR:=(And.intro (And.intro @rE (And.intro @sk @pI)) (And.intro @rj (And.intro @nL @pc)))
noncomputable def Mr:=(And.intro (And.intro @pD (And.intro @qZ @pb)) (And.intro @ra (And.intro @nH @pq)))
noncomputable def MH:=(And.intro (And.intro @pN (And.intro @qR @pE)) (And.intro @q0 (And.intro @nR @o4)))
noncomputable def Mv:=(And.intro (And.intro @o3 (And.intro @se @pO)) (And.intro @rL (And.intro @nT @pf)))
noncomputable def ML:=(And.intro (And.intro @pL (And.intro @uf @t8)) (And.intro @vm (And.intro @vo @u5)))
noncomputable def Nw:=(And.intro (And.intro @xz (And.intro @xK @vC)) (And.intro @u6 (And.intro @xw @Gq)))
noncomputable def MD:=(And.intro (And.intro @HE (And.intro @CQ @Da)) (And.intro @xQ (And.intro @x8 @t6)))
noncomputable def Nd:=(And.intro (And.intro @uA (And.intro @sX @tZ)) (And.intro @xG (And.intro @AE @xB)))
noncomputable def MQ:=(And.intro (And.intro @xO (And.intro @LD @BQ)) (And.intro @xj (And.intro @x0 @xl)))
noncomputable def Nj:=(And.intro (And.intro @xy (And.intro @xR @x9)) (And.intro @yd (And.intro @uW @vg)))
noncomputable def Nr:=(And.intro (And.intro @C3 (And.intro @Bs @zm)) (And.intro @zD (And.intro @MS @MO)))
noncomputable def Mu:=(And.intro (And.intro @Ms (And.intro @Nq @wo)) (And.intro @vY (And.intro @FG @A9)))
noncomputable def Mx:=(And.intro (And.intro @CP (And.intro @yq @tu)) (And.intro @and_true (And.intro @true_and @false_and)))
noncomputable def Np:=(And.intro (And.intro @and_false (And.intro @Nat.add_zero @Nat.zero_add)) (And.intro @Int.toNat_natCast (And.intro @Bool.not_true @Bool.not_false)))
noncomputable def M7:=(And.intro (And.intro @Bool.true_and (And.intro @Bool.false_and @Bool.and_true)) (And.intro @Bool.and_false (And.intro @Bool.true_or @Bool.false_or)))
noncomputable def M3:=(And.intro (And.intro @Bool.or_true (And.intro @Bool.or_false @Nat.zero_le)) (And.intro @decide_true (And.intro @decide_false @jM)))
noncomputable def MK:=(And.intro (And.intro @ce @dD) (And.intro @Nat.max_self (And.intro @Nat.zero_max @Nat.max_zero)))
noncomputable def EE:=(And.intro E1 (And.intro E2 (And.intro E3 (And.intro E4 (And.intro E5 (And.intro E6 (And.intro E7 (And.intro E8 (And.intro E9 (And.intro MY (And.intro Mw (And.intro Nf (And.intro MA (And.intro No (And.intro Nk (And.intro MF (And.intro Mp (And.intro Ni (And.intro MJ (And.intro M9 (And.intro Mz (And.intro ME (And.intro MV (And.intro Nn (And.intro Nu (And.intro Mn (And.intro MZ (And.intro Mm (And.intro MX (And.intro Mo (And.intro MU (And.intro MR (And.intro Mr (And.intro MH (And.intro Mv (And.intro ML (And.intro Nw (And.intro MD (And.intro Nd (And.intro MQ (And.intro Nj (And.intro Nr (And.intro Mu (And.intro Mx (And.intro Np (And.intro M7 (And.intro M3 MK)))))))))))))))))))))))))))))))))))))))))))))))
end Dp
end
section
namespace Dp
open PySem L2 Fo Pu
theorem rM {t:FT}{f:FE}{ρ:ay}(g:PV->PV):∀{its:List PV},(∀p∈its,(t p ρ).bind (fun ρ2=>(f ρ2).bind RV.fr)=some (g p))->mH t cr f ρ its=some (its.map g):=fun {its}=>by
 induction its with
 |nil=>intro _;rfl
 |cons p ps ih=>
  intro h
  have h1:=h p List.mem_cons_self
  have h2:=ih fun q hq=>h q (List.mem_cons_of_mem _ hq)
  obtain⟨ρ2,e1,h1⟩:=Option.bind_eq_some_iff.mp h1
  obtain⟨r,e2,h1⟩:=Option.bind_eq_some_iff.mp h1
  rw[mH,e1,h2]
  show (f ρ2).bind _=_
  rw[e2]
  show r.fr.bind _=_
  rw[h1];rfl
theorem nb {t:FT}{f:FE}{ρ:ay}(g:Nat->PV){us:List Nat}(h:∀u∈us,(t (.int u) ρ).bind (fun ρ2=>(f ρ2).bind RV.fr)=some (g u)):mH t cr f ρ (ak us)=some (us.map g):=by
 have e:(ak us).map (fun p=>match p with|.int i=>g i.toNat|_=>.non)=us.map g:=by
  unfold ak;rw[List.map_map];exact List.map_congr_left fun u _=>rfl
 rw[←e]
 refine rM _ fun p hp=>?_
 obtain⟨u,hu,rfl⟩:=AQ hp
 exact h u hu
theorem z0 {α:Type}(l:List α):A6 (l.map fun _=>PV.bl true)=some (l.map fun _=>true):=by
 induction l with
 |nil=>rfl
 |cons a l ih=>rw[List.map_cons,A6,ih];rfl
theorem zX {α:Type}(l:List α):(l.map fun _=>true).all id=true:=by induction l<;>simp_all
theorem K1 {n:Nat}(h:n≤100000):im [.int n]=some (ak (List.range n))/\uZ [.int n]=some (.fz (.rng 0 n))/\gX [.rng 0 n]=some (.nw (ak (List.range n))):=by
 refine⟨?_,?_,?_⟩
 ·rw[He,JW,decide_eq_true (by omega),decide_eq_true (by omega),Int.toNat_natCast,CH];rfl
 ·rw[D6,if_pos ⟨by omega,by omega⟩]
 ·rw[zA,if_pos ⟨rfl,by omega,by omega⟩,Int.toNat_natCast,CH]
theorem M8 {j:Int}(h0:0≤j)(h:j≤100000):im [.int j]=some (ak (List.range j.toNat))/\uZ [.int j]=some (.fz (.rng 0 j))/\gX [.rng 0 j]=some (.nw (ak (List.range j.toNat))):=by
 have:=K1 (n:=j.toNat) (by omega)
 rwa [Int.toNat_of_nonneg h0] at this
theorem wq (i:Int):cn [.int i]=some (.v (.bl true)):=by
 simp only[rP,nF,EE]
theorem FP {i:Int}(h1:1≤i)(h2:i≤40):eI [.int i]=some (.v (.bl true)):=by
 simp only[t4,pz,EE,wq,decide_eq_true h1,decide_eq_true h2]
theorem vX (m x:Int):d9 [.int m,.int x]=some (.v (.bl (decide (0≤x/\x<m)))):=by
 simp only[rZ,oR,EE,wq]
 by_cases h:0≤x
 ·simp only[decide_eq_true h,EE,h]
 ·simp only[decide_eq_false h,EE,h,false_and]
theorem yy {y:Str}(hy:y∈manners):ck [.str y]=some (.v .non):=by
 simp only[mY,ld,EE,vw,decide_eq_true hy]
theorem L0 {a b:PV}{c:Bool}:L2.atI [a,b] (if c=true then 1 else 0)=some (if c=true then b else a):=by
 cases c<;>rfl
theorem rV {s0 s1:Option Sl}(vs:List PV):∀(xs:List Nat) (st dg:Int) (z:Option Sl),(∀v∈vs,∃i:Int,v=.int i)->0≤st->st<1999999973->0≤dg->xs.length+vs.length≤1000 →
  ∃(xs':List Nat) (st' dg':Int) (z':Option Sl),xs'.length=xs.length+vs.length/\cR (gN 5) cE vs [s0,s1,some (.own (ak xs)),some (.val (.int st)),some (.val (.int dg)),z]=.nx [s0,s1,some (.own (ak xs')),some (.val (.int st')),some (.val (.int dg')),z']:=by
 induction vs with
 |nil=>intro xs st dg z _ _ _ _ _;exact⟨xs,st,dg,z,rfl,rfl⟩
 |cons v vs ih=>
  intro xs st dg z hv h1 h2 h3 hl
  obtain⟨i,rfl⟩:=hv v List.mem_cons_self
  have m1:=Int.emod_nonneg st (show (65521:Int)≠0 by decide)
  have cm1:(st.natAbs<2 ^ 64\/(st % 65521+40487).natAbs<2 ^ 64)=True:=eq_true (.inl (by omega))
  have cm2:((7:Int).natAbs<2 ^ 64\/i.natAbs<2 ^ 64)=True:=eq_true (.inl (by decide))
  have hlen:(ak xs).length≤100000:=by rw[jM];simp at hl;omega
  have b1:0≤(st * (st % 65521+40487)+7 * i+5) % 1999999973:=Int.emod_nonneg _ (by decide)
  have b2:(st * (st % 65521+40487)+7 * i+5) % 1999999973<1999999973:=Int.emod_lt_of_pos _ (by decide)
  have d1:=Int.emod_nonneg dg (show (1000000:Int)≠0 by decide)
  have hlen':xs.length≤100000:=by rwa [jM] at hlen
  rw[hU]
  simp only[ku,EE,Nat.reduceAdd,Nat.reduceSub,Nat.reduceLeDiff,Nat.reduceLT,Nat.reduceEqDiff,Int.reduceLT,Int.reduceLE,Int.reduceAdd,Int.reduceSub,Int.reduceMul,Int.reduceMod,Int.reduceDiv,Int.reduceNeg,Int.reduceToNat,Int.reducePow,Int.reduceEq,cm1,cm2,L0,hlen']
  generalize (st * (st % 65521+40487)+7 * i+5) % 1999999973=st' at b1 b2
  have hv':(if decide (0<dg)=true then PV.int (dg % 1000000) else PV.int st')=nI (if decide (0<dg)=true then dg % 1000000 else st').toNat:=by
   split<;>rw[Ix (by omega)]
  rw[hv',nI,qc]
  obtain⟨xs',tV,dg2,z2,e1,e2⟩:=ih (xs++[(if decide (0<dg)=true then dg % 1000000 else st').toNat]) st' (dg / 1000000) (some (.val (.int i))) (fun u hu=>hv u (List.mem_cons_of_mem _ hu)) b1 b2 (Int.ediv_nonneg h3 (by decide)) (by simp at hl ⊢;omega)
  exact⟨xs',tV,dg2,z2,by rw[e1,List.length_append];simp;omega,e2⟩
theorem ki (c n:Int)(h0:0≤n)(hn:n≤1000):∃xs:List Nat,xs.length=n.toNat/\aD [.int c,.int n]=some (.n (ak xs)):=by
 have b1:0≤(c % 1999999973+31) * 765432101 % 1999999973:=Int.emod_nonneg _ (by decide)
 have b2:(c % 1999999973+31) * 765432101 % 1999999973<1999999973:=Int.emod_lt_of_pos _ (by decide)
 have cm:((c % 1999999973+31).natAbs<2 ^ 64\/(765432101:Int).natAbs<2 ^ 64)=True:=eq_true (.inr (by decide))
 have k1:=(M8 h0 (show n≤100000 by omega)).1
 have ab:0≤(if c<0 then -c else c):=by split<;>omega
 have fin:∀dg:Int,0≤dg->∃(xs:List Nat) (st' dg':Int) (z':Option Sl),xs.length=n.toNat/\cR (gN 5) cE (ak (List.range n.toNat)) [some (.val (.int c)),some (.val (.int n)),some (.own (ak [])),some (.val (.int ((c % 1999999973+31) * 765432101 % 1999999973))),some (.val (.int dg)),none]=.nx [some (.val (.int c)),some (.val (.int n)),some (.own (ak xs)),some (.val (.int st')),some (.val (.int dg')),z']:=fun dg hd=>by
  obtain⟨xs,st',dg',z',e1,e2⟩:=rV (s0:=some (.val (.int c))) (s1:=some (.val (.int n))) (sq 0 n.toNat) [] _ dg none (fun v hv=>by obtain⟨i,e,_⟩:=GD hv;exact⟨i,e⟩) b1 b2 hd (by rw[wd];simp;omega)
  rw[CH] at e2
  exact⟨xs,st',dg',z',by rw[e1,wd];simp,e2⟩
 have hp:(10:Int) ^ 18=1000000000000000000:=by decide
 by_cases hc:c<0
 ·obtain⟨xs,st',dg',z',e1,e2⟩:=fin _ ab
  rw[oZ] at e2
  refine⟨xs,e1,?_⟩
  simp only[gl,fq,EE,Nat.reduceAdd,Nat.reduceSub,Nat.reduceLeDiff,Nat.reduceLT,Nat.reduceEqDiff,Int.reduceLT,Int.reduceLE,Int.reduceAdd,Int.reduceSub,Int.reduceMul,Int.reduceMod,Int.reduceDiv,Int.reduceNeg,Int.reduceToNat,Int.reducePow,Int.reduceEq,cm,k1,decide_eq_true hc,e2]
 ·by_cases hd:1000000000000000000≤c
  ·obtain⟨xs,st',dg',z',e1,e2⟩:=fin _ ab
   rw[oZ] at e2
   refine⟨xs,e1,?_⟩
   simp only[gl,fq,EE,Nat.reduceAdd,Nat.reduceSub,Nat.reduceLeDiff,Nat.reduceLT,Nat.reduceEqDiff,Int.reduceLT,Int.reduceLE,Int.reduceAdd,Int.reduceSub,Int.reduceMul,Int.reduceMod,Int.reduceDiv,Int.reduceNeg,Int.reduceToNat,Int.reducePow,Int.reduceEq,cm,k1,decide_eq_false hc,show (0:Int)≤18/\(18:Int)≤1000000/\(10:Int).natAbs<2 ^ 64 from by decide,decide_eq_true hd,e2]
  ·obtain⟨xs,st',dg',z',e1,e2⟩:=fin 0 (by decide)
   rw[oZ] at e2
   refine⟨xs,e1,?_⟩
   simp only[gl,fq,EE,Nat.reduceAdd,Nat.reduceSub,Nat.reduceLeDiff,Nat.reduceLT,Nat.reduceEqDiff,Int.reduceLT,Int.reduceLE,Int.reduceAdd,Int.reduceSub,Int.reduceMul,Int.reduceMod,Int.reduceDiv,Int.reduceNeg,Int.reduceToNat,Int.reducePow,Int.reduceEq,cm,k1,decide_eq_false hc,show (0:Int)≤18/\(18:Int)≤1000000/\(10:Int).natAbs<2 ^ 64 from by decide,decide_eq_false hd,e2]
theorem yk {s0 s1:Option Sl}(ns:List Int):∀(st:Int) (z:Option Sl),∃(st':Int) (z':Option Sl),cR (gN 3) eB (iL ns) [s0,s1,some (.val (.int st)),z]=.nx [s0,s1,some (.val (.int st')),z']:=by
 induction ns with
 |nil=>intro st z;exact⟨st,z,rfl⟩
 |cons n ns ih=>
  intro st z
  have cm:(st.natAbs<2 ^ 64\/(69621:Int).natAbs<2 ^ 64)=True:=eq_true (.inr (by decide))
  show ∃st' z',cR (gN 3) eB (.int n::iL ns) _=_
  rw[hU]
  simp only[lX,EE,Nat.reduceAdd,Nat.reduceSub,Nat.reduceLeDiff,Nat.reduceLT,Nat.reduceEqDiff,Int.reduceLT,Int.reduceLE,Int.reduceAdd,Int.reduceSub,Int.reduceMul,Int.reduceMod,Int.reduceDiv,Int.reduceNeg,Int.reduceToNat,Int.reducePow,Int.reduceEq,cm]
  exact ih _ _
theorem r6 (ns:List Int)(k:Int)(h0:0≤k)(hk:k≤1000):∃i:Int,aV [.src (iL ns),.int k]=some (.v (.int i)):=by
 by_cases hl:k<ns.length
 ·have hk':k.toNat<ns.length:=by omega
  have e:L2.atI (iL ns) k=some (.int ns[k.toNat]):=by
   have:=eL (ps:=iL ns) (x:=k.toNat) (p:=.int ns[k.toNat]) (by unfold iL;rw[List.getElem?_map,List.getElem?_eq_getElem hk'];rfl)
   rwa [Int.toNat_of_nonneg h0] at this
  exact⟨ns[k.toNat],by simp only[kJ,jt,EE,Nat.reduceAdd,Nat.reduceSub,Nat.reduceLeDiff,Nat.reduceLT,Nat.reduceEqDiff,Int.reduceLT,Int.reduceLE,Int.reduceAdd,Int.reduceSub,Int.reduceMul,Int.reduceMod,Int.reduceDiv,Int.reduceNeg,Int.reduceToNat,Int.reducePow,Int.reduceEq,AC,decide_eq_true hl,e]⟩
 ·have c1:(k.natAbs<2 ^ 64)=True:=eq_true (by omega)
  have c2:((48271:Int).natAbs<2 ^ 64)=True:=eq_true (by decide)
  have c3:((7:Int).natAbs<2 ^ 64)=True:=eq_true (by decide)
  obtain⟨st',z',e⟩:=yk (s0:=some (.val (.src (iL ns)))) (s1:=some (.val (.int k))) (cut ns none (some 3)) (48271 * (k * k+7 * k+11) % 2147483647) none
  refine⟨st',?_⟩
  simp only[kJ,jt,EE,Nat.reduceAdd,Nat.reduceSub,Nat.reduceLeDiff,Nat.reduceLT,Nat.reduceEqDiff,Int.reduceLT,Int.reduceLE,Int.reduceAdd,Int.reduceSub,Int.reduceMul,Int.reduceMod,Int.reduceDiv,Int.reduceNeg,Int.reduceToNat,Int.reducePow,Int.reduceEq,AC,decide_eq_false hl,c1,c2,c3,true_or,Fk,e]
theorem CK (x:Nat):∃n:Nat,1≤n/\n≤40/\dm [.int x]=some (.v (.int n)):=by
 have a1:=Int.emod_nonneg ((x:Int) / 8) (show (12:Int)≠0 by decide)
 have a2:=Int.emod_lt_of_pos ((x:Int) / 8) (show (0:Int)<12 by decide)
 have a3:=Int.emod_nonneg ((x:Int) / 8) (show (40:Int)≠0 by decide)
 have a4:=Int.emod_lt_of_pos ((x:Int) / 8) (show (0:Int)<40 by decide)
 by_cases h:(x:Int) % 8=3
 ·refine⟨(1+(x:Int) / 8 % 40).toNat,by omega,by omega,?_⟩
  simp only[kA,jn,EE,Nat.reduceAdd,Nat.reduceSub,Nat.reduceLeDiff,Nat.reduceLT,Nat.reduceEqDiff,Int.reduceLT,Int.reduceLE,Int.reduceAdd,Int.reduceSub,Int.reduceMul,Int.reduceMod,Int.reduceDiv,Int.reduceNeg,Int.reduceToNat,Int.reducePow,Int.reduceEq,L0,decide_eq_true h]
  rw[Int.toNat_of_nonneg (by omega)]
 ·refine⟨(1+(x:Int) / 8 % 12).toNat,by omega,by omega,?_⟩
  simp only[kA,jn,EE,Nat.reduceAdd,Nat.reduceSub,Nat.reduceLeDiff,Nat.reduceLT,Nat.reduceEqDiff,Int.reduceLT,Int.reduceLE,Int.reduceAdd,Int.reduceSub,Int.reduceMul,Int.reduceMod,Int.reduceDiv,Int.reduceNeg,Int.reduceToNat,Int.reducePow,Int.reduceEq,L0,decide_eq_false h]
  rw[Int.toNat_of_nonneg (by omega)]
end Dp
end
section
namespace Dp
open PySem L2 Fo Pu
noncomputable def Ai (g:Nat->Int)(l:List Nat):List PV:=l.map fun k=>.tup [.int (g k),.int k]
theorem wy (g:Nat->Int)(l:List Nat):(Ai g l).length=l.length:=List.length_map ..
theorem sy (g:Nat->Int):∀l:List Nat,ii (Ai g l)=some (l.map fun k=>[g k,(k:Int)])
 |[]=>rfl
 |k::l=>by
  show ii (.tup [.int (g k),.int k]::Ai g l)=_
  rw[ii]
  rw[sy g l];rfl
noncomputable def tS (g:Nat->Int)(n:Nat):List Nat:=mX ((List.range n).map fun k=>[g k,(k:Int)])
theorem lY (g:Nat->Int)(n:Nat):(tS g n).Perm (List.range n):=by
 have:=qb ((List.range n).map fun k=>[g k,(k:Int)])
 rwa [List.length_map,List.length_range] at this
theorem tD (g:Nat->Int)(n:Nat):(tS g n).length=n:=by rw[(lY g n).length_eq,List.length_range]
theorem vt (g:Nat->Int)(n:Nat)(hn:n<64):kf [.lst (Ai g (List.range n))]=some (.nw (Ai g (tS g n))):=by
 simp only[EE,sy,wy,List.length_range,eq_true hn]
 congr 2
 unfold Ai
 refine List.map_congr_left fun i hi=>?_
 have hi':i<n:=List.mem_range.mp ((lY g n).subset hi)
 rw[List.getD_eq_getElem?_getD,List.getElem?_map,List.getElem?_range hi'];rfl
theorem xY {t:FT}{f:FE}{ρ:ay}(g:Nat->Int)(l:List Nat)(h:∀a b:Int,(t (.tup [.int a,.int b]) ρ).bind (fun ρ2=>(f ρ2).bind RV.fr)=some (.int b)):mH t cr f ρ (Ai g l)=some (ak l):=by
 have e:(Ai g l).map (fun p=>match p with|.tup [_,b]=>b|_=>.non)=ak l:=by
  unfold Ai ak;rw[List.map_map];exact List.map_congr_left fun u _=>rfl
 rw[←e]
 refine rM _ fun p hp=>?_
 obtain⟨u,_,rfl⟩:=List.mem_map.mp hp
 exact h _ _
end Dp
end
section
namespace Lo
open PySem PySem.Spec L2 Fo Pu Dp
noncomputable abbrev At:=Nat×List Nat×Addr
noncomputable def kv (t:At):jD×V:=(.inl (t.1:Int),.ref t.2.2)
noncomputable def nv (n:Nat):V:=.int (n:Int)
structure St (F H F1 H1:Hp)(d:Addr)(acc:List At):Prop where
 gr:Grow F H F1 H1
 d0:H d=none
 dF:F1 d=none
 dH:H1 d=some (.dK (acc.map kv))
 ls:∀t∈acc,H t.2.2=none/\F1 t.2.2=none/\H1 t.2.2=some (.lst (t.2.1.map nv))
 nd:(acc.map (·.2.2)).Nodup
 nk:(acc.map (·.1)).Nodup
end Lo
end
section
namespace Fo
open PySem L2
theorem vP {p:List Nat}(nd:p.Nodup){i j:Nat}(hi:i<p.length)(hj:j<p.length)(e:up p i=up p j):i=j:=by
 have e1:up p i=p[i]:=by simp[up,hi]
 have e2:up p j=p[j]:=by simp[up,hj]
 rw[e1,e2] at e
 exact (List.getElem_inj nd).mp e
structure Chn (p us:List Nat):Prop where
 pos:1≤p.length
 nd:p.Nodup
 lt:∀k,k<p.length->up p k<us.length
 nx:∀k,k+1<p.length->up us (up p k)=up p (k+1)
 tp:up us (up p (p.length - 1))=up p (p.length - 1)
theorem Bw {us:List Nat}{x:Nat}{l:List Nat}(w:Way us x l)(nd:l.Nodup)(hb:∀y∈l,y<us.length):Chn l us:=by
 refine⟨w.pos,nd,fun k hk=>?_,?_,?_⟩
 ·have e1:up l k=l[k]:=by simp[up,hk]
  rw[e1];exact hb _ (List.getElem_mem hk)
 ·clear nd hb
  induction w with
  |head e=>intro k hk;simp at hk
  | @step x l ne w ih=>
   intro k hk
   cases k with
   |zero=>
    obtain⟨t,rfl⟩:=w.cons
    rfl
   |succ k=>
    have:=ih k (by simpa using hk)
    simpa [up] using this
 ·have:=w.head_last
  have e:cp l=up l (l.length - 1):=by
   unfold up cp
   rw[List.getLastD_eq_getLast?,List.getLast?_eq_getElem?,List.getD_eq_getElem?_getD]
  rwa [e] at this
section
variable {p us:List Nat}(f:Fst us)(L:Chn p us)
noncomputable def vv (p:List Nat)(k:Nat):Nat:=up p (p.length - 1 - k)
include L in
theorem pY {k:Nat}(hk:k<p.length):vv p k<us.length:=L.lt _ (by omega)
include L in
theorem qd {i j:Nat}(hi:i<p.length)(hj:j<p.length)(h:i≠j):vv p i≠vv p j:=fun e=>by
 have:=vP L.nd (i:=p.length - 1 - i) (j:=p.length - 1 - j) (by omega) (by omega) e
 omega
include L in
theorem oo {k:Nat}(h0:1≤k)(hk:k<p.length):up us (vv p k)=vv p (k - 1):=by
 unfold vv
 rw[L.nx _ (by omega)]
 congr 1;omega
include L in
theorem Hb:up us (vv p 0)=vv p 0:=L.tp
include f L in
theorem m9:∀k,k<p.length->way us (vv p (k+1))=if k+1<p.length then vv p (k+1)::way us (vv p k) else way us (vv p (k+1)):=fun k hk=>by
 split
 ·next h=>
  have e:=oo L (k:=k+1) (by omega) h
  rw[Nat.add_sub_cancel] at e
  rw[iV f (by exact pY L h) (by rw[e];exact qd L (by omega) h (by omega)),e]
 ·rfl
include f L in
theorem vx:∀k,k<p.length->hd us (vv p k)=vv p 0
 |0,h=>m7 f (by exact pY L h) L.tp
 |k+1,h=>by
  rw[←EJ f (by exact pY L h),oo L (by omega) h]
  exact vx k (by omega)
include f L in
theorem wO:∀{d:Nat},d<p.length->∀k,k<p.length->(vv p k∈way us (vv p d)↔k≤d):=fun {d}=>by
 induction d with
 |zero=>
  intro hd k hk
  rw[jX f (by exact pY L hd) (Hb L),List.mem_singleton]
  constructor
  ·intro e
   by_cases h:k=0
   ·omega
   ·exact absurd e (qd L hk hd h)
  ·intro h;rw[show k=0 by omega]
 |succ d ih=>
  intro hd k hk
  rw[m9 f L d (by omega),if_pos hd,List.mem_cons,ih (by omega) k hk]
  constructor
  ·rintro (e|e)
   ·by_cases h:k=d+1
    ·omega
    ·exact absurd e (qd L hk hd h)
   ·omega
  ·intro h
   by_cases q:k=d+1
   ·exact .inl (by rw[q])
   ·exact .inr (by omega)
include f L in
theorem Ac:∀(d:Nat),d<p.length->∀k,k<p.length->(vv p k∈fH (way us (vv p d))↔k≤d/\(d - k) % 2=0):=fun d=>by
 induction d using Nat.strongRecOn with
 |ind d ih=>
  intro hd k hk
  have e0:way us (vv p 0)=[vv p 0]:=jX f (by exact pY L (by omega)) L.tp
  have one:∀j,j<p.length->(vv p k=vv p j↔k=j):=fun j hj=>⟨fun e=>Classical.byContradiction fun h=>qd L hk hj h e,fun e=>by rw[e]⟩
  match d,ih,hd with
  |0,_,hd=>
   rw[e0]
   show vv p k∈[vv p 0]↔_
   rw[List.mem_singleton,one 0 hd];omega
  |1,_,hd=>
   rw[m9 f L 0 (by omega),if_pos hd,e0]
   show vv p k∈[vv p 1]↔_
   rw[List.mem_singleton,one 1 hd];omega
  |d+2,ih,hd=>
   rw[m9 f L (d+1) (by omega),if_pos hd,m9 f L d (by omega),if_pos (by omega)]
   show vv p k∈vv p (d+2)::fH (way us (vv p d))↔_
   rw[List.mem_cons,ih d (by omega) (by omega) k hk,one (d+2) hd]
   omega
end
noncomputable def KL (y:Str)(d k:Nat):Nat:=
 if y = "whole" then min k 1
 else if y = "splits" then (k+1) / 2
 else if y = "halves" then (if k=0 then 0 else if (d - k) % 2=0 then (k+1) / 2 else 1+k / 2)
 else if y = "one" then (if k=d/\1<d then d - 1 else k)
 else k
noncomputable def nE (y:Str)(d k:Nat):Nat:=
 if y = "whole" then 0
 else if y = "splits" then k - 2
 else if y = "halves" then (if (d - k) % 2=0 then k - 2 else k - 1)
 else if y = "one" then (if k=d then k - 2 else k - 1)
 else k - 1
theorem s5 {y:Str}(hy:y∈manners):y = "none"\/y = "whole"\/y = "halves"\/y = "splits"\/y = "one":=by simpa [manners] using hy
theorem n1:(("halves" : Str) = "whole")=False:=eq_false (by decide)
theorem n2:(("halves" : Str) = "splits")=False:=eq_false (by decide)
theorem n3:(("splits" : Str) = "whole")=False:=eq_false (by decide)
theorem n4:(("one" : Str) = "whole")=False:=eq_false (by decide)
theorem n5:(("one" : Str) = "splits")=False:=eq_false (by decide)
theorem n6:(("one" : Str) = "halves")=False:=eq_false (by decide)
theorem n7:(("none" : Str) = "whole")=False:=eq_false (by decide)
theorem n8:(("none" : Str) = "splits")=False:=eq_false (by decide)
theorem n9:(("none" : Str) = "halves")=False:=eq_false (by decide)
theorem EI:(("none" : Str) = "one")=False:=eq_false (by decide)
theorem Ig:(("splits" : Str) = "halves")=False:=eq_false (by decide)
theorem GW {p us:List Nat}(f:Frst us)(L:Chn p us){y:Str}(hy:y∈manners){d:Nat}(hd:d<p.length):∀k,k≤d->dp (eU y us (vv p d)) (vv p k)=KL y d k:=by
 have lt:∀k,k<p.length->vv p k<us.length:=fun k hk=>by exact pY L hk
 have f':=gT f (lt d hd) hy
 have uu:∀k,1≤k->k<p.length->up us (up us (vv p k))=vv p (k - 2):=fun k k1 k2=>by
  rw[oo L k1 k2]
  by_cases h:k=1
  ·subst h;exact L.tp
  ·rw[oo L (by omega) (by omega)];congr 1
 have nu:∀k,k≤d->1≤k->eQ y us (vv p d) (vv p k)=vv p (nE y d k):=fun k hk k1=>by
  have hm:=(wO f.fst L hd k (by omega)).mpr hk
  have he:=Ac f.fst L d hd k (by omega)
  rcases s5 hy with rfl|rfl|rfl|rfl|rfl
  ·simp only[eQ,nE,n7,n8,n9,EI,if_false]
   exact oo L k1 (by omega)
  ·simp only[eQ,nE,if_true,if_pos hm]
   exact vx f.fst L d hd
  ·simp only[eQ,nE,n1,n2,if_true,if_false]
   by_cases q:(d - k) % 2=0
   ·rw[if_pos (he.mpr ⟨hk,q⟩),if_pos q];exact uu k k1 (by omega)
   ·rw[if_neg fun z=>q (he.mp z).2,if_neg q];exact oo L k1 (by omega)
  ·simp only[eQ,nE,n3,Ig,if_true,if_false,if_pos hm]
   exact uu k k1 (by omega)
  ·simp only[eQ,nE,n4,n5,n6,if_true,if_false]
   by_cases q:k=d
   ·rw[if_pos (by rw[q]),if_pos q];exact uu k k1 (by omega)
   ·rw[if_neg (qd L (by omega) hd q),if_neg q];exact oo L k1 (by omega)
 refine GM f'.fst (v:=vv p) (j:=nE y d) (fun k hk=>by rw[cu];exact lt k (by omega)) ?_ ?_ fun k k1 k2=>⟨?_,by rw[jL (lt k (by omega))];exact nu k k2 k1,?_,?_⟩
 ·rw[jL (lt 0 (by omega))]
  have t:up us (vv p 0)=vv p 0:=L.tp
  have hm:=(wO f.fst L hd 0 (by omega)).mpr (by omega)
  have hh:=vx f.fst L d hd
  rcases s5 hy with rfl|rfl|rfl|rfl|rfl
  ·simp only[eQ,n7,n8,n9,EI,if_false];exact t
  ·simp only[eQ,if_true,if_pos hm];exact hh
  ·simp only[eQ,n1,if_true,if_false]
   split
   ·rw[t,t]
   ·exact t
  ·simp only[eQ,n3,Ig,if_true,if_false,if_pos hm];rw[t,t]
  ·simp only[eQ,n4,n5,n6,if_true,if_false]
   split
   ·rw[t,t]
   ·exact t
 ·rcases s5 hy with rfl|rfl|rfl|rfl|rfl<;>simp[KL,n1,n2,n3,n4,n5,n6,n7,n8,n9,EI,Ig]<;>omega
 ·rcases s5 hy with rfl|rfl|rfl|rfl|rfl<;>simp only[nE,n1,n2,n3,n4,n5,n6,n7,n8,n9,EI,Ig,if_true,if_false]<;>(try split)<;>omega
 ·have:nE y d k<k:=by
   rcases s5 hy with rfl|rfl|rfl|rfl|rfl<;>simp only[nE,n1,n2,n3,n4,n5,n6,n7,n8,n9,EI,Ig,if_true,if_false]<;>(try split)<;>omega
  exact qd L (by omega) (by omega) (by omega)
 ·rcases s5 hy with rfl|rfl|rfl|rfl|rfl<;>simp only[nE,KL,n1,n2,n3,n4,n5,n6,n7,n8,n9,EI,Ig,if_true,if_false]<;>(repeat' split)<;>omega
theorem CV {us:List Nat}(f:Frst us){x:Nat}(hx:x<us.length){y:Str}(hy:y∈manners):∀k,k≤dp us x->dp (eU y us x) (vv (way us x) k)=KL y (dp us x) k:=by
 have w:=bN f.fst hx
 have L:=Bw w (w.nodup f.fst hx) (w.lt f.fst.bnd hx)
 have e:vv (way us x) (dp us x)=x:=by
  unfold vv dp
  rw[Nat.sub_self]
  obtain⟨t,e⟩:=w.cons
  rw[e];rfl
 have:=GW f L hy (d:=dp us x) (by have:=w.pos;unfold dp;omega)
 rwa [e] at this
theorem Jb {us:List Nat}(f:Frst us){x:Nat}(hx:x<us.length):vv (way us x) (dp us x)=x:=by
 unfold vv dp
 rw[Nat.sub_self]
 obtain⟨t,e⟩:=(bN f.fst hx).cons
 rw[e];rfl
end Fo
end
section
namespace Dp
open PySem L2 Fo Pu Lo
theorem wT {p:PV}{us:List Nat}(hp:p=.tup (ak us)\/p=.lst (ak us))(hm:us.length≤40)(hb:∀x,x<us.length->up us x<us.length){s1:Option Sl}{y:Nat}{l2:List Nat}(w:Way us y l2):∀(pre:List Nat),pre.length+l2.length≤us.length->y<us.length →
  ∀n,l2.length<n->gn eV eY n [some (.val p),s1,some (.own (ak (pre++[y])))]=.nx [some (.val p),s1,some (.own (ak (pre++l2)))]:=by
 induction w with
 | @head y e=>
  intro pre hl hy n hn
  obtain⟨n,rfl⟩:∃k,n=k+1:=⟨n - 1,by simp at hn;omega⟩
  rw[wF]
  rcases hp with rfl|rfl <;>
   simp only[jr,EE,Nat.reduceAdd,Nat.reduceSub,Nat.reduceLeDiff,Nat.reduceLT,Nat.reduceEqDiff,Int.reduceLT,Int.reduceLE,Int.reduceAdd,Int.reduceSub,Int.reduceMul,Int.reduceMod,Int.reduceDiv,Int.reduceNeg,Int.reduceToNat,Int.reducePow,Int.reduceEq,Pu.om,aJ hy,e]
 | @step y l ne w ih=>
  intro pre hl hy n hn
  obtain⟨n,rfl⟩:∃k,n=k+1:=⟨n - 1,by simp at hn;omega⟩
  have ih:=ih (pre++[y]) (by simp at hl ⊢;omega) (hb y hy) n (by simp at hn;omega)
  rw[List.append_assoc,List.append_assoc] at ih
  have pos:=w.pos
  have hne:decide ((up us y:Int)=(y:Int))=false:=decide_eq_false (by omega)
  have hpl:(pre++[y]).length≤100000:=by simp at hl ⊢;omega
  have hle:decide (((pre++[y]).length:Int)≤(us.length:Int))=true:=decide_eq_true (by simp at hl ⊢;omega)
  rw[wF]
  rcases hp with rfl|rfl <;>
   (simp only[jr,m6,EE,Nat.reduceAdd,Nat.reduceSub,Nat.reduceLeDiff,Nat.reduceLT,Nat.reduceEqDiff,Int.reduceLT,Int.reduceLE,Int.reduceAdd,Int.reduceSub,Int.reduceMul,Int.reduceMod,Int.reduceDiv,Int.reduceNeg,Int.reduceToNat,Int.reducePow,Int.reduceEq,Pu.om,aJ hy,hne,hle,hpl,qc,List.append_assoc];exact ih)
theorem ve {p:PV}{us:List Nat}(hp:p=.tup (ak us)\/p=.lst (ak us))(f:Frst us){x:Nat}(hx:x<us.length):bI [p,.int x]=some (.n (ak (way us x))):=by
 have hl:=wK f.fst hx
 have hm:=f.most
 have e:=wT hp f.most f.fst.bnd (s1:=some (.val (.int x))) (bN f.fst hx) [] (by simpa using hl) hx 10000 (by omega)
 rw[List.nil_append,List.nil_append] at e
 have e':gn eV eY 10000 [some (.val p),some (.val (.int x)),some (.own [.int x])]=_:=e
 simp only[rp,og,EE,Nat.reduceAdd,Nat.reduceSub,Nat.reduceLeDiff,Nat.reduceLT,Nat.reduceEqDiff,Int.reduceLT,Int.reduceLE,Int.reduceAdd,Int.reduceSub,Int.reduceMul,Int.reduceMod,Int.reduceDiv,Int.reduceNeg,Int.reduceToNat,Int.reducePow,Int.reduceEq,e']
theorem oe (t:Nat):∀l:List Nat,pin (.int t) (ak l)=decide (t∈l)
 |[]=>rfl
 |u::l=>by
  show (iT (.int (u:Int)) (.int (t:Int)) || pin (.int t) (ak l))=_
  rw[wo,oe t l]
  by_cases h:u=t
  ·subst h;simp
  ·have h':¬((u:Int)=(t:Int)):=by omega
   rw[decide_eq_false h',Bool.false_or]
   have:t≠u:=fun z=>h z.symm
   simp[List.mem_cons,this]
end Dp
end
section
namespace Dp
open PySem L2 Fo Pu
theorem vP {p:List Nat}(nd:p.Nodup){i j:Nat}(hi:i<p.length)(hj:j<p.length)(e:up p i=up p j):i=j:=by
 have e1:up p i=p[i]:=by simp[up,hi]
 have e2:up p j=p[j]:=by simp[up,hj]
 rw[e1,e2] at e
 exact (List.getElem_inj nd).mp e
end Dp
end
section
namespace L2
open PySem PySem.Spec PyProof.Rows
section
variable {prog:Program}{w:World}{A:Around}{E:Value->Shared->Prop}{s:Shared}
theorem FW {it t:Addr}{i:Nat}{items:Array Value}{x:Value}{Q:Value->Shared->Prop}(hit:s.heap.IsTupleIter it t i)(ht:s.heap.IsTuple t items)(hx:items[i]?=some x)
  (hQ:∀h',h'.IsTupleIter it t (i+1)->Heap.SameBut it s.heap h'->Q x { s with heap:=h' }):wpAny (model prog w) A (Builtin.SmallTypes.nextOf (.ref it)) Q E s:=by
 have hT:=hit.typeIs
 obtain⟨o,ho,hc,hd⟩:=hit;obtain⟨ol,hol,_,nl,hdl⟩:=ht
 unfold Builtin.SmallTypes.nextOf
 refine wpAny_bind (wpAny_callSpecial?_slot (name:=Str.ofString "__next__") hT F.slot_tuple_iterator_next (wpAny_call_entry F.slot_tuple_iterator_next hT F.entry_tuple_iterator_next ?_ (F.args_tuple_iterator_next_1 _)))
 refine (?_:wpAny _ _ (field (.ref it) 0 >>= _) _ _ s);refine wpAny_bind (wpAny_field ho hd (x:=.ref t) rfl (?_:wpAny _ _ (if (Value.ref t==Value.none)=true then _ else _) _ _ s))
 rw[if_neg (show ¬((Value.ref t==Value.none)=true) from Bool.false_ne_true)];refine (?_:wpAny _ _ (field (.ref it) 1 >>= _) _ _ s);refine wpAny_bind (wpAny_field ho hd (x:=.int i 0) rfl (?_:wpAny _ _ (seqItems? (.ref t) >>= _) _ _ s));refine wpAny_bind (m:=seqItems? (.ref t)) (wpAny_seqItems hol hdl ?_);simp only[Int.toNat_natCast,hx]
 refine wpAny_bind (wpAny_setField ho hd (by simp) (wpAny_pure ⟨x,rfl,wpAny_pure (hQ _ ⟨_,Heap.get?_update_self _ ho (Obj.isFreed_of_fields (Obj.data_mapFields hd _)),(Obj.cls_mapFields ..).trans hc,by rw[Obj.data_mapFields hd];simp[rawInt]⟩ (Heap.SameBut.update ..))⟩))
theorem wz {it t:Addr}{i:Nat}{items:Array Value}{Q:Value->Shared->Prop}(hh:A.handled=none)(hit:s.heap.IsTupleIter it t i)(ht:s.heap.IsTuple t items)(hx:items[i]?=none)
  (hE:∀h' e,Heap.ExtBut it s.heap h'->(∃o,h'.get? e=some o/\o.cls=.type "StopIteration")->E (.ref e) { s with heap:=h' }):wpAny (model prog w) A (Builtin.SmallTypes.nextOf (.ref it)) Q E s:=by
 have hT:=hit.typeIs
 obtain⟨o,ho,hc,hd⟩:=hit;obtain⟨ol,hol,_,nl,hdl⟩:=ht
 unfold Builtin.SmallTypes.nextOf
 refine wpAny_bind (wpAny_callSpecial?_slot (name:=Str.ofString "__next__") hT F.slot_tuple_iterator_next (wpAny_call_entry F.slot_tuple_iterator_next hT F.entry_tuple_iterator_next ?_ (F.args_tuple_iterator_next_1 _)))
 refine (?_:wpAny _ _ (field (.ref it) 0 >>= _) _ _ s);refine wpAny_bind (wpAny_field ho hd (x:=.ref t) rfl (?_:wpAny _ _ (if (Value.ref t==Value.none)=true then _ else _) _ _ s))
 rw[if_neg (show ¬((Value.ref t==Value.none)=true) from Bool.false_ne_true)];refine (?_:wpAny _ _ (field (.ref it) 1 >>= _) _ _ s);refine wpAny_bind (wpAny_field ho hd (x:=.int i 0) rfl (?_:wpAny _ _ (seqItems? (.ref t) >>= _) _ _ s));refine wpAny_bind (m:=seqItems? (.ref t)) (wpAny_seqItems hol hdl ?_);simp only[Int.toNat_natCast,hx]
 refine wpAny_bind (wpAny_rule (wpAny_bind (wpAny_setField ho hd (by simp) (?_:wpAny _ _ (newExc (.type "StopIteration") [] >>= _) _ _ _))))
 refine wpAny_bind ?_;simp only[newExc,newTuple];refine wpAny_bind (wpAny_newObj_type ?_ (by size_fits))
 refine wpAny_bind (m:=firstArgMember _ _) (wpAny_of_eq (a:=Value.none) (by first|rfl|(simp only[firstArgMember];rfl)) (wpAny_newObj_type ?_ (by size_fits)))
 simp only[raiseNew];refine wpAny_bind (wpAny_handled ?_);first|rw[show A.in1.handled=none from hh]|rw[hh]
 exact wpAny_bind (wpAny_pure (wpAny_throw (hE _ _ (((Heap.SameBut.update ..).extBut.push _).push _) ⟨_,Heap.get?_push_size _ rfl,rfl⟩)))
end
theorem si {h h':Heap}{a t:Addr}{i:Nat}(x:h.IsTupleIter a t i)(k:∀o,h.get? a=some o->h'.get? a=some o):h'.IsTupleIter a t i:=let ⟨o,ho,r⟩:=x;⟨o,k o ho,r⟩
theorem D3 {h h':Heap}{a:Addr}{its:Array Value}(x:h.IsTuple a its)(k:∀o,h.get? a=some o->h'.get? a=some o):h'.IsTuple a its:=let ⟨o,ho,r⟩:=x;⟨o,k o ho,r⟩
theorem EY {prog:Program}{w:World}{A:Around}(hh:A.handled=none)(it l:Addr)(hne:l≠it)(items:Array Value):Draws prog w A it [it,l] items.size (fun i v=>items[i]?=some v) (fun i h=>h.IsTupleIter it l i/\h.IsTuple l items) where
 live:=fun _ _ ⟨⟨o,ho,_⟩,_⟩=>⟨o,ho⟩
 frame:=fun _ _ _ ⟨a,b⟩ hk=>⟨si a fun o e=>hk it (by simp) o e,D3 b fun o e=>hk l (by simp) o e⟩
 item:=fun i s Q E hi ⟨a,b⟩ hQ=>FW a b (x:=items[i]) (by simp[hi]) fun h' hit' hs'=>hQ _ h' s.toks (by simp[hi]) ⟨hit',b.extBut hs'.extBut hne⟩ hs'
 done:=fun s Q E ⟨a,b⟩ hE=>wz hh a b (by simp) hE
open AutoSeq1 (wpAny_loadPart') in
theorem Bn (l:Addr)(items:Array Value)(n:Nat)(dct:Option Addr)(sl:Array (Option Value)):Meets (Builtin.«enumerate.__new__» ⟨[.type "enumerate",.ref l],[]⟩) (fun _ R s=>s.heap.get? l=some { cls:=.type "tuple",dict:=dct,data:=.seq items n,slots:=sl }/\R (.ok (.ret (.ref (s.heap.push { cls:=.type "tuple_iterator",data:=.fields #[.ref l,.int 0 0] }).objs.size))) { s with heap:=(s.heap.push { cls:=.type "tuple_iterator",data:=.fields #[.ref l,.int 0 0] }).push { cls:=.type "enumerate",data:=.fields #[.none,.bool false,.ref s.heap.objs.size,rawInt 0,.none,.none] } }):=
 .of_wp fun prog w A R s h=>by
  obtain⟨hp,g,d,tk,os⟩:=s;obtain⟨hl,h⟩:=h
  have hsub:=sub_enumerate;have hL:Heap.IsTuple (Shared.heap ⟨hp,g,d,tk,os⟩) l items:=⟨_,hl,rfl,n,rfl⟩
  wp_walk using wpAny_loadPart' hl;refine wpAny_stack_any fun st=>wpAny_pure ?_
  split
  ·rename_i c _ _ _ _ _;cases (c==Value.type "enumerate")<;>(wp_walk using wpAny_loadPart' hl,wpAny_pyIter_tuple hL;exact⟨_,rfl,h⟩)
  ·wp_walk using wpAny_loadPart' hl,wpAny_pyIter_tuple hL;exact⟨_,rfl,h⟩
section
variable {prog:Program}{w:World}{A:Around}{E:Value->Shared->Prop}{s:Shared}
theorem yM {l:Addr}{items:Array Value}{Q:Value->Shared->Prop}(hL:s.heap.IsTuple l items)
  (h:∀h',IsEnum h' (s.heap.objs.size+1) s.heap.objs.size 0 .none->h'.IsTupleIter s.heap.objs.size l 0->h'.objs.size=s.heap.objs.size+2->(∀b o,s.heap.get? b=some o->h'.get? b=some o)->Q (.ref (s.heap.objs.size+1)) { s with heap:=h' }):wpAny (model prog w) A (call (.type "enumerate") [.ref l]) Q E s:=by
 obtain⟨⟨c,dct,dt,sl⟩,hl,hc,n,hd⟩:=hL;replace hc:c=.type "tuple":=hc;replace hd:dt=.seq items n:=hd;subst hc hd
 refine callType_new F.called_enumerate (by decide) (F.typeCall_enumerate_1 _) (F.newCall_enumerate_1 _) (fun obj=>F.args_object_init_2 obj _) F.entry_enumerate_new (Bn l items n dct sl) ⟨hl,?_⟩
 have hz:(s.heap.push { cls:=.type "tuple_iterator",data:=.fields #[.ref l,.int 0 0] }).objs.size=s.heap.objs.size+1:=Heap.size_push ..
 refine (?_:_/\_);rw[hz]
 have he:IsEnum ((s.heap.push { cls:=.type "tuple_iterator",data:=.fields #[.ref l,.int 0 0] }).push { cls:=.type "enumerate",data:=.fields #[.none,.bool false,.ref s.heap.objs.size,rawInt 0,.none,.none] }) (s.heap.objs.size+1) s.heap.objs.size 0 .none:=by
  have:=Heap.get?_push_size (s.heap.push { cls:=.type "tuple_iterator",data:=.fields #[.ref l,.int 0 0] }) (o:={ cls:=.type "enumerate",data:=.fields #[.none,.bool false,.ref s.heap.objs.size,rawInt 0,.none,.none] }) rfl
  rw[hz] at this;exact this
 exact⟨⟨_,he,rfl⟩,h _ he ⟨_,Heap.get?_push_of_some _ (Heap.get?_push_size _ rfl),rfl,rfl⟩ (by rw[Heap.size_push,hz]) fun b o x=>Heap.get?_push_of_some _ (Heap.get?_push_of_some _ x)⟩
end
noncomputable def Mh (K:PySem.W.Frag)(a:Addr):It:=
 ⟨fun i H=>∃xs x,SqT K H a xs/\xs[i]?=some x,fun i H v H'=>∃p x,v=.ref p/\H p=none/\H'=upd H p (.tup [.int i,x])/\∀xs,SqT K H a xs->xs[i]?=some x,fun i H=>∃xs,SqT K H a xs/\xs.length≤i⟩
theorem uw {P:Program}{w:World}{K:PySem.W.Frag}{elts:List Expr}{x1}{pos:Pos}(a e it:Addr)(hne:e≠it):Turn P w K (.Tuple elts x1 pos) (Mh K a) [e,it] e (fun i h=>(∃old,IsEnum h e it i old)/\h.IsTupleIter it a i) where
 mem:=by simp
 obj:=fun i h st b hb=>by
  obtain⟨⟨old,he⟩,o,e',c,d⟩:=st
  rcases List.mem_cons.mp hb with z|z
  ·subst z
   exact⟨_,he,fun v q=>by
    have q':Data.fields _=Data.cell v:=q
    cases q'⟩
  ·have e2:b=it:=by simpa using z
   subst e2
   exact⟨o,e',fun v q=>by rw[d] at q;cases q⟩
 keep:=fun i h h' st k=>⟨⟨st.1.choose,k e (by simp) _ st.1.choose_spec⟩,si st.2 fun o q=>k it (by simp) o q⟩
 item:=by
  intro X hP hw hK hc i pins s σ H E I hf st hg
  subst hP hw hK
  obtain⟨xs,x,hq,hx⟩:=hg
  obtain⟨its,rv,p,hz⟩:=I.tuple hq
  obtain⟨u,hu,ru⟩:=rv.get hx
  obtain⟨⟨old,he⟩,hit⟩:=st
  have pt:s.heap.IsTuple a its.toArray:=p
  have nai:a≠it:=fun q=>by
   obtain⟨o1,h1,c1,_⟩:=pt
   obtain⟨o2,h2,c2,_⟩:=hit
   rw[q,h2] at h1;cases h1;rw[c2] at c1;exact absurd (Value.type.inj c1) (by decide)
  have nae:e≠a:=fun q=>by
   obtain⟨o1,h1,c1,_⟩:=pt
   rw[←q,he] at h1;cases h1;exact absurd (Value.type.inj c1) (by decide)
  have hlt:i<its.toArray.size:=by
   have:=(List.getElem?_eq_some_iff.mp hu).1
   simpa using this
  refine wpAny_pyNext_enum_itemD (EY (A:=X.A.in1) (I.ok.hd hc) it a nai its.toArray) he ⟨hit,pt⟩ hlt hne (by simp[hne,nae]) fun u' h' tk hu' out lit tup sz kp=>⟨_,rfl,?_⟩
  obtain rfl:u'=u:=by
   have h1:its[i]?=some u':=by simpa using hu'
   rw[hu] at h1;exact (Option.some.inj h1).symm
  refine wpAny_letOwnedTupleGo_enum out fun h2 he2 sb=>?_
  have fr:H s.heap.objs.size=none:=I.hok.fresh (Nat.le_refl _)
  have I1:Inv X pins σ (upd H s.heap.objs.size (.tup [.int i,x])) { s with heap:=s.heap.push { cls:=.type "tuple",data:=.seq #[.int i tk,u'] },toks:=s.toks }:=by
   refine I.laid (t':=s.toks) (fun b u e=>Heap.get?_push_of_some _ e) (Nat.le_refl _) ?_
   exact⟨by simp;decide,[.int i tk,u'],.cons ⟨_,rfl⟩ (.cons ru .nil),⟨_,Heap.get?_push_size _ rfl,rfl,_,rfl⟩⟩
  have ltE:e<s.heap.objs.size:=Heap.lt_size he
  have Ip:it<s.heap.objs.size:=by obtain⟨o,q,_⟩:=hit;exact Heap.lt_size q
  have f1:∀b∈[e,it],mE X pins (upd H s.heap.objs.size (.tup [.int i,x])) b:=fun b hb=>by
   have hb':b≠s.heap.objs.size:=by
    rcases List.mem_cons.mp hb with z|z
    ·rw[z];exact Nat.ne_of_lt ltE
    ·rw[show b=it by simpa using z];exact Nat.ne_of_lt Ip
   exact⟨by rw[aC hb'];exact (hf b hb).1,(hf b hb).2⟩
  have I2:Inv X pins σ (upd H s.heap.objs.size (.tup [.int i,x])) { s with heap:=h2,toks:=tk+1 }:=by
   refine Inv.turned2 (e:=e) (it:=it) (t':=tk+1) (h':=h2) (s:={ s with heap:=s.heap.push { cls:=.type "tuple",data:=.seq #[.int i tk,u'] },toks:=s.toks }) I1 (fun b o n1 n2 q=>?_) f1
   rw[sb.2 b n1]
   rcases Heap.get?_push_cases q with ⟨z1,z2⟩|z
   ·subst z1 z2;exact tup
   ·exact kp b o n1 n2 z
  refine⟨.ref s.heap.objs.size,_,I2,rfl,⟨_,x,rfl,fr,rfl,fun ys hy=>by rw[I.tuple_inj hy hq];exact hx⟩,⟨⟨_,he2⟩,?_⟩,fun b hb=>(f1 b hb).1⟩
  exact si lit.1 fun o q=>(sb.2 it (Ne.symm hne)).trans q
 done:=by
  intro X hP hw hK hc i pins s σ H E I hf st hg
  subst hP hw hK
  obtain⟨xs,hq,hx⟩:=hg
  obtain⟨its,rv,p,hz⟩:=I.tuple hq
  obtain⟨⟨old,he⟩,hit⟩:=st
  obtain⟨f0,f1,f2,f3,f4,f5⟩:=hf it (by simp)
  have hl:=rv.length
  have hT:s.TypeIs (.ref e) "enumerate":=⟨_,he,rfl⟩
  unfold pyNext
  refine wpAny_bind (wpAny_attempt (wpAny_callSpecial?_slot (name:=Str.ofString "__next__") hT F.slot_enumerate_next (wpAny_call_entry F.slot_enumerate_next hT F.entry_enumerate_next ?_ (F.args_enumerate_next_1 _))))
  refine (?_:wpAny _ _ (field (.ref e) 2 >>= _) _ _ _);refine wpAny_bind (wpAny_field he rfl (x:=.ref it) rfl ?_)
  refine wpAny_bind (wz (I.ok.hd hc) hit (items:=its.toArray) p (by simp;omega) fun h' x he' hx'=>?_)
  obtain⟨o,ho,hc⟩:=hx'
  exact wpAny_bind (wpAny_isInstance (T:="StopIteration") (b:=true) ⟨o,ho,hc⟩ isSubtype_stop (wpAny_pure ⟨rfl,I.turned (t':=s.toks) (fun b o hb e=>he' b o hb e) f0 f1 f3 f4 f5⟩))
 self:=fun _ _ _ _ _ st h=>wpAny_pyIter_enum st.1.choose_spec h
noncomputable def vd (K:PySem.W.Frag)(ta:TA):TI:=fun σ H R=>ta σ H fun vs H1=>∃a,vs=[.ref a]/\(∃xs,SqT K H1 a xs)/\R (Mh K a) H1
section
variable {X:Cx}{elts:List Expr}{tpos:Pos}
theorem t7 {x1}{a:Expr}{ta:TA}{p pos:Pos}(hg:Gl X "enumerate")(hm:X.mg "enumerate" = none)(ha:PA X [a] ta)(hs:starEach [a] X.env=[(false,eval a X.env)]:=by rfl):PI X (.Tuple elts x1 tpos) (.Call (.Name "enumerate" p) [a] [] pos) (vd X.K ta):=by
 intro pins s σ H R I h
 refine Call_ (nC I hg hm qG (PyProof.Rows.callWith_type1 (dG (ha pos pins s σ H _ I h) fun us s1 ⟨vs,H1,I1,r1,q1⟩=>?_) hs rfl))
 obtain⟨l,e,⟨xs,hq⟩,q⟩:=q1
 subst e
 cases r1 with
 |cons r rr=>
  cases rr
  cases r
  obtain⟨its,rv,pl,hz⟩:=I1.tuple hq
  refine yM (items:=its.toArray) pl fun h' he hit sz kp=>?_
  refine wpAny_pyIter_enum he ?_
  have I2:Inv X pins σ H1 { s1 with heap:=h',toks:=s1.toks }:=I1.kept kp
  refine⟨s1.heap.objs.size+1,[s1.heap.objs.size+1,s1.heap.objs.size],_,_,H1,rfl,I2,uw l _ _ (Nat.succ_ne_self _),⟨⟨_,he⟩,hit⟩,fun b hb=>?_,q⟩
  have hb':s1.heap.objs.size≤b:=by
   rcases List.mem_cons.mp hb with z|z
   ·rw[z];exact Nat.le_succ _
   ·have e:b=s1.heap.objs.size:=by simpa using z
    rw[e];exact Nat.le_refl _
  exact I1.fpOk hb' (I1.hok.fresh hb')
end
end L2
end
section
namespace L2
open PySem PySem.Spec PyProof.Rows
inductive NumEs (w:World):List DictEntry->List (Str×Int)->List (jD×Value)->Prop where
 |nil:NumEs w [] [] []
 |cons {x:Str} {t u:Tok} {i:Int} {es:List DictEntry} {kvs:List (Str×Int)} {vs:List (jD×Value)}:NumEs w es kvs vs->NumEs w (⟨PyData.keyHash w.params x,.str x t,.int i u⟩::es) ((x,i)::kvs) ((.inr x,.int i u)::vs)
structure NumTab (w:World)(K:PySem.W.Frag)(a:Addr)(kvs:List (Str×Int)):Prop where
 sys:(a==sysModules)=false
 nd:(kvs.map (·.1)).Nodup
 it:∃(es:Array DictEntry) (ep:Nat) (vs:List (jD×Value)),K.lookup a=some ⟨.type "dict",none,.dict es ep,#[]⟩/\NumEs w es.toList kvs vs
noncomputable def iN (kvs:List (Str×Int))(x:Str):Option Int:=(kvs.find? fun p=>decide (p.1=x)).map (·.2)
theorem NumEs.ok {P:Program}{w:World}:∀{es:List DictEntry} {kvs:List (Str×Int)} {vs:List (jD×Value)},NumEs w es kvs vs->(∀e∈es,∃k,(dX P w).is k e.key=true/\e.hash=(dX P w).hash k)/\Pairs (dX P w) es vs/\vs.map (·.1)=kvs.map (fun p=>(.inr p.1:jD))
 |_,_,_,.nil=>⟨fun _ h=>(by cases h),.nil,rfl⟩
 |_,_,_,@NumEs.cons _ x t u i es kvs vs r=>by
  obtain⟨a,b,c⟩:=r.ok (P:=P)
  refine⟨fun e he=>?_,.cons (gW P w x t) rfl b,by rw[List.map_cons,List.map_cons,c]⟩
  rcases List.mem_cons.mp he with rfl|he
  ·exact⟨.inr x,gW P w x t,rfl⟩
  ·exact a e he
theorem NumEs.val {w:World}{es:List DictEntry}{kvs:List (Str×Int)}{vs:List (jD×Value)}(h:NumEs w es kvs vs)(x:Str):RelV ((iN kvs x).elim .non .int) ((valueAt vs (.inr x)).getD .none):=by
 induction h with
 |nil=>rfl
 | @cons y t u i es kvs vs r ih=>
  by_cases e:y=x
  ·simp only[valueAt,iN,List.find?_cons,decide_eq_true e,e]
   simp[RelV]
  ·have e':¬((Sum.inr y:jD)=Sum.inr x):=fun q=>e (Sum.inr.inj q)
   simp only[valueAt,iN,List.find?_cons,decide_eq_false e,decide_eq_false e'] at ih ⊢
   exact ih
noncomputable def Bo (kvs:List (Str×Int))(a:Addr)(to ti:TE):TE:=fun σ H Q=>to σ H fun x H1=>x=.ref a/\ti σ H1 fun y H2=>∃n,y=.str n/\Q ((iN kvs n).elim .non .int) H2
section
variable {X:Cx}{o e:Expr}{apos cpos:Pos}{to ti:TE}{a:Addr}{kvs:List (Str×Int)}
theorem xa (T:NumTab X.w X.K a kvs)(ho:PE X o to)(he:PE X e ti)(m:M1 X o "get" apos e cpos):PE X (.Call (.Attribute o "get" apos) [e] [] cpos) (Bo kvs a to ti):=by
 intro pins s σ H Q I h
 obtain⟨sys,nd,es,ep,vs,l,r⟩:=T
 obtain⟨a1,a2,a3⟩:=r.ok (P:=X.prog)
 have D:∀{h:Heap},X.K.In h->h.DictOf (dX X.prog X.w) a vs:=fun {h} kin=>by
  refine⟨_,es,ep,kin a _ l,⟨rfl,rfl,rfl⟩,rfl,fun e he=>a1 e (Array.mem_toList_iff.mpr he),a2,?_⟩
  rw[a3,show (kvs.map fun p=>(Sum.inr p.1:jD))=(kvs.map (·.1)).map (Sum.inr:Str->jD) by simp]
  exact nd.map _ fun _ _ ne e=>ne (Sum.inr.inj e)
 refine wpAny_Call_method m.base m.few m.line PySem.F.plainAttrs_dict PySem.F.slot_dict_get PySem.F.type_dict_get (dG (ho pins s σ H _ I h) fun u s1 hh=>?_)
 obtain⟨x,H1,I1,rx,ex,q1⟩:=hh
 subst ex
 obtain rfl:u=Value.ref a:=rx
 have d1:=D I1.kIn
 refine⟨d1.typeIs,fun b q=>?_,?_⟩
 ·cases q
  obtain⟨ob,_,_,h1,h2,_⟩:=d1
  exact⟨ob,h1,h2.2.1⟩
 ·rw[m.trees]
  refine Calls.callWith_builtin rfl (Calls.evalArgs_plain (Calls.spliced_cons (dG (he pins s1 σ H1 _ I1 q1) fun iv s2 hh=>Calls.spliced_nil ?_)))
  obtain⟨y,H2,I2,ry,n,ey,q2⟩:=hh
  subst ey
  have d2:=D I2.kIn
  refine call_meetsIn PySem.F.slot_dict_get d2.typeIs PySem.F.entry_dict_get (PySem.F.args_dict_get_2 _ _) (meets_dict_get (dX X.prog X.w) a (AI (k:=.inr n) ry) sys) ⟨_,d2.mapOf,?_⟩
  exact⟨_,H2,I2.tok _,r.val n,q2⟩
end
end L2
end
section
namespace L2
open PySem PyProof.Rows PySem.W
section
variable {n:Nat}{lt:Nat->Nat->Bool}{p:Array Nat}
end
end L2
end
section
namespace L2
open PySem PySem.Spec PyProof.Rows PySem.W
section
variable {prog:Program}{w:World}{A:Around}{E:Value->Shared->Prop}{s:Shared}
noncomputable abbrev zY (a c:Int):Nat->Value->Prop:=fun i v=>∃t,v=.int (a+i * c) t
theorem tK {Q:List Value->Shared->Prop}{r:Addr}{a b c:Int}{t u v:Tok}{n:Nat}(hh:A.handled=none)(hr:IsRange s.heap r a b c t u v)(h1:Builtin.Range.small a b c=true)(h2:Builtin.Range.rangeSize a b c=n)(h3:n≤2 ^ 24)
  (hQ:∀h' tk acc,(∀x o,s.heap.get? x=some o->h'.get? x=some o)->ItemsOf (zY a c) acc n->Q acc.toList { s with heap:=h',toks:=tk }):wpAny (model prog w) A (collect (.ref r)) Q E s:=by
 unfold collect;refine wpAny_bind (wpAny_runValue (codeAny_builtin F.entry_proto_collect ?_));rw[Around.under_plainId F.plain_proto_collect _]
 show wpAny _ A.in1 (newList [] >>= fun z=>again (.builtin "list.__iadd__" ⟨[z,.ref r],[]⟩)) _ _ s
 refine wpAny_bind (wpAny_newObj_type (wpAny_pure ⟨plainId_quiet F.plain_list_iadd _,codeAny_builtin F.entry_list_iadd ?_⟩))
 rw[Around.under_plainId F.plain_list_iadd _];show wpAny _ A.in1 (Builtin.List.listExtendWith (.ref s.heap.objs.size) (.ref r) (.ref s.heap.objs.size)) _ _ _
 have hS0:(s.heap.push { cls:=.type "list",data:=.seq ([]:List Value).toArray }).get? s.heap.objs.size=some { cls:=.type "list",data:=.seq #[] }:=Heap.get?_push_size _ rfl
 have hr0:=Heap.get?_push_of_some { cls:=.type "list",data:=.seq ([]:List Value).toArray } hr
 refine wpAny_extend_range (R:=fun z s'=>match z with
  |.ok (.ret v)=>wpAny (model prog w) A (match v with
   |.ref a=>do
    let o ←load a
    match o.data with
     |.seq xs _=>pure xs.toList
     |_=>unsupported "internal:collect"
   |_=>unsupported "internal:collect") Q E s'
  |.ok _=>False
  |.error e=>E e s') (s:={ s with heap:=s.heap.push { cls:=.type "list",data:=.seq ([]:List Value).toArray } }) hh hr0 h1 h2 h3 s.heap.objs.size _ 0 hS0 fun h' tk acc c' hk hS hacc=>?_
 show wpAny _ A (load s.heap.objs.size >>= fun _=>_) _ _ _
 refine wpAny_bind (wpAny_load hS (wpAny_pure (hQ h' tk acc (fun x o e=>?_) hacc)))
 exact hk x o (Nat.ne_of_lt (Heap.lt_size e)) (Heap.get?_push_of_some _ e)
end
theorem pr (r:Addr){a b c:Int}{t u v:Tok}{n:Nat}(h1:Builtin.Range.small a b c=true)(h2:Builtin.Range.rangeSize a b c=n)(h3:n≤2 ^ 24) :
  Meets (Builtin.«tuple.__new__» ⟨[.type "tuple",.ref r],[]⟩) (fun A R s=>(A.handled=none/\IsRange s.heap r a b c t u v)/\∀(h':Heap) (tk:Nat) (acc:Array Value),(∀x o,s.heap.get? x=some o->h'.get? x=some o)->ItemsOf (zY a c) acc n →
   R (.ok (.ret (.ref h'.objs.size))) { s with heap:=h'.push { cls:=.type "tuple",data:=.seq acc },toks:=tk }):=
 .of_wp fun prog w A R s h=>by
  obtain⟨⟨hh,hr⟩,h⟩:=h
  have hsub:=sub_tuple_self
  have hinit:=init_tuple_lookup
  have hmh:=madeHere_tuple
  have hT:s.TypeIs (.ref r) "range":=⟨_,hr,rfl⟩
  have hh1:A.in1.handled=none:=hh
  wp_walk using wpAny_typeOf hT,tK hh1 hr h1 h2 h3
  intro h' tk acc hk hacc
  show wpAny _ _ (Builtin.Tuple.tupleExact acc.toList.toArray >>= fun z=>ret z) _ _ _
  unfold Builtin.Tuple.tupleExact
  have e:acc.toList.toArray=acc:=by simp
  have hz:acc.toList.toArray.size≤sizeLine:=by rw[e,hacc.1,sizeLine_eq];omega
  refine wpAny_bind (wpAny_newObj_type (wpAny_pure ⟨_,rfl,?_⟩) hz)
  rw[e]
  exact h h' tk acc hk hacc
theorem nG {X:Cx}(hc:X.calm=true):gj X (.type "tuple") (fun xs H Q=>∃p j,xs=[.ref p]/\H p=some (.rng 0 j)/\0≤j/\j≤1000000/\∀l,H l=none->Q (.ref l) (upd H l (.tup (nA j.toNat)))):=by
 intro pins s σ H xs us Q I r h
 obtain⟨p,j,rfl,hp,h1,h2,q⟩:=h
 obtain⟨u,rfl,rx⟩:=jE r
 cases rx
 obtain⟨t,u,v,e⟩:=(show ObjOk X.prog X.w H s.heap p (.rng 0 j) from I.hok p _ hp)
 have z:sizeLine ≥ 1000000:=by decide
 refine callType_new F.called_tuple (by decide) (F.typeCall_tuple_1 _) (F.newCall_tuple_1 _) (fun obj=>F.args_object_init_2 obj _) F.entry_tuple_new
  (pr p (a:=0) (b:=j) (c:=1) (n:=j.toNat) (small_one (by omega) (by omega) (by omega) (by omega)) (by rw[rangeSize_one];split<;>omega) (by omega)) ⟨⟨I.ok.hd hc,e⟩,fun h' tk acc hk hacc=>⟨⟨_,Heap.get?_push_size _ rfl,rfl⟩,?_⟩⟩
 have I1:Inv X pins σ H { s with heap:=h',toks:=tk }:=I.kept (t':=tk) hk
 exact⟨.ref h'.objs.size,_,I1.laid (t':=tk) (fun b o e=>Heap.get?_push_of_some _ e) (Nat.le_refl _) (show ObjOk X.prog X.w _ _ _ (.tup (nA j.toNat)) from⟨by rw[mQ];omega,acc.toList,oh hacc,by simpa using IsTup.new h' acc⟩),rfl,q _ (I1.hok.fresh (Nat.le_refl _))⟩
end L2
end
section
namespace Dp
open PySem L2 Fo Pu
section
variable {X:Cx}{tg iter:Expr}{t:jC}{fs:FA}
noncomputable def tR:PV->Option (List PV)
 |.tup ps=>some ps
 |.ktu ps=>some ps
 |_=>none
theorem yv {K:PySem.W.Frag}{F:Hp}{p:PV}{ps:List PV}{v:V}(h:tR p=some ps)(r:Rep K F p v):∃a vs,v=.ref a/\SqT K F a vs/\Reps K F ps vs:=by
 cases p with
 |tup qs=>cases h;obtain⟨a,vs,e1,e2,rs⟩:=r;exact⟨a,vs,e1,SqT.of e2,rs⟩
 |ktu qs=>cases h;exact r
 |_=>cases h
noncomputable def Hw (t:jC):vV:=fun ρ Q=>t ρ fun ps=>∃p qs,ps=[p]/\tR p=some qs/\Q (eZ 0 qs)
theorem yf (h:PI X tg iter (vd X.K (lA X.K t))):AX X tg iter (Hw t):=PI.weak h fun σ H R hh=>by
 obtain⟨F,ρ,Qp,er,q,k⟩:=hh
 refine⟨F,ρ,_,er,q,fun ps vs F1 H1 h1 g1 r1=>?_⟩
 obtain⟨p,qs,rfl,hp,h⟩:=h1
 obtain⟨v,r,rfl,r1,er'⟩:=r1
 cases (show r=[] from er')
 obtain⟨a,vs,rfl,hs,rs⟩:=yv hp r1
 refine⟨a,rfl,⟨vs,wY g1.fh hs⟩,k _ _ F1 H1 h g1 fun F2 H2 i s1 s2=>?_⟩
 have h2:=wY (s1.trans s2) hs
 refine⟨fun p e=>?_,fun hl=>⟨vs,h2,by rw[rs.length];rw[qy] at hl;exact hl⟩⟩
 rw[qo] at e
 obtain⟨p',e1,rfl⟩:=Option.map_eq_some_iff.mp e
 obtain⟨v,ev,rv⟩:=rs.get e1
 refine⟨⟨vs,v,h2,ev⟩,fun x H3 hy=>?_⟩
 obtain⟨q,y,ex,hq,e2,hy⟩:=hy
 subst ex e2
 have:=hy vs h2
 rw[ev] at this
 cases this
 refine⟨L2.upd F2 q (.tup [.int i,v]),.new s2 hq _,q,[.int i,v],rfl,aw,?_⟩
 refine⟨_,_,rfl,?_,_,_,rfl,(rv.mono s1).mono (b0 (s2.free hq) _),rfl⟩
 show V.int i=V.int ((0+i:Nat):Int)
 rw[Nat.zero_add]
noncomputable def kP (fs:FA):FI:=fun ρ=>(fs ρ).bind fun rs=>(rs.mapM RV.fr).bind fun ps=>match ps with
 |[p]=>(tR p).map (eZ 0)
 |_=>none
theorem wA (h:PI X tg iter (vd X.K (lA X.K (IB fs)))):DI X tg iter (kP fs):=oa (yf h) fun ρ Q hh=>by
 obtain⟨its,e,q⟩:=hh
 obtain⟨rs,e1,e⟩:=Option.bind_eq_some_iff.mp e
 obtain⟨ps,e2,e⟩:=Option.bind_eq_some_iff.mp e
 split at e
 ·next p=>
  obtain⟨qs,e3,rfl⟩:=Option.map_eq_some_iff.mp e
  exact⟨rs,_,e1,e2,_,_,rfl,e3,q⟩
 ·cases e
structure KTup (K:PySem.W.Frag)(a:Addr)(ps:List PV):Prop where
 it:∃vs,∀F,SqT K F a vs/\Reps K F ps vs
theorem Lu {x:Str}{a:Addr}{ps:List PV}{pos:Pos}(hg:Gl X x)(hm:X.mg x=some (.ref a))(h:KTup X.K a ps)(hd:(x==("__debug__" : Str))=false:=by decide):hG X (.Name x pos) (pC (.ktu ps)):=
 PE.weak (km (v:=.ref a) hg hm rfl hd) fun σ H Q hh=>by
  obtain⟨F,ρ,Qp,er,q,k⟩:=hh
  obtain⟨vs,hv⟩:=h.it
  exact k (.ktu ps) _ F H q (.refl er.fz) ⟨a,vs,rfl,(hv F).1,(hv F).2⟩
inductive TupEs:List Value->List PV->List V->Prop where
 |nil:TupEs [] [] []
 |str {x:Str} {t:Tok} {us:List Value} {ps:List PV} {vs:List V}:TupEs us ps vs->TupEs (.str x t::us) (.str x::ps) (.str x::vs)
 |int {x:Int} {t:Tok} {us:List Value} {ps:List PV} {vs:List V}:TupEs us ps vs->TupEs (.int x t::us) (.int x::ps) (.int x::vs)
theorem TupEs.ok {K:PySem.W.Frag}{F:Hp}:∀{us:List Value} {ps:List PV} {vs:List V},TupEs us ps vs->Vals vs us/\Reps K F ps vs
 |_,_,_,.nil=>⟨.nil,rfl⟩
 |_,_,_,.str h=>⟨.cons ⟨_,rfl⟩ (h.ok (K:=K) (F:=F)).1,_,_,rfl,rfl,(h.ok (K:=K) (F:=F)).2⟩
 |_,_,_,.int h=>⟨.cons ⟨_,rfl⟩ (h.ok (K:=K) (F:=F)).1,_,_,rfl,rfl,(h.ok (K:=K) (F:=F)).2⟩
theorem Dg {K:PySem.W.Frag}{a:Addr}{ps:List PV}{vs:List V}{us:Array Value}{n:Nat}{d:Option Addr}{sl:Array (Option Value)}(l:K.lookup a=some ⟨.type "tuple",d,.seq us n,sl⟩)(h:TupEs us.toList ps vs)(hz:us.size≤sizeLine):KTup K a ps:=
 ⟨vs,fun F=>⟨.inr ⟨_,us,n,l,rfl,rfl,hz,(h.ok (K:=K) (F:=F)).1⟩,h.ok.2⟩⟩
end
end Dp
end
section
namespace Dp
open PySem PySem.Spec L2 Pu
section
variable {X:Cx}{e:Expr}{p apos cpos:Pos}{f:FE}{x:Str}{a:Addr}{kvs:List (Str×Int)}
noncomputable def ni (kvs:List (Str×Int))(o:Option PV):Option RV:=match o with
 |some (.str n)=>some (.fz ((iN kvs n).elim .non .int))
 |_=>none
noncomputable def kg (kvs:List (Str×Int))(f:FE):FE:=fun ρ=>ni kvs ((f ρ).bind RV.fr)
theorem zR (T:NumTab X.w X.K a kvs)(hg:Gl X x)(hm:X.mg x=some (.ref a))(he:DE X e f)(m:M1 X (.Name x p) "get" apos e cpos)(hd:(x==("__debug__" : Str))=false:=by decide):DE X (.Call (.Attribute (.Name x p) "get" apos) [e] [] cpos) (kg kvs f):=
 .ofE (te:=fun ρ Q=>tF f ρ fun p=>∃n,p=.str n/\Q ((iN kvs n).elim .non .int)) (PE.weak (xa T (km (v:=.ref a) hg hm rfl hd) he.ee m) fun σ H Q hh=>by
  obtain⟨F,ρ,Qp,er,q,k⟩:=hh
  refine⟨rfl,F,ρ,_,er,q,fun p v F1 H1 q1 g1 r1=>?_⟩
  obtain⟨n,rfl,q1⟩:=q1
  cases (show v=.str n from r1)
  refine⟨n,rfl,k _ _ F1 H1 q1 g1 ?_⟩
  cases iN kvs n<;>rfl) fun ρ r h=>by
  unfold kg ni at h
  split at h
  ·next n e1=>
   obtain⟨r1,e2,e3⟩:=Option.bind_eq_some_iff.mp e1
   cases h
   exact⟨_,rfl,r1,_,e2,e3,n,rfl,rfl⟩
  ·cases h
end
end Dp
end
section
namespace Dp
open PySem PySem.Spec L2 Pu
section
variable {X:Cx}{st:Stmt}{i:Nat}
theorem ke {K:PySem.W.Frag}{F:Hp}:∀is:List Int,Reps K F (is.map PV.int) (is.map V.int)
 |[]=>rfl
 |i::is=>⟨.int i,_,rfl,rfl,ke is⟩
end
end Dp
end
section
namespace Dp
open PySem PySem.Spec L2 Pu
end Dp
end
section
namespace Dp
open PySem PySem.Spec L2 Pu
section
variable {X:Cx}{e:Expr}{es:List Expr}{p pos apos cpos:Pos}{f:FE}{fs:FA}{x:Str}{ps:List PV}{kvs:List (Str×Int)}
noncomputable def nq:List PV->Option RV
 |[.rng lo j]=>if lo=0/\0≤j/\j≤1000000 then some (.fz (.tup (sq 0 j.toNat))) else none
 |_=>none
noncomputable def Ew:wk:=fun ps Q=>One ps fun p=>Me p fun j=>0≤j/\j≤1000000/\Q (.tup (sq 0 j.toNat))
theorem BG:m5 X.K (fun xs H Q=>∃p j,xs=[.ref p]/\H p=some (.rng 0 j)/\0≤j/\j≤1000000/\∀l,H l=none->Q (.ref l) (upd H l (.tup (nA j.toNat)))) Ew:=fun F H xs ps Qp Q s r h k=>by
 obtain⟨p,v,rfl,rfl,r,h⟩:=h.rd r
 cases p<;>first|exact h.elim|skip
 obtain⟨rfl,h1,h2,h⟩:=h
 cases r with
 |frz r=>
  obtain⟨a,rfl,e⟩:=r
  exact⟨a,_,rfl,s _ _ e,h1,h2,fun l hl=>k _ _ _ _ h (.new s hl _) ⟨l,_,rfl,aw,md _⟩⟩
theorem Az:∀ps r,nq ps=some r->∃p,r=.fz p/\Ew ps (fun z=>z=p):=fun ps r h=>by
 unfold nq at h
 split at h
 ·split at h
  ·next z=>cases h;exact⟨_,rfl,z.1,z.2.1,z.2.2,rfl⟩
  ·cases h
 ·cases h
theorem Ic (hm:X.mg "tuple" = none)(ha:DA X (e::es) fs)(hc:X.calm=true:=by rfl)(hg:Gl X "tuple":=by rfl)(he:starEach (e::es) X.env=(false,eval e X.env)::starEach es X.env:=by rfl)(hpl:(backTo pos (starEach es X.env)).any (·.1)=false:=by rfl) :
  DE X (.Call (.Name "tuple" p) (e::es) [] pos) (fB nq fs):=dh BG Az (bB (nG hc) hg hm d8 ha.t (by decide) (by decide) he hpl)
theorem J7 (h:∃a,X.mg x=some (.ref a)/\KTup X.K a ps)(hg:Gl X x:=by rfl)(hd:(x==("__debug__" : Str))=false:=by decide):DE X (.Name x pos) (fC (.ktu ps)):=by
 obtain⟨a,h1,h2⟩:=h
 exact yr (Lu hg h1 h2 hd)
theorem zL (h:∃a,X.mg x=some (.ref a)/\NumTab X.w X.K a kvs)(he:DE X e f)(m:M1 X (.Name x p) "get" apos e cpos)(hg:Gl X x:=by rfl)(hd:(x==("__debug__" : Str))=false:=by decide):DE X (.Call (.Attribute (.Name x p) "get" apos) [e] [] cpos) (kg kvs f):=by
 obtain⟨a,h1,h2⟩:=h
 exact zR h2 hg h1 he m hd
end
end Dp
namespace Dp
open PySem PySem.Spec L2 Pu
end Dp
end
section
namespace Dp
open PySem PySem.Spec L2 Pu
noncomputable abbrev my:=List (Addr×(List PV->Option PR))
noncomputable def look:my->Addr->Option (List PV->Option PR)
 |[],_=>none
 |(b,F)::t,a=>if a=b then some F else look t a
theorem Kz {b a:Addr}{F G:List PV->Option PR}(h:look [(b,F)] a=some G):a=b/\G=F:=by
 unfold look at h
 split at h
 ·cases h;exact⟨by assumption,rfl⟩
 ·cases h
theorem C8 {b:Addr}{F:List PV->Option PR}:look [(b,F)] b=some F:=by unfold look;rw[if_pos rfl]
section
variable {X:Cx}{e:Expr}{es:List Expr}{p pos:Pos}{fs:FA}{x:Str}{i j k:Nat}{qs:List Str}{t:my}{a:Addr}
theorem Ls (hm:X.mg x=some (.ref a))(hg:Gl X x:=by rfl)(hd:(x==("__debug__" : Str))=false:=by decide):DE X (.Name x pos) (fC (.fn a)):=yr (oM (p:=.fn a) (km (v:=.ref a) hg hm rfl hd))
noncomputable def qN (t:my)(o:Option Sl)(as:Option (List PV)):Option RV:=match o,as with
 |some (.val (.fn a)),some ps=>(look t a).bind fun F=>(F ps).map pP
 |_,_=>none
noncomputable def oI (t:my)(i:Nat)(fs:FA):FE:=fun ρ=>qN t (sl ρ i) ((fs ρ).bind fun rs=>rs.mapM RV.fr)
theorem DQ (hd:∀a F,look t a=some F->DefA X.prog X.w X.K X.mg X.base j a qs (cv X.K (dz F)))(hr:Room k X.A)(hN:X.N[i]?=some x)(ha:DA X (e::es) fs)(hv:Ii X.env.scope x:=by first|exact Or.inl rfl|exact Or.inr rfl)(hj:j≤k:=by decide)(hdb:(x==("__debug__" : Str))=false:=by decide)(hcd:(x==("__classdict__" : Str))=false:=by decide)
  (he:starEach (e::es) X.env=(false,eval e X.env)::starEach es X.env:=by rfl) (hpl:(backTo pos (starEach es X.env)).any (·.1)=false:=by rfl):DE X (.Call (.Name x p) (e::es) [] pos) (oI t i fs):=
 PE.weak (ue (D:=fun f sp=>∃F,look t f=some F/\sp=cv X.K (dz F)) (fun f sp h=>by obtain⟨F,h1,rfl⟩:=h;exact hd f F h1) hr hN hv ha.f hj hdb hcd he hpl) fun σ H Q hh_=>hh_.elim fun F0 ρ r er e k=>by
  unfold oI qN at e
  split at e
  ·next a ps es ep=>
   obtain⟨rs,e2,e3⟩:=Option.bind_eq_some_iff.mp ep
   obtain⟨F,e1,e⟩:=Option.bind_eq_some_iff.mp e
   obtain⟨q,e4,rfl⟩:=Option.map_eq_some_iff.mp e
   obtain⟨v,ev,rd⟩:=er.rd (kh es)
   have hs:=er.sl i _ (kh es)
   rw[ev] at hs
   obtain rfl:v=.ref a:=hs
   refine⟨a,_,ev,⟨F,e1,rfl⟩,F0,ρ,(fun z=>z=ps),er,⟨rs,ps,e2,e3,rfl⟩,fun ps' vs F1 H1 h1 g1 r1=>?_⟩
   subst h1
   refine⟨F1,ps',(fun z=>z=q),g1.fh,r1,⟨q,e4,rfl⟩,fun r v F2 H2 h2 g2 rr=>?_⟩
   subst h2
   refine k v F2 H2 (g1.trans g2) ?_
   cases r with
   |v p=>exact rr
   |n ps=>
    obtain⟨a,vs,rfl,h0,hF,hH,rs⟩:=rr
    exact⟨a,vs,rfl,g1.hh.free h0,hF,hH,rs⟩
  ·cases e
end
end Dp
end
section
namespace L2
open PySem PySem.Spec PyProof.Rows
noncomputable def yt (b:Bool):Nat:=if b then 1 else 0
theorem uL:typeLookup (.type "bool") "__index__" = pure (some (.builtin "int.__index__")):=by
 rw[typeLookup_type,builtinLookup_eq_fast]
 kernel_rfl
section
variable {P:Program}{w:World}{A:Around}{E:Value->Shared->Prop}{s:Shared}{b:Bool}
theorem yL {Q:Option Int->Shared->Prop}(h:Q (some (yt b:Int)) s):wpAny (model P w) A (Builtin.List.listSubscript? (.bool b)) Q E s:=by
 have e:=PySem.typeIs_bool s b
 unfold Builtin.List.listSubscript?
 refine wpAny_bind (wpAny_specialOf (T:="bool") e uL ?_)
 refine (?_:wpAny _ _ (asIndex (.bool b) >>= _) _ _ _)
 refine wpAny_bind (wpAny_of_eq (a:=(yt b:Int)) (by cases b<;>rfl) ?_)
 cases b<;>exact wpAny_pure h
theorem wZ {l:Addr}{xs:Array Value}{x:Value}{Q:Value->Shared->Prop}(hl:s.heap.IsList l xs)(hx:xs[yt b]?=some x)(h:Q x s):wpAny (model P w) A (getItem (.ref l) (.bool b)) Q E s:=by
 have ty:=hl.typeIs
 obtain⟨o,ho,hc,ne,hd⟩:=hl
 unfold getItem
 try with_reducible refine wpAny_holding ?_
 first|refine wpAny_bind (wpAny_pure ?_)|skip
 refine wpAny_bind (wpAny_sequenceKey ty (by decide) ?_)
 have ar:=args_list_getitem (.ref l) (.bool b)
 refine wpAny_bind (wpAny_callSpecial?_slot (name:=Str.ofString "__getitem__") ty slot_list_getitem (wpAny_call_entry slot_list_getitem ty entry_list_getitem ?_ ar))
 refine (?_:wpAny _ _ (Builtin.List.listSubscript? (.bool b) >>= _) _ _ s)
 refine wpAny_bind (yL ?_)
 refine (?_:wpAny _ _ ((seqItemAt l (yt b) >>= fun r=>pure (r.map (yt b,·))) >>= _) _ _ s)
 refine wpAny_bind (wpAny_bind (wpAny_seqItemAt ho hd (wpAny_pure ?_)))
 rw[hx]
 first
  |exact wpAny_pure ⟨x,rfl,wpAny_pure h⟩
  |exact wpAny_bind (wpAny_pure (wpAny_pure ⟨x,rfl,wpAny_pure h⟩))
end
noncomputable def rz (K:PySem.W.Frag):R2:=fun x y H Q=>∃p xs b v,x=.ref p/\y=.bl b/\SqL K H p xs/\xs[yt b]?=some v/\Q v H
theorem BP {X:Cx}:IxR X (rz X.K):=by
 intro value slice pins s σ H x y v u Q I rx ry h hs
 obtain⟨p,xs,b,z,rfl,rfl,hq,he,q⟩:=h
 cases rx
 cases ry
 obtain⟨its,r,pl,hz⟩:=I.list hq
 obtain⟨w,ew,rw'⟩:=r.get he
 exact subscriptTail_builtinR (x:=w) pl.isList.typeIs slot_list_getitem.lookup (wZ (Q:=fun r s'=>r=w/\EP X pins σ Q r s') pl.isList (by simpa using ew) ⟨rfl,z,H,I,rw',q⟩) hs
end L2
namespace Dp
open PySem PySem.Spec L2 Pu
section
variable {X:Cx}{a b:Expr}{pos:Pos}{fa fb:FE}
noncomputable def rz:PV->PV->Option RV
 |.lst ps,.int i=>(L2.atI ps i).map .fz
 |.lst ps,.bl b=>(ps[yt b]?).map .fz
 |_,_=>none
noncomputable def GE:kc:=fun x y Q=>match x,y with
 |.lst ps,.bl b=>OkO (ps[yt b]?) Q
 |_,_=>False
theorem HC:h7 X.K (L2.rz X.K) GE:=fun F H x y p q Qp Q s rx ry h k=>by
 unfold GE at h
 split at h
 ·next ps b=>
  obtain⟨z,e,h⟩:=h.ex
  cases rx with
  |frz rx=>
   obtain⟨a,vs,rfl,e1,r⟩:=rx
   cases ry with
   |frz ry=>
    obtain⟨v,e',r'⟩:=r.get e
    exact⟨a,vs,b,v,rfl,ry,SqL.of (s _ _ e1),e',k z v F H h (.refl s) r'⟩
  |own h1 h2 h3=>
   cases ry with
   |frz ry=>
    obtain⟨v,e',r'⟩:=h3.get e
    exact⟨_,_,b,v,rfl,ry,SqL.of h1,e',k z v F H h (.refl s) r'⟩
 ·exact h.elim
theorem Fy {ta tb:gQ}(ha:jz X a ta)(hb:jz X b tb)(hs:lH b):hG X (.Subscript a b pos) (u7 GE ta tb):=PE.weak (iC BP ha hb hs) (lM HC)
theorem Jm (ha:DE X a fa)(hb:DE X b fb)(hs:lH b):DE X (.Subscript a b pos) (ah rz fa fb):=.ofE (oK (Ex ha.tt hb.tt hs) (Fy ha.tt hb.tt hs)) fun ρ r e=>by
 obtain⟨x,e1,e⟩:=Option.bind_eq_some_iff.mp e
 obtain⟨y,e2,e⟩:=Option.bind_eq_some_iff.mp e
 unfold rz at e
 split at e
 ·next ps i ex ey=>
  obtain⟨p,e3,rfl⟩:=Option.map_eq_some_iff.mp e
  refine⟨p,rfl,.inl ⟨x,e1,y,e2,?_⟩⟩
  rw[ex,ey]
  show OkO (L2.atI ps i) _
  rw[e3];exact rfl
 ·next ps b ex ey=>
  obtain⟨p,e3,rfl⟩:=Option.map_eq_some_iff.mp e
  refine⟨p,rfl,.inr ⟨x,e1,y,e2,?_⟩⟩
  rw[ex,ey]
  show OkO (ps[yt b]?) _
  rw[e3];exact rfl
 ·cases e
end
end Dp
end
section
namespace Dp
open PySem L2 Fo Pu
noncomputable def ir:FS:=(eT (dZ (fT (au eI (aa (fV 0) ag)))) mo aK)
theorem mi {ρ:ay}:ir ρ=(eT (dZ (fT (au eI (aa (fV 0) ag)))) mo aK) ρ:=Eq.trans rfl rfl
noncomputable def du:List PV->Option PR:=run 1 1 ir
theorem oC {a0:PV}:du [a0]=(ir [some (.val a0)]).res:=Eq.trans rfl rfl
noncomputable def dP:FS:=(aT (ju (fB g8 (aa (fV 0) (aa (fC (.ty "str")) ag))) (ox (ah CW (fV 0) (fC (.ktu [.str "size",.str "rank",.str "told",.str "names"]))))))
theorem jb {ρ:ay}:dP ρ=(aT (ju (fB g8 (aa (fV 0) (aa (fC (.ty "str")) ag))) (ox (ah CW (fV 0) (fC (.ktu [.str "size",.str "rank",.str "told",.str "names"])))))) ρ:=Eq.trans rfl rfl
noncomputable def aY:List PV->Option PR:=run 1 1 dP
theorem jv {a0:PV}:aY [a0]=(dP [some (.val a0)]).res:=Eq.trans rfl rfl
noncomputable def ij:FS:=(eT (dZ (fT (au aY (aa (fV 0) ag)))) mo aK)
theorem mf {ρ:ay}:ij ρ=(eT (dZ (fT (au aY (aa (fV 0) ag)))) mo aK) ρ:=Eq.trans rfl rfl
noncomputable def dy:List PV->Option PR:=run 1 1 ij
theorem oH {a0:PV}:dy [a0]=(ij [some (.val a0)]).res:=Eq.trans rfl rfl
noncomputable def iR:FS:=(al (j6 (au du (aa (fV 0) ag)))
  (al (j6 (au dy (aa (fV 1) ag)))
  (al (j6 (au ck (aa (fV 2) ag)))
  (al (bd 3 (Iq (fT (ah dQ (fV 1) (fC (.str "size")))) (fC (.int 1)) (fC (.int 0))))
  (aT (cw (aa (fV 1) (aa (fV 2) (aa (fB nq (aa (fB uZ (aa (fV 0) ag)) ag)) (aa (ah fN (cw (aa (fV 3) ag)) (fV 0)) ag))))))))))
theorem mW {ρ:ay}:iR ρ=(al (j6 (au du (aa (fV 0) ag)))
  (al (j6 (au dy (aa (fV 1) ag)))
  (al (j6 (au ck (aa (fV 2) ag)))
  (al (bd 3 (Iq (fT (ah dQ (fV 1) (fC (.str "size")))) (fC (.int 1)) (fC (.int 0))))
  (aT (cw (aa (fV 1) (aa (fV 2) (aa (fB nq (aa (fB uZ (aa (fV 0) ag)) ag)) (aa (ah fN (cw (aa (fV 3) ag)) (fV 0)) ag)))))))))) ρ:=Eq.trans rfl rfl
noncomputable def bU:List PV->Option PR:=run 3 4 iR
theorem pB {a0 a1 a2:PV}:bU [a0,a1,a2]=(iR [some (.val a0),some (.val a1),some (.val a2),none]).res:=Eq.trans rfl rfl
noncomputable def cC:FS:=(al (bd 7 (qL (au aD (aa (au aV (aa (fV 0) (aa (ah bV (ah bV (fV 1) (fC (.int 1))) (ah ji (fV 6) (fC (.int 5)))) ag))) (aa (fC (.int 20)) ag))) (rm (ah fN (fC (.int 4)) (ah aZ (fV 6) (fC (.int 5))))) rQ))
  (al (rY 8 9 (aa (ah aZ (ah aH (fV 7) (fC (.int 0))) (fV 2)) (aa (ah aZ (ah aH (fV 7) (fC (.int 1))) (fV 2)) ag)))
  (al (eT (fT (ah dQ (ah aZ (ah aH (fV 4) (fC (.int 1))) (fC (.int 4))) (fC (.int 1)))) (rY 8 9 (aa (ah aZ (fV 6) (fV 2)) (aa (ah aZ (ah bV (fV 6) (fC (.int 1))) (fV 2)) ag))) aK)
  (al (eT (iD (fT (ah dQ (ah aZ (ah aH (fV 4) (fC (.int 1))) (fC (.int 4))) (fC (.int 2)))) (fT (ah uJ (ah aZ (ah aH (fV 7) (fC (.int 2))) (fC (.int 3))) (fC (.int 0))))) (al (bd 8 (ah aZ (ah fN (ah ji (fV 8) (fC (.int 2))) (fC (.int 2))) (fV 2)))
  (bd 9 (fB kH (aa (ah sS (fV 2) (fC (.int 1))) (aa (ah bV (fV 8) (fC (.int 1))) ag))))) aK)
  (al (eT (iD (fT (ah gd (fV 5) (fe ag))) (fT (ah dQ (ah aZ (ah aH (fV 7) (fC (.int 2))) (fC (.int 7))) (fC (.int 1))))) (fO (ah aH (fV 5) (ah aZ (ah aH (fV 7) (fC (.int 3))) (fB eK (aa (fV 5) ag)))) (iY 2 (gC (gN 8) (gC (gN 9) g0)))) aK)
  (kw 5 (aa (ah aH (fe (aa (cw (aa (fV 8) (aa (fV 9) ag))) (aa (cw (aa (fV 9) (aa (fV 8) ag))) ag))) (ah aZ (ah ji (ah aH (fV 7) (fC (.int 2))) (fC (.int 7))) (fC (.int 2)))) ag)))))))
noncomputable def il:FS:=(al (bd 4 (au aD (aa (au aV (aa (fV 0) (aa (fV 1) ag))) (aa (fC (.int 4)) ag))))
  (al (iW 5 (fe ag))
  (al (io (jw im (aa (ah aZ (ah aH (fV 4) (fC (.int 0))) (ah bV (fV 3) (fC (.int 1)))) ag)) (gN 6) cC)
  (aT (fB jy (aa (fV 5) ag))))))
theorem lZ {ρ:ay}:il ρ=(al (bd 4 (au aD (aa (au aV (aa (fV 0) (aa (fV 1) ag))) (aa (fC (.int 4)) ag))))
  (al (iW 5 (fe ag))
  (al (io (jw im (aa (ah aZ (ah aH (fV 4) (fC (.int 0))) (ah bV (fV 3) (fC (.int 1)))) ag)) (gN 6) cC)
  (aT (fB jy (aa (fV 5) ag)))))) ρ:=Eq.trans rfl rfl
noncomputable def cF:List PV->Option PR:=run 4 10 il
theorem oO {a0 a1 a2 a3:PV}:cF [a0,a1,a2,a3]=(il [some (.val a0),some (.val a1),some (.val a2),some (.val a3),none,none,none,none,none,none]).res:=Eq.trans rfl rfl
noncomputable def cB:FS:=(al (bd 8 (au aD (aa (au aV (aa (fV 0) (aa (ah bV (ah bV (fV 1) (fC (.int 20))) (ah ji (fV 5) (fC (.int 10)))) ag))) (aa (fC (.int 10)) ag))))
  (kw 4 (aa (ah aH (fe (aa (cw (aa (fC (.str "join")) (aa (fV 6) (aa (fV 7) ag)))) (aa (cw (aa (fC (.str "join")) (aa (fV 6) (aa (fV 7) ag)))) (aa (cw (aa (fC (.str "find")) (aa (fV 6) ag))) ag)))) (ah aZ (ah aH (fV 8) (ah aZ (fV 5) (fC (.int 10)))) (fC (.int 3)))) ag)))
theorem fS {ρ:ay}:cB ρ=(al (bd 8 (au aD (aa (au aV (aa (fV 0) (aa (ah bV (ah bV (fV 1) (fC (.int 20))) (ah ji (fV 5) (fC (.int 10)))) ag))) (aa (fC (.int 10)) ag))))
  (kw 4 (aa (ah aH (fe (aa (cw (aa (fC (.str "join")) (aa (fV 6) (aa (fV 7) ag)))) (aa (cw (aa (fC (.str "join")) (aa (fV 6) (aa (fV 7) ag)))) (aa (cw (aa (fC (.str "find")) (aa (fV 6) ag))) ag)))) (ah aZ (ah aH (fV 8) (ah aZ (fV 5) (fC (.int 10)))) (fC (.int 3)))) ag))) ρ:=Eq.trans rfl rfl
noncomputable def iu:FS:=(al (iW 4 (fe ag))
  (al (io (kP (aa (au cF (aa (fV 0) (aa (fV 1) (aa (fV 2) (aa (fV 3) ag))))) ag)) (iY 2 (gC (gN 5) (gC (iY 2 (gC (gN 6) (gC (gN 7) g0))) g0))) cB)
  (aT (fB jy (aa (fV 4) ag)))))
theorem mw {ρ:ay}:iu ρ=(al (iW 4 (fe ag))
  (al (io (kP (aa (au cF (aa (fV 0) (aa (fV 1) (aa (fV 2) (aa (fV 3) ag))))) ag)) (iY 2 (gC (gN 5) (gC (iY 2 (gC (gN 6) (gC (gN 7) g0))) g0))) cB)
  (aT (fB jy (aa (fV 4) ag))))) ρ:=Eq.trans rfl rfl
noncomputable def ca:List PV->Option PR:=run 4 9 iu
theorem oE {a0 a1 a2 a3:PV}:ca [a0,a1,a2,a3]=(iu [some (.val a0),some (.val a1),some (.val a2),some (.val a3),none,none,none,none,none]).res:=Eq.trans rfl rfl
noncomputable def kM:FS:=(aT (fB jy (aa (fB gX (aa (fV 0) ag)) ag)))
theorem rN {ρ:ay}:kM ρ=(aT (fB jy (aa (fB gX (aa (fV 0) ag)) ag))) ρ:=Eq.trans rfl rfl
noncomputable def de:List PV->Option PR:=run 1 1 kM
theorem uE {a0:PV}:de [a0]=(kM [some (.val a0)]).res:=Eq.trans rfl rfl
noncomputable def iI:FS:=(al (fO (fV 0) (iY 4 (gC (gN 2) (gC (gN 3) (gC (gN 4) (gC (gN 5) g0))))))
  (al (fO (au fw (aa (fV 4) (aa (fV 3) (aa (fV 1) ag)))) (iY 3 (gC (gN 6) (gC (gN 7) (gC (gN 8) g0)))))
  (aT (cw (aa (cw (aa (fV 2) (aa (fV 3) (aa (fV 7) (aa (au de (aa (fV 5) ag)) ag))))) (aa (fV 6) (aa (fV 8) ag)))))))
theorem mT {ρ:ay}:iI ρ=(al (fO (fV 0) (iY 4 (gC (gN 2) (gC (gN 3) (gC (gN 4) (gC (gN 5) g0))))))
  (al (fO (au fw (aa (fV 4) (aa (fV 3) (aa (fV 1) ag)))) (iY 3 (gC (gN 6) (gC (gN 7) (gC (gN 8) g0)))))
  (aT (cw (aa (cw (aa (fV 2) (aa (fV 3) (aa (fV 7) (aa (au de (aa (fV 5) ag)) ag))))) (aa (fV 6) (aa (fV 8) ag))))))) ρ:=Eq.trans rfl rfl
noncomputable def bp:List PV->Option PR:=run 2 9 iI
theorem pM {a0 a1:PV}:bp [a0,a1]=(iI [some (.val a0),some (.val a1),none,none,none,none,none,none,none]).res:=Eq.trans rfl rfl
noncomputable def g9:FS:=(al (eT (fT (ah dQ (fV 0) (fC (.str "told")))) (aT (fC (.bl true))) aK)
  (al (eT (fT (ah dQ (fV 0) (fC (.str "names")))) (aT (ah A4 (fV 2) (fV 3))) aK)
  (aT (ah Ij (ah aH (fV 1) (fV 2)) (ah aH (fV 1) (fV 3))))))
theorem dY {ρ:ay}:g9 ρ=(al (eT (fT (ah dQ (fV 0) (fC (.str "told")))) (aT (fC (.bl true))) aK)
  (al (eT (fT (ah dQ (fV 0) (fC (.str "names")))) (aT (ah A4 (fV 2) (fV 3))) aK)
  (aT (ah Ij (ah aH (fV 1) (fV 2)) (ah aH (fV 1) (fV 3)))))) ρ:=Eq.trans rfl rfl
noncomputable def cg:List PV->Option PR:=run 4 4 g9
theorem fk {a0 a1 a2 a3:PV}:cg [a0,a1,a2,a3]=(g9 [some (.val a0),some (.val a1),some (.val a2),some (.val a3)]).res:=Eq.trans rfl rfl
noncomputable def hR:FS:=(al (eT (fT (ah dQ (fV 0) (fC (.str "size")))) (aT (ah bV (fV 1) (fV 2))) aK)
  (al (eT (iD (fT (ah dQ (fV 0) (fC (.str "rank")))) (fT (ah dQ (fV 1) (fV 2)))) (aT (ah bV (fV 1) (fC (.int 1)))) aK)
  (j7 1)))
theorem cD {ρ:ay}:hR ρ=(al (eT (fT (ah dQ (fV 0) (fC (.str "size")))) (aT (ah bV (fV 1) (fV 2))) aK)
  (al (eT (iD (fT (ah dQ (fV 0) (fC (.str "rank")))) (fT (ah dQ (fV 1) (fV 2)))) (aT (ah bV (fV 1) (fC (.int 1)))) aK)
  (j7 1))) ρ:=Eq.trans rfl rfl
noncomputable def ci:List PV->Option PR:=run 3 3 hR
theorem dB {a0 a1 a2:PV}:ci [a0,a1,a2]=(hR [some (.val a0),some (.val a1),some (.val a2)]).res:=Eq.trans rfl rfl
noncomputable def dW:FS:=(al (fO (fV 0) (iY 4 (gC (gN 3) (gC (gN 4) (gC (gN 5) (gC (gN 6) g0))))))
  (al (bd 7 (au cg (aa (fV 3) (aa (fV 6) (aa (fV 1) (aa (fV 2) ag))))))
  (al (fO (Iq (fT (fV 7)) (cw (aa (fV 1) (aa (fV 2) ag))) (cw (aa (fV 2) (aa (fV 1) ag)))) (iY 2 (gC (gN 8) (gC (gN 9) g0))))
  (al (iW 10 (fB gX (aa (fV 5) ag)))
  (al (uH 10 (fV 9) (fV 8))
  (al (iW 11 (fB gX (aa (fV 6) ag)))
  (al (uH 11 (fV 8) (au ci (aa (fV 3) (aa (ah aH (fV 6) (fV 8)) (aa (ah aH (fV 6) (fV 9)) ag)))))
  (aT (cw (aa (fV 3) (aa (fV 4) (aa (fB jy (aa (fV 10) ag)) (aa (fB jy (aa (fV 11) ag)) ag)))))))))))))
theorem fG {ρ:ay}:dW ρ=(al (fO (fV 0) (iY 4 (gC (gN 3) (gC (gN 4) (gC (gN 5) (gC (gN 6) g0))))))
  (al (bd 7 (au cg (aa (fV 3) (aa (fV 6) (aa (fV 1) (aa (fV 2) ag))))))
  (al (fO (Iq (fT (fV 7)) (cw (aa (fV 1) (aa (fV 2) ag))) (cw (aa (fV 2) (aa (fV 1) ag)))) (iY 2 (gC (gN 8) (gC (gN 9) g0))))
  (al (iW 10 (fB gX (aa (fV 5) ag)))
  (al (uH 10 (fV 9) (fV 8))
  (al (iW 11 (fB gX (aa (fV 6) ag)))
  (al (uH 11 (fV 8) (au ci (aa (fV 3) (aa (ah aH (fV 6) (fV 8)) (aa (ah aH (fV 6) (fV 9)) ag)))))
  (aT (cw (aa (fV 3) (aa (fV 4) (aa (fB jy (aa (fV 10) ag)) (aa (fB jy (aa (fV 11) ag)) ag))))))))))))) ρ:=Eq.trans rfl rfl
noncomputable def aX:List PV->Option PR:=run 3 12 dW
theorem gi {a0 a1 a2:PV}:aX [a0,a1,a2]=(dW [some (.val a0),some (.val a1),some (.val a2),none,none,none,none,none,none,none,none,none]).res:=Eq.trans rfl rfl
noncomputable def iG:FS:=(al (fO (au bp (aa (fV 0) (aa (fV 1) ag))) (iY 3 (gC (gN 3) (gC (gN 4) (gC (gN 5) g0)))))
  (al (fO (au bp (aa (fV 3) (aa (fV 2) ag))) (iY 3 (gC (gN 6) (gC (gN 7) (gC (gN 8) g0)))))
  (al (bd 9 (ah bV (fV 5) (fV 8)))
  (al (eT (fT (ah dQ (fV 4) (fV 7))) (aT (cw (aa (fV 6) (aa (fC (.bl false)) (aa (fV 9) ag))))) aK)
  (aT (cw (aa (au aX (aa (fV 6) (aa (fV 4) (aa (fV 7) ag)))) (aa (fC (.bl true)) (aa (fV 9) ag)))))))))
theorem js {ρ:ay}:iG ρ=(al (fO (au bp (aa (fV 0) (aa (fV 1) ag))) (iY 3 (gC (gN 3) (gC (gN 4) (gC (gN 5) g0)))))
  (al (fO (au bp (aa (fV 3) (aa (fV 2) ag))) (iY 3 (gC (gN 6) (gC (gN 7) (gC (gN 8) g0)))))
  (al (bd 9 (ah bV (fV 5) (fV 8)))
  (al (eT (fT (ah dQ (fV 4) (fV 7))) (aT (cw (aa (fV 6) (aa (fC (.bl false)) (aa (fV 9) ag))))) aK)
  (aT (cw (aa (au aX (aa (fV 6) (aa (fV 4) (aa (fV 7) ag)))) (aa (fC (.bl true)) (aa (fV 9) ag))))))))) ρ:=Eq.trans rfl rfl
noncomputable def dk:List PV->Option PR:=run 3 10 iG
theorem kC {a0 a1 a2:PV}:dk [a0,a1,a2]=(iG [some (.val a0),some (.val a1),some (.val a2),none,none,none,none,none,none,none]).res:=Eq.trans rfl rfl
noncomputable def iH:FS:=(al (eT (fT (ah dQ (ah aH (fV 1) (fC (.int 0))) (fC (.str "find")))) (aT (au bp (aa (fV 0) (aa (ah aH (fV 1) (fC (.int 1))) ag)))) aK)
  (aT (au dk (aa (fV 0) (aa (ah aH (fV 1) (fC (.int 1))) (aa (ah aH (fV 1) (fC (.int 2))) ag))))))
theorem jp {ρ:ay}:iH ρ=(al (eT (fT (ah dQ (ah aH (fV 1) (fC (.int 0))) (fC (.str "find")))) (aT (au bp (aa (fV 0) (aa (ah aH (fV 1) (fC (.int 1))) ag)))) aK)
  (aT (au dk (aa (fV 0) (aa (ah aH (fV 1) (fC (.int 1))) (aa (ah aH (fV 1) (fC (.int 2))) ag)))))) ρ:=Eq.trans rfl rfl
noncomputable def bS:List PV->Option PR:=run 2 2 iH
theorem kK {a0 a1:PV}:bS [a0,a1]=(iH [some (.val a0),some (.val a1)]).res:=Eq.trans rfl rfl
noncomputable def fR:FE:=(au d9 (aa (fV 1) (aa (fV 0) ag)))
theorem fQ {ρ:ay}:fR ρ=(au d9 (aa (fV 1) (aa (fV 0) ag))) ρ:=Eq.trans rfl rfl
noncomputable def jR:FS:=(al (eT (iU (dZ (fT (fB g8 (aa (fV 1) (aa (fC (.ty "tuple")) ag))))) (fT (ah dQ (fB eK (aa (fV 1) ag)) (fC (.int 0))))) (aT (fC (.bl false))) aK)
  (al (bd 2 (ah aH (fV 1) (fC (.int 0))))
  (al (eT (iU (dZ (fT (fB g8 (aa (fV 2) (aa (fC (.ty "str")) ag))))) (fT (ah gd (kg [("find",2),("join",3)] (fV 2)) (fB eK (aa (fV 1) ag))))) (aT (fC (.bl false))) aK)
  (aT (fB qV (aa (cG [none,some 0] (lP (qL (fV 1) (rm (fC (.int 1))) rQ)) (gN 0) cr fR) ag))))))
theorem kD {ρ:ay}:jR ρ=(al (eT (iU (dZ (fT (fB g8 (aa (fV 1) (aa (fC (.ty "tuple")) ag))))) (fT (ah dQ (fB eK (aa (fV 1) ag)) (fC (.int 0))))) (aT (fC (.bl false))) aK)
  (al (bd 2 (ah aH (fV 1) (fC (.int 0))))
  (al (eT (iU (dZ (fT (fB g8 (aa (fV 2) (aa (fC (.ty "str")) ag))))) (fT (ah gd (kg [("find",2),("join",3)] (fV 2)) (fB eK (aa (fV 1) ag))))) (aT (fC (.bl false))) aK)
  (aT (fB qV (aa (cG [none,some 0] (lP (qL (fV 1) (rm (fC (.int 1))) rQ)) (gN 0) cr fR) ag)))))) ρ:=Eq.trans rfl rfl
noncomputable def bZ:List PV->Option PR:=run 2 3 jR
theorem mR {a0 a1:PV}:bZ [a0,a1]=(jR [some (.val a0),some (.val a1),none]).res:=Eq.trans rfl rfl
noncomputable def oW:FS:=(al (eT (dZ (fT (au bZ (aa (fB eK (aa (ah aH (fV 0) (fC (.int 2))) ag)) (aa (fV 1) ag))))) mo aK)
  (aT (au bS (aa (fV 0) (aa (fV 1) ag)))))
theorem vQ {ρ:ay}:oW ρ=(al (eT (dZ (fT (au bZ (aa (fB eK (aa (ah aH (fV 0) (fC (.int 2))) ag)) (aa (fV 1) ag))))) mo aK)
  (aT (au bS (aa (fV 0) (aa (fV 1) ag))))) ρ:=Eq.trans rfl rfl
noncomputable def gF:List PV->Option PR:=run 2 2 oW
theorem zw {a0 a1:PV}:gF [a0,a1]=(oW [some (.val a0),some (.val a1)]).res:=Eq.trans rfl rfl
end Dp
end
section
namespace Dp
open PySem L2 Fo Pu
noncomputable def fZ (t:my):FS:=(eT (dZ (fT (oI t 2 (aa (fV 0) (aa (fV 4) ag))))) mo aK)
theorem mm {t:my}{ρ:ay}:(fZ t) ρ=(eT (dZ (fT (oI t 2 (aa (fV 0) (aa (fV 4) ag))))) mo aK) ρ:=Eq.trans rfl rfl
noncomputable def iM (t:my):FS:=(al (eT (dZ (fT (fB g8 (aa (fV 1) (aa (fC (.ty "tuple")) ag))))) mo aK)
  (io (kP (aa (fV 1) ag)) (iY 2 (gC (gN 3) (gC (gN 4) g0))) (fZ t)))
theorem mV {t:my}{ρ:ay}:(iM t) ρ=(al (eT (dZ (fT (fB g8 (aa (fV 1) (aa (fC (.ty "tuple")) ag))))) mo aK)
  (io (kP (aa (fV 1) ag)) (iY 2 (gC (gN 3) (gC (gN 4) g0))) (fZ t))) ρ:=Eq.trans rfl rfl
noncomputable def dr (t:my):List PV->Option PR:=run 3 5 (iM t)
theorem ph {t:my}{a0 a1 a2:PV}:(dr t) [a0,a1,a2]=((iM t) [some (.val a0),some (.val a1),some (.val a2),none,none]).res:=Eq.trans rfl rfl
end Dp
end
section
namespace Dp
open PySem L2 Fo Pu
noncomputable def lG (a_is_deed:Addr):FS:=(al (fO (au bS (aa (fV 6) (aa (fV 9) ag))) (iY 3 (gC (gN 6) (gC (gN 10) (gC (gN 11) g0)))))
  (al (kw 7 (aa (fV 10) ag))
  (kw 8 (aa (fV 11) ag))))
theorem um {a_is_deed:Addr}{ρ:ay}:(lG a_is_deed) ρ=(al (fO (au bS (aa (fV 6) (aa (fV 9) ag))) (iY 3 (gC (gN 6) (gC (gN 10) (gC (gN 11) g0)))))
  (al (kw 7 (aa (fV 10) ag))
  (kw 8 (aa (fV 11) ag)))) ρ:=Eq.trans rfl rfl
noncomputable def rb (a_is_deed:Addr):FS:=(al (j6 (au (dr [(a_is_deed,bZ)]) (aa (fB eK (aa (ah aH (fV 0) (fC (.int 2))) ag)) (aa (fV 1) (aa (fC (.fn a_is_deed)) ag)))))
  (al (fO (fV 0) (iY 4 (gC (gN 2) (gC (gN 3) (gC (gN 4) (gC (gN 5) g0))))))
  (al (bd 6 (cw (aa (fV 2) (aa (fV 3) (aa (au de (aa (fV 4) ag)) (aa (au de (aa (fV 5) ag)) ag))))))
  (al (iW 7 (fe ag))
  (al (iW 8 (fe ag))
  (al (io (lP (fV 1)) (gN 9) (lG a_is_deed))
  (ym 8 (ym 7 (aT (cw (aa (fV 6) (aa (fV 7) (aa (fV 8) ag)))))))))))))
theorem xM {a_is_deed:Addr}{ρ:ay}:(rb a_is_deed) ρ=(al (j6 (au (dr [(a_is_deed,bZ)]) (aa (fB eK (aa (ah aH (fV 0) (fC (.int 2))) ag)) (aa (fV 1) (aa (fC (.fn a_is_deed)) ag)))))
  (al (fO (fV 0) (iY 4 (gC (gN 2) (gC (gN 3) (gC (gN 4) (gC (gN 5) g0))))))
  (al (bd 6 (cw (aa (fV 2) (aa (fV 3) (aa (au de (aa (fV 4) ag)) (aa (au de (aa (fV 5) ag)) ag))))))
  (al (iW 7 (fe ag))
  (al (iW 8 (fe ag))
  (al (io (lP (fV 1)) (gN 9) (lG a_is_deed))
  (ym 8 (ym 7 (aT (cw (aa (fV 6) (aa (fV 7) (aa (fV 8) ag))))))))))))) ρ:=Eq.trans rfl rfl
noncomputable def kG (a_is_deed:Addr):List PV->Option PR:=run 2 12 (rb a_is_deed)
theorem Dd {a_is_deed:Addr}{a0 a1:PV}:(kG a_is_deed) [a0,a1]=((rb a_is_deed) [some (.val a0),some (.val a1),none,none,none,none,none,none,none,none,none,none]).res:=Eq.trans rfl rfl
end Dp
end
section
namespace Pt
open L2 Fo
noncomputable def cl (n:Nat)(c:Nat->Nat)(x:Nat):List Nat:=(List.range n).filter fun y=>decide (c y=c x)
end Pt
end
section
namespace Dp
open PySem L2 Fo Pu Lo Pt
theorem jM (l:List Nat):(ak l).length=l.length:=List.length_map ..
theorem ug (l m:List Nat):ak l++ak m=ak (l++m):=by unfold ak;rw[List.map_append]
noncomputable def M6 (acc l:List Nat):List Nat:=l.foldl (fun a t=>a.set t (up a t+1)) acc
noncomputable def sz (us:List Nat):List Nat:=(List.range us.length).foldl (fun acc x=>M6 acc (way us x)) (List.replicate us.length 0)
end Dp
end
section
namespace Fo
open PySem L2
theorem yA {l:List Nat}{n:Nat}(nd:l.Nodup)(h:∀x∈l,x<n):l.length≤n:=by
 have p:l.Perm ((List.range n).filter fun x=>decide (x∈l)):=(List.perm_ext_iff_of_nodup nd (List.nodup_range.filter _)).mpr fun x=>by
  rw[List.mem_filter,List.mem_range,decide_eq_true_eq]
  exact⟨fun q=>⟨h x q,q⟩,fun q=>q.2⟩
 rw[p.length_eq]
 have:=List.length_filter_le (fun x=>decide (x∈l)) (List.range n)
 rwa [List.length_range] at this
theorem Ht {us:List Nat}(f:Fst us){x t:Nat}(hx:x<us.length)(h:t∈way us x):hd us t=hd us x:=by
 obtain⟨l2,w2,e,_,_⟩:=(bN f hx).later t h
 have:=eG f (eF f hx h) w2
 unfold hd
 rw[this,e]
theorem mC {us:List Nat}(f:Frst us){u t:Nat}(hu:u<us.length)(ht:t<us.length)(eu:up us u=u)(et:up us t=t)(ne:t≠u):Frst (us.set u t):=by
 have hl:(us.set u t).length=us.length:=List.length_set
 refine⟨by rw[hl];exact f.one,by rw[hl];exact f.most,⟨fun x hx=>?_,fun x=>if hd us x=u then dp us x+1 else dp us x,fun x hx=>?_,fun x hx hn=>?_⟩⟩
 ·rw[hl] at hx ⊢
  rw[bv hu]
  split
  ·exact ht
  ·exact f.fst.bnd x hx
 ·rw[hl] at hx ⊢
  have h1:=wK f.fst hx
  have h2:=(bN f.fst hx).pos
  show (if hd us x=u then dp us x+1 else dp us x)<us.length
  unfold dp
  split
  ·next e=>
   have nm:t∉way us x:=fun q=>ne (by rw[←m7 f.fst ht et,Ht f.fst hx q,e])
   have:(t::way us x).length≤us.length:=yA (List.nodup_cons.mpr ⟨nm,(bN f.fst hx).nodup f.fst hx⟩) fun z hz=>by
    rcases List.mem_cons.mp hz with rfl|hz
    ·exact ht
    ·exact eF f.fst hx hz
   rw[List.length_cons] at this
   omega
  ·omega
 ·rw[hl] at hx
  rw[bv hu] at hn ⊢
  show (if hd us (if x=u then t else up us x)=u then _ else _)<(if hd us x=u then dp us x+1 else dp us x)
  by_cases e:x=u
  ·subst e
   rw[if_pos rfl,m7 f.fst ht et,if_neg ne,m7 f.fst hx eu,if_pos rfl]
   have:dp us t=0:=by unfold dp;rw[jX f.fst ht et];rfl
   omega
  ·rw[if_neg e] at hn ⊢
   rw[EJ f.fst hx]
   have:dp us (up us x)+1=dp us x:=by
    have h2:=(bN f.fst (f.fst.bnd x hx)).pos
    unfold dp
    rw[iV f.fst hx hn,List.length_cons]
    omega
   split<;>omega
end Fo
namespace Dp
open PySem L2 Fo Pu
theorem Ge {x:PV}{ps:List PV}:CW x (.ktu ps)=if plain x&&aL ps&&decide (cz ps≤50) then some (.fz (.bl (pin x ps))) else none:=Eq.trans rfl rfl
theorem GU {lo j:Int}:nq [.rng lo j]=if lo=0/\0≤j/\j≤1000000 then some (.fz (.tup (sq 0 j.toNat))) else none:=Eq.trans rfl rfl
theorem ub {kvs:List (Str×Int)}{f:FE}{ρ:ay}:kg kvs f ρ=ni kvs ((f ρ).bind RV.fr):=Eq.trans rfl rfl
theorem oY {kvs:List (Str×Int)}{n:Str}:ni kvs (some (.str n))=some (.fz ((iN kvs n).elim .non .int)):=Eq.trans rfl rfl
noncomputable def jws:List Str:=["size","rank","told","names"]
theorem j4 {j:Str}(h:j∈jws):j = "size"\/j = "rank"\/j = "told"\/j = "names":=by
 simpa [jws] using h
noncomputable def gh (j y:Str)(us ms:List Nat):PV:=.tup [.str j,.str y,.tup (ak us),.tup (ak ms)]
noncomputable def pW (j:Str):Nat:=if j = "size" then 1 else 0
theorem BU {n:Nat}(h1:1≤n)(h2:n≤40):eI [.int n]=some (.v (.bl true)):=FP (by omega) (by omega)
theorem JJ:decide (("size" : Str) = "rank")=false/\decide (("size" : Str) = "told")=false/\decide (("size" : Str) = "names")=false/\decide (("rank" : Str) = "size")=false/\decide (("rank" : Str) = "told")=false/\decide (("rank" : Str) = "names")=false ∧
  decide (("told" : Str) = "size")=false/\decide (("told" : Str) = "rank")=false/\decide (("told" : Str) = "names")=false/\decide (("names" : Str) = "size")=false/\decide (("names" : Str) = "rank")=false/\decide (("names" : Str) = "told")=false:=by decide
theorem ze {j:Str}(hj:j∈jws):aY [.str j]=some (.v (.bl true)):=by
 have e:CW (.str j) (.ktu [.str "size",.str "rank",.str "told",.str "names"])=some (.fz (.bl true)):=by
  have h1:(Pu.plain (.str j)&&aL [.str "size",.str "rank",.str "told",.str "names"]&&decide (cz [.str "size",.str "rank",.str "told",.str "names"]≤50))=true:=by simp[Pu.plain,aL,cz,kr]
  have h2:pin (.str j) [.str "size",.str "rank",.str "told",.str "names"]=true:=by
   unfold pin
   simp only[List.any_cons,vY,List.any_nil]
   rcases j4 hj with rfl|rfl|rfl|rfl<;>decide
  rw[Ge,h1,h2];rfl
 simp only[jv,jb,EE,Nat.reduceAdd,Nat.reduceSub,Nat.reduceLeDiff,Nat.reduceLT,Nat.reduceEqDiff,Int.reduceLT,Int.reduceLE,Int.reduceAdd,Int.reduceSub,Int.reduceMul,Int.reduceMod,Int.reduceDiv,Int.reduceNeg,Int.reduceToNat,Int.reducePow,Int.reduceEq,e]
theorem Ji {a n:Nat}(h1:1≤n)(h2:n≤1000):fN (.tup [.int a]) (.int n)=some (.fz (.tup (ak (List.replicate n a)))):=by
 have r:∀n:Nat,(List.replicate n [PV.int a]).flatten=ak (List.replicate n a):=fun n=>by
  induction n with
  |zero=>rfl
  |succ n ih=>rw[List.replicate_succ,List.flatten_cons,ih];rfl
 show (if ([PV.int a].isEmpty=false/\1≤(n:Int)/\(n:Int)≤1000/\[PV.int a].length≤1000) then some (RV.fz (.tup (List.replicate (n:Int).toNat [PV.int a]).flatten)) else none)=_
 rw[if_pos ⟨rfl,by omega,by omega,by simp⟩,Int.toNat_natCast,r]
theorem Ee {n:Nat}(h1:1≤n)(h2:n≤40){j y:Str}(hj:j∈jws)(hy:y∈manners):bU [.int n,.str j,.str y]=some (.v (gh j y (List.range n) (List.replicate n (pW j)))):=by
 have er:nq [.rng 0 n]=some (.fz (.tup (ak (List.range n)))):=by rw[GU,if_pos ⟨rfl,by omega,by omega⟩,Int.toNat_natCast,CH]
 have ek:=(K1 (show n≤100000 by omega)).2.1
 have m0:=Ji (a:=0) h1 (show n≤1000 by omega)
 have m1:=Ji (a:=1) h1 (show n≤1000 by omega)
 have m0:fN (.tup [.int 0]) (.int n)=_:=m0
 have m1:fN (.tup [.int 1]) (.int n)=_:=m1
 unfold gh
 rcases j4 hj with rfl|rfl|rfl|rfl <;>
  simp only[pB,mW,oC,mi,oH,mf,EE,Nat.reduceAdd,Nat.reduceSub,Nat.reduceLeDiff,Nat.reduceLT,Nat.reduceEqDiff,Int.reduceLT,Int.reduceLE,Int.reduceAdd,Int.reduceSub,Int.reduceMul,Int.reduceMod,Int.reduceDiv,Int.reduceNeg,Int.reduceToNat,Int.reducePow,Int.reduceEq,BU h1 h2,ze hj,yy hy,JJ,ek,er,m0,m1,pW]<;>rfl
theorem kN {n:Nat}(h1:1≤n)(h2:n≤40):Frst (List.range n):=by
 have u:∀x,x<n->up (List.range n) x=x:=fun x hx=>by unfold up;rw[List.getD_eq_getElem?_getD,List.getElem?_range hx];rfl
 refine⟨by rw[List.length_range];exact h1,by rw[List.length_range];exact h2,⟨fun x hx=>?_,fun _=>0,fun x hx=>?_,fun x hx hn=>?_⟩⟩
 ·rw[List.length_range] at hx ⊢;rw[u x hx];exact hx
 ·show 0<_;omega
 ·rw[List.length_range] at hx;exact absurd (u x hx) hn
theorem sC (ms:List Nat):de [.tup (ak ms)]=some (.v (.tup (ak ms))):=by
 simp only[uE,rN,EE,Nat.reduceAdd,Nat.reduceSub,Nat.reduceLeDiff,Nat.reduceLT,Nat.reduceEqDiff,Int.reduceLT,Int.reduceLE,Int.reduceAdd,Int.reduceSub,Int.reduceMul,Int.reduceMod,Int.reduceDiv,Int.reduceNeg,Int.reduceToNat,Int.reducePow,Int.reduceEq]
theorem qC {us ms:List Nat}(f:Frst us){j y:Str}(hy:y∈manners){x:Nat}(hx:x<us.length):bp [gh j y us ms,.int x]=some (.v (.tup [gh j y (eU y us x) ms,.int (hd us x:Nat),.int (iy y us x:Nat)])):=by
 have e:=xJ f hy hx
 simp only[nI] at e
 unfold gh
 simp only[pM,mT,EE,Nat.reduceAdd,Nat.reduceSub,Nat.reduceLeDiff,Nat.reduceLT,Nat.reduceEqDiff,Int.reduceLT,Int.reduceLE,Int.reduceAdd,Int.reduceSub,Int.reduceMul,Int.reduceMod,Int.reduceDiv,Int.reduceNeg,Int.reduceToNat,Int.reducePow,Int.reduceEq,e,sC]
noncomputable def stay (j:Str)(ms:List Nat)(a b:Nat):Bool:=if j = "told" then true else if j = "names" then decide (a<b) else decide (up ms b≤up ms a)
noncomputable def D2 (j:Str)(p q:Nat):Nat:=if j = "size" then p+q else if j = "rank"/\p=q then p+1 else p
noncomputable def tp (j:Str)(ms:List Nat)(a b:Nat):Nat:=if stay j ms a b then a else b
noncomputable def un (j:Str)(ms:List Nat)(a b:Nat):Nat:=if stay j ms a b then b else a
noncomputable def A3 (j:Str)(us ms:List Nat)(a b:Nat):List Nat:=us.set (un j ms a b) (tp j ms a b)
noncomputable def HW (j:Str)(ms:List Nat)(a b:Nat):List Nat:=ms.set (tp j ms a b) (D2 j (up ms (tp j ms a b)) (up ms (un j ms a b)))
theorem B8 {j:Str}(hj:j∈jws){ms:List Nat}{a b:Nat}(ha:a<ms.length)(hb:b<ms.length):cg [.str j,.tup (ak ms),.int a,.int b]=some (.v (.bl (stay j ms a b))):=by
 have d1:decide ((a:Int)<(b:Int))=decide (a<b):=decide_eq_decide.mpr (by omega)
 have d2:decide ((up ms b:Int)≤(up ms a:Int))=decide (up ms b≤up ms a):=decide_eq_decide.mpr (by omega)
 rcases j4 hj with rfl|rfl|rfl|rfl
 ·rw[show stay "size" ms a b=decide (up ms b≤up ms a) from rfl];simp only[fk,dY,EE,Nat.reduceAdd,Nat.reduceSub,Nat.reduceLeDiff,Nat.reduceLT,Nat.reduceEqDiff,Int.reduceLT,Int.reduceLE,Int.reduceAdd,Int.reduceSub,Int.reduceMul,Int.reduceMod,Int.reduceDiv,Int.reduceNeg,Int.reduceToNat,Int.reducePow,Int.reduceEq,JJ,aJ ha,aJ hb,d2]
 ·rw[show stay "rank" ms a b=decide (up ms b≤up ms a) from rfl];simp only[fk,dY,EE,Nat.reduceAdd,Nat.reduceSub,Nat.reduceLeDiff,Nat.reduceLT,Nat.reduceEqDiff,Int.reduceLT,Int.reduceLE,Int.reduceAdd,Int.reduceSub,Int.reduceMul,Int.reduceMod,Int.reduceDiv,Int.reduceNeg,Int.reduceToNat,Int.reducePow,Int.reduceEq,JJ,aJ ha,aJ hb,d2]
 ·rw[show stay "told" ms a b=true from rfl];simp only[fk,dY,EE,Nat.reduceAdd,Nat.reduceSub,Nat.reduceLeDiff,Nat.reduceLT,Nat.reduceEqDiff,Int.reduceLT,Int.reduceLE,Int.reduceAdd,Int.reduceSub,Int.reduceMul,Int.reduceMod,Int.reduceDiv,Int.reduceNeg,Int.reduceToNat,Int.reducePow,Int.reduceEq]
 ·rw[show stay "names" ms a b=decide (a<b) from rfl];simp only[fk,dY,EE,Nat.reduceAdd,Nat.reduceSub,Nat.reduceLeDiff,Nat.reduceLT,Nat.reduceEqDiff,Int.reduceLT,Int.reduceLE,Int.reduceAdd,Int.reduceSub,Int.reduceMul,Int.reduceMod,Int.reduceDiv,Int.reduceNeg,Int.reduceToNat,Int.reducePow,Int.reduceEq,JJ,d1]
theorem zn {j:Str}(hj:j∈jws)(p q:Nat):ci [.str j,.int p,.int q]=some (.v (.int (D2 j p q:Nat))):=by
 have d:decide ((p:Int)=(q:Int))=decide (p=q):=decide_eq_decide.mpr (by omega)
 rcases j4 hj with rfl|rfl|rfl|rfl
 ·rw[show D2 "size" p q=p+q from rfl];simp only[dB,cD,EE,Nat.reduceAdd,Nat.reduceSub,Nat.reduceLeDiff,Nat.reduceLT,Nat.reduceEqDiff,Int.reduceLT,Int.reduceLE,Int.reduceAdd,Int.reduceSub,Int.reduceMul,Int.reduceMod,Int.reduceDiv,Int.reduceNeg,Int.reduceToNat,Int.reducePow,Int.reduceEq];rfl
 ·by_cases h:p=q
  ·rw[show D2 "rank" p q=p+1 by unfold D2;rw[if_neg (by decide),if_pos ⟨rfl,h⟩]];simp only[dB,cD,EE,Nat.reduceAdd,Nat.reduceSub,Nat.reduceLeDiff,Nat.reduceLT,Nat.reduceEqDiff,Int.reduceLT,Int.reduceLE,Int.reduceAdd,Int.reduceSub,Int.reduceMul,Int.reduceMod,Int.reduceDiv,Int.reduceNeg,Int.reduceToNat,Int.reducePow,Int.reduceEq,JJ,d,decide_eq_true h];rfl
  ·rw[show D2 "rank" p q=p by unfold D2;rw[if_neg (by decide),if_neg fun z=>h z.2]];simp only[dB,cD,EE,Nat.reduceAdd,Nat.reduceSub,Nat.reduceLeDiff,Nat.reduceLT,Nat.reduceEqDiff,Int.reduceLT,Int.reduceLE,Int.reduceAdd,Int.reduceSub,Int.reduceMul,Int.reduceMod,Int.reduceDiv,Int.reduceNeg,Int.reduceToNat,Int.reducePow,Int.reduceEq,JJ,d,decide_eq_false h]
 ·rw[show D2 "told" p q=p from rfl];simp only[dB,cD,EE,Nat.reduceAdd,Nat.reduceSub,Nat.reduceLeDiff,Nat.reduceLT,Nat.reduceEqDiff,Int.reduceLT,Int.reduceLE,Int.reduceAdd,Int.reduceSub,Int.reduceMul,Int.reduceMod,Int.reduceDiv,Int.reduceNeg,Int.reduceToNat,Int.reducePow,Int.reduceEq,JJ]
 ·rw[show D2 "names" p q=p from rfl];simp only[dB,cD,EE,Nat.reduceAdd,Nat.reduceSub,Nat.reduceLeDiff,Nat.reduceLT,Nat.reduceEqDiff,Int.reduceLT,Int.reduceLE,Int.reduceAdd,Int.reduceSub,Int.reduceMul,Int.reduceMod,Int.reduceDiv,Int.reduceNeg,Int.reduceToNat,Int.reducePow,Int.reduceEq,JJ]
theorem JV {j y:Str}(hj:j∈jws){us ms:List Nat}{a b:Nat}(hl:ms.length=us.length)(ha:a<us.length)(hb:b<us.length):aX [gh j y us ms,.int a,.int b]=some (.v (gh j y (A3 j us ms a b) (HW j ms a b))):=by
 have st:=B8 hj (ms:=ms) (show a<ms.length by omega) (show b<ms.length by omega)
 unfold gh A3 HW tp un
 cases h:stay j ms a b with
 |true=>
  rw[h] at st
  simp only[gi,fG,EE,Nat.reduceAdd,Nat.reduceSub,Nat.reduceLeDiff,Nat.reduceLT,Nat.reduceEqDiff,Int.reduceLT,Int.reduceLE,Int.reduceAdd,Int.reduceSub,Int.reduceMul,Int.reduceMod,Int.reduceDiv,Int.reduceNeg,Int.reduceToNat,Int.reducePow,Int.reduceEq,st,jf ha,jf hb,jf (show a<ms.length by omega),qw,aJ (show a<ms.length by omega),aJ (show b<ms.length by omega),zn hj]
 |false=>
  rw[h] at st
  simp only[gi,fG,EE,Nat.reduceAdd,Nat.reduceSub,Nat.reduceLeDiff,Nat.reduceLT,Nat.reduceEqDiff,Int.reduceLT,Int.reduceLE,Int.reduceAdd,Int.reduceSub,Int.reduceMul,Int.reduceMod,Int.reduceDiv,Int.reduceNeg,Int.reduceToNat,Int.reducePow,Int.reduceEq,st,jf ha,jf hb,jf (show b<ms.length by omega),qw,aJ (show a<ms.length by omega),aJ (show b<ms.length by omega),zn hj,Bool.false_eq_true,if_false]
theorem Cc {j:Str}{ms:List Nat}{a b:Nat}:(HW j ms a b).length=ms.length:=by unfold HW;rw[List.length_set]
theorem BK {j:Str}{us ms:List Nat}{a b:Nat}:(A3 j us ms a b).length=us.length:=by unfold A3;rw[List.length_set]
theorem y9 {us:List Nat}(f:Frst us){j:Str}{ms:List Nat}{a b:Nat}(ha:a<us.length)(hb:b<us.length)(ea:up us a=a)(eb:up us b=b)(ne:a≠b):Frst (A3 j us ms a b):=by
 unfold A3 tp un
 cases stay j ms a b with
 |true=>exact mC f hb ha eb ea ne
 |false=>exact mC f ha hb ea eb ne.symm
inductive Deed where
 |find (x:Nat)|join (x y:Nat)
noncomputable def Deed.pv:Deed->PV
 |.find x=>.tup [.str "find",.int x]
 |.join x y=>.tup [.str "join",.int x,.int y]
noncomputable def Deed.ok (n:Nat):Deed->Prop
 |.find x=>x<n
 |.join x y=>x<n/\y<n
structure Sto (n:Nat)(us ms:List Nat):Prop where
 f:Frst us
 lu:us.length=n
 lm:ms.length=n
noncomputable def dU (j y:Str)(us ms:List Nat):Deed->List Nat
 |.find x=>eU y us x
 |.join x z=>if hd us x=hd us z then eU y (eU y us x) z else A3 j (eU y (eU y us x) z) ms (hd us x) (hd us z)
noncomputable def dM (j:Str)(us ms:List Nat):Deed->List Nat
 |.find _=>ms
 |.join x z=>if hd us x=hd us z then ms else HW j ms (hd us x) (hd us z)
noncomputable def dA (us:List Nat):Deed->PV
 |.find x=>.int (hd us x:Nat)
 |.join x z=>.bl (!decide (hd us x=hd us z))
noncomputable def dS (y:Str)(us:List Nat):Deed->Nat
 |.find x=>iy y us x
 |.join x z=>iy y us x+iy y (eU y us x) z
noncomputable def ip (j y:Str)(us ms:List Nat)(d:Deed):PV:=.tup [gh j y (dU j y us ms d) (dM j us ms d),dA us d,.int (dS y us d:Nat)]
theorem rg {us:List Nat}(f:Frst us){x:Nat}(hx:x<us.length){y:Str}(hy:y∈manners){t:Nat}(ht:t<us.length):hd (eU y us x) t=hd us t:=(zT f.fst hx hy ht).1
theorem ja {n:Nat}{us ms:List Nat}(S:Sto n us ms){j y:Str}(hy:y∈manners){d:Deed}(hd':d.ok n):Sto n (dU j y us ms d) (dM j us ms d):=by
 obtain⟨f,lu,lm⟩:=S
 cases d with
 |find x=>
  have hx:x<us.length:=by rw[lu];exact hd'
  exact⟨gT f hx hy,by show (eU y us x).length=n;rw[cu,lu],lm⟩
 |join x z=>
  have hx:x<us.length:=by rw[lu];exact hd'.1
  have hz:z<us.length:=by rw[lu];exact hd'.2
  have f1:=gT f hx hy
  have l1:=cu y us x
  have hz1:z<(eU y us x).length:=by omega
  have f2:=gT f1 hz1 hy
  have l2:=cu y (eU y us x) z
  show Sto n (if hd us x=hd us z then _ else _) (if hd us x=hd us z then _ else _)
  by_cases e:hd us x=hd us z
  ·rw[if_pos e,if_pos e];exact⟨f2,by omega,lm⟩
  ·rw[if_neg e,if_neg e]
   have hd2:∀t,t<us.length->hd (eU y (eU y us x) z) t=hd us t:=fun t ht=>by rw[rg f1 hz1 hy (by omega),rg f hx hy ht]
   have top:∀t,t<us.length->up (eU y (eU y us x) z) (hd us t)=hd us t:=fun t ht=>by
    have:=Ae f2.fst (show t<(eU y (eU y us x) z).length by omega)
    rwa [hd2 t ht] at this
   have a1:=j5 f.fst hx
   have a2:=j5 f.fst hz
   exact⟨y9 f2 (by omega) (by omega) (top x hx) (top z hz) e,by rw[BK];omega,by rw[Cc];exact lm⟩
theorem Cm {n:Nat}{us ms:List Nat}(S:Sto n us ms){j y:Str}(hj:j∈jws)(hy:y∈manners){x z:Nat}(hx':x<n)(hz':z<n):dk [gh j y us ms,.int x,.int z]=some (.v (ip j y us ms (.join x z))):=by
 obtain⟨f,lu,lm⟩:=S
 have hx:x<us.length:=by omega
 have hz:z<us.length:=by omega
 have f1:=gT f hx hy
 have l1:=cu y us x
 have hz1:z<(eU y us x).length:=by omega
 have l2:=cu y (eU y us x) z
 have e1:=qC f hy hx (ms:=ms) (j:=j)
 have e2:=qC f1 hy hz1 (ms:=ms) (j:=j)
 rw[rg f hx hy hz] at e2
 have a1:=j5 f.fst hx
 have a2:=j5 f.fst hz
 have d:decide ((hd us x:Int)=(hd us z:Int))=decide (hd us x=hd us z):=decide_eq_decide.mpr (by omega)
 by_cases e:hd us x=hd us z
 ·have r:ip j y us ms (.join x z)=.tup [gh j y (eU y (eU y us x) z) ms,.bl false,.int (iy y us x+iy y (eU y us x) z:Nat)]:=by
   unfold ip
   show PV.tup [gh j y (if hd us x=hd us z then _ else _) (if hd us x=hd us z then _ else _),.bl (!decide (hd us x=hd us z)),_]=_
   rw[if_pos e,if_pos e,decide_eq_true e];rfl
  rw[r]
  simp only[kC,js,EE,Nat.reduceAdd,Nat.reduceSub,Nat.reduceLeDiff,Nat.reduceLT,Nat.reduceEqDiff,Int.reduceLT,Int.reduceLE,Int.reduceAdd,Int.reduceSub,Int.reduceMul,Int.reduceMod,Int.reduceDiv,Int.reduceNeg,Int.reduceToNat,Int.reducePow,Int.reduceEq,e1,e2,d,decide_eq_true e]
  rfl
 ·have e3:=JV (y:=y) hj (us:=eU y (eU y us x) z) (ms:=ms) (a:=hd us x) (b:=hd us z) (by omega) (by omega) (by omega)
  have r:ip j y us ms (.join x z)=.tup [gh j y (A3 j (eU y (eU y us x) z) ms (hd us x) (hd us z)) (HW j ms (hd us x) (hd us z)),.bl true,.int (iy y us x+iy y (eU y us x) z:Nat)]:=by
   unfold ip
   show PV.tup [gh j y (if hd us x=hd us z then _ else _) (if hd us x=hd us z then _ else _),.bl (!decide (hd us x=hd us z)),_]=_
   rw[if_neg e,if_neg e,decide_eq_false e];rfl
  rw[r]
  simp only[kC,js,EE,Nat.reduceAdd,Nat.reduceSub,Nat.reduceLeDiff,Nat.reduceLT,Nat.reduceEqDiff,Int.reduceLT,Int.reduceLE,Int.reduceAdd,Int.reduceSub,Int.reduceMul,Int.reduceMod,Int.reduceDiv,Int.reduceNeg,Int.reduceToNat,Int.reducePow,Int.reduceEq,e1,e2,e3,d,decide_eq_false e]
  rfl
theorem DD:decide (("find" : Str) = "join")=false/\decide (("join" : Str) = "find")=false:=by decide
theorem wu {n:Nat}{us ms:List Nat}(S:Sto n us ms){j y:Str}(hj:j∈jws)(hy:y∈manners){d:Deed}(h:d.ok n):bS [gh j y us ms,d.pv]=some (.v (ip j y us ms d)):=by
 cases d with
 |find x=>
  have e:=qC S.f hy (show x<us.length by rw[S.lu];exact h) (ms:=ms) (j:=j)
  simp only[Deed.pv,ip,dU,dM,dA,dS]
  have a0:L2.atI [PV.str "find",.int (x:Int)] 0=some (.str "find"):=rfl
  have a1:L2.atI [PV.str "find",.int (x:Int)] 1=some (.int x):=rfl
  simp only[kK,jp,EE,Nat.reduceAdd,Nat.reduceSub,Nat.reduceLeDiff,Nat.reduceLT,Nat.reduceEqDiff,Int.reduceLT,Int.reduceLE,Int.reduceAdd,Int.reduceSub,Int.reduceMul,Int.reduceMod,Int.reduceDiv,Int.reduceNeg,Int.reduceToNat,Int.reducePow,Int.reduceEq,DD,a0,a1,e]
 |join x z=>
  have e:=Cm S hj hy h.1 h.2
  simp only[Deed.pv]
  have a0:L2.atI [PV.str "join",.int (x:Int),.int (z:Int)] 0=some (.str "join"):=rfl
  have a1:L2.atI [PV.str "join",.int (x:Int),.int (z:Int)] 1=some (.int x):=rfl
  have a2:L2.atI [PV.str "join",.int (x:Int),.int (z:Int)] 2=some (.int z):=rfl
  simp only[kK,jp,EE,Nat.reduceAdd,Nat.reduceSub,Nat.reduceLeDiff,Nat.reduceLT,Nat.reduceEqDiff,Int.reduceLT,Int.reduceLE,Int.reduceAdd,Int.reduceSub,Int.reduceMul,Int.reduceMod,Int.reduceDiv,Int.reduceNeg,Int.reduceToNat,Int.reducePow,Int.reduceEq,DD,a0,a1,a2,e]
theorem sx {n:Nat}{d:Deed}(h:d.ok n):bZ [.int n,d.pv]=some (.v (.bl true)):=by
 have tt:∀x:Nat,x<n->decide ((0:Int)≤(x:Int)/\(x:Int)<(n:Int))=true:=fun x hx=>decide_eq_true ⟨by omega,by omega⟩
 cases d with
 |find x=>
  have a0:L2.atI [PV.str "find",.int (x:Int)] 0=some (.str "find"):=rfl
  have c1:cut [PV.str "find",.int (x:Int)] (some 1) none=[.int (x:Int)]:=rfl
  have g1:iN [("find",2),("join",3)] "find" = some 2:=by decide +kernel
  have k2:((2:Nat):Int)=2:=rfl
  have k3:(HT.sIx 2 0 (some 1)=0/\HT.sIx 2 2 none=2)=False:=eq_false (by decide)
  have e:mH (gN 0) cr fR [none,some (.val (.int n))] [.int (x:Int)]=some [.bl true]:=rM (fun _=>.bl true) (its:=[.int (x:Int)]) fun p hp=>by
   rw[List.mem_singleton.mp hp]
   simp only[fQ,EE,Nat.reduceAdd,Nat.reduceSub,Nat.reduceLeDiff,Nat.reduceLT,Nat.reduceEqDiff,Int.reduceLT,Int.reduceLE,Int.reduceAdd,Int.reduceSub,Int.reduceMul,Int.reduceMod,Int.reduceDiv,Int.reduceNeg,Int.reduceToNat,Int.reducePow,Int.reduceEq,vX,tt x h]
  have b1:A6 [PV.bl true]=some [true]:=rfl
  have b2:[true].all id=true:=rfl
  simp only[Deed.pv]
  simp only[mR,kD,fQ,EE,Nat.reduceAdd,Nat.reduceSub,Nat.reduceLeDiff,Nat.reduceLT,Nat.reduceEqDiff,Int.reduceLT,Int.reduceLE,Int.reduceAdd,Int.reduceSub,Int.reduceMul,Int.reduceMod,Int.reduceDiv,Int.reduceNeg,Int.reduceToNat,Int.reducePow,Int.reduceEq,a0,ub,oY,g1,Option.elim_some,k2,k3,c1,e,b1,b2]
 |join x z=>
  have a0:L2.atI [PV.str "join",.int (x:Int),.int (z:Int)] 0=some (.str "join"):=rfl
  have c1:cut [PV.str "join",.int (x:Int),.int (z:Int)] (some 1) none=[.int (x:Int),.int (z:Int)]:=rfl
  have g1:iN [("find",2),("join",3)] "join" = some 3:=by decide +kernel
  have k2:((3:Nat):Int)=3:=rfl
  have k3:(HT.sIx 3 0 (some 1)=0/\HT.sIx 3 3 none=3)=False:=eq_false (by decide)
  have e:mH (gN 0) cr fR [none,some (.val (.int n))] [.int (x:Int),.int (z:Int)]=some [.bl true,.bl true]:=rM (fun _=>.bl true) (its:=[.int (x:Int),.int (z:Int)]) fun p hp=>by
   obtain⟨t,ht,rfl⟩:∃t:Nat,t<n/\p=.int (t:Int):=by
    rcases List.mem_cons.mp hp with rfl|hp
    ·exact⟨x,h.1,rfl⟩
    ·rw[List.mem_singleton.mp hp];exact⟨z,h.2,rfl⟩
   simp only[fQ,EE,Nat.reduceAdd,Nat.reduceSub,Nat.reduceLeDiff,Nat.reduceLT,Nat.reduceEqDiff,Int.reduceLT,Int.reduceLE,Int.reduceAdd,Int.reduceSub,Int.reduceMul,Int.reduceMod,Int.reduceDiv,Int.reduceNeg,Int.reduceToNat,Int.reducePow,Int.reduceEq,vX,tt t ht]
  have b1:A6 [PV.bl true,.bl true]=some [true,true]:=rfl
  have b2:[true,true].all id=true:=rfl
  simp only[Deed.pv]
  simp only[mR,kD,fQ,EE,Nat.reduceAdd,Nat.reduceSub,Nat.reduceLeDiff,Nat.reduceLT,Nat.reduceEqDiff,Int.reduceLT,Int.reduceLE,Int.reduceAdd,Int.reduceSub,Int.reduceMul,Int.reduceMod,Int.reduceDiv,Int.reduceNeg,Int.reduceToNat,Int.reducePow,Int.reduceEq,a0,ub,oY,g1,Option.elim_some,k2,k3,c1,e,b1,b2]
theorem u9 {n:Nat}{us ms:List Nat}(S:Sto n us ms){j y:Str}(hj:j∈jws)(hy:y∈manners){d:Deed}(h:d.ok n):gF [gh j y us ms,d.pv]=some (.v (ip j y us ms d)):=by
 have e1:=sx h
 rw[←S.lu] at e1
 have e2:=wu S hj hy h
 have a2:L2.atI [PV.str j,.str y,.tup (ak us),.tup (ak ms)] 2=some (.tup (ak us)):=rfl
 have e0:aH (gh j y us ms) (.int 2)=some (.fz (.tup (ak us))):=by unfold gh;rw[zq,a2];rfl
 simp only[zw,vQ,EE,Nat.reduceAdd,Nat.reduceSub,Nat.reduceLeDiff,Nat.reduceLT,Nat.reduceEqDiff,Int.reduceLT,Int.reduceLE,Int.reduceAdd,Int.reduceSub,Int.reduceMul,Int.reduceMod,Int.reduceDiv,Int.reduceNeg,Int.reduceToNat,Int.reducePow,Int.reduceEq,e0,e1,e2]
end Dp
end
section
namespace Dp
open PySem L2 Fo Pu
noncomputable def JA:FS:=(bd 7 (qL (au aD (aa (au aV (aa (fV 0) (aa (ah bV (ah bV (fV 1) (fC (.int 1))) (ah ji (fV 6) (fC (.int 5)))) ag))) (aa (fC (.int 20)) ag))) (rm (ah fN (fC (.int 4)) (ah aZ (fV 6) (fC (.int 5))))) rQ))
theorem K6 {ρ:ay}:JA ρ=(bd 7 (qL (au aD (aa (au aV (aa (fV 0) (aa (ah bV (ah bV (fV 1) (fC (.int 1))) (ah ji (fV 6) (fC (.int 5)))) ag))) (aa (fC (.int 20)) ag))) (rm (ah fN (fC (.int 4)) (ah aZ (fV 6) (fC (.int 5))))) rQ)) ρ:=Eq.trans rfl rfl
noncomputable def JB:FS:=(rY 8 9 (aa (ah aZ (ah aH (fV 7) (fC (.int 0))) (fV 2)) (aa (ah aZ (ah aH (fV 7) (fC (.int 1))) (fV 2)) ag)))
theorem KQ {ρ:ay}:JB ρ=(rY 8 9 (aa (ah aZ (ah aH (fV 7) (fC (.int 0))) (fV 2)) (aa (ah aZ (ah aH (fV 7) (fC (.int 1))) (fV 2)) ag))) ρ:=Eq.trans rfl rfl
noncomputable def Lv:FS:=(eT (fT (ah dQ (ah aZ (ah aH (fV 4) (fC (.int 1))) (fC (.int 4))) (fC (.int 1)))) (rY 8 9 (aa (ah aZ (fV 6) (fV 2)) (aa (ah aZ (ah bV (fV 6) (fC (.int 1))) (fV 2)) ag))) aK)
theorem EF {ρ:ay}:Lv ρ=(eT (fT (ah dQ (ah aZ (ah aH (fV 4) (fC (.int 1))) (fC (.int 4))) (fC (.int 1)))) (rY 8 9 (aa (ah aZ (fV 6) (fV 2)) (aa (ah aZ (ah bV (fV 6) (fC (.int 1))) (fV 2)) ag))) aK) ρ:=Eq.trans rfl rfl
noncomputable def L8:FS:=(eT (iD (fT (ah dQ (ah aZ (ah aH (fV 4) (fC (.int 1))) (fC (.int 4))) (fC (.int 2)))) (fT (ah uJ (ah aZ (ah aH (fV 7) (fC (.int 2))) (fC (.int 3))) (fC (.int 0))))) (al (bd 8 (ah aZ (ah fN (ah ji (fV 8) (fC (.int 2))) (fC (.int 2))) (fV 2))) (bd 9 (fB kH (aa (ah sS (fV 2) (fC (.int 1))) (aa (ah bV (fV 8) (fC (.int 1))) ag))))) aK)
theorem AS {ρ:ay}:L8 ρ=(eT (iD (fT (ah dQ (ah aZ (ah aH (fV 4) (fC (.int 1))) (fC (.int 4))) (fC (.int 2)))) (fT (ah uJ (ah aZ (ah aH (fV 7) (fC (.int 2))) (fC (.int 3))) (fC (.int 0))))) (al (bd 8 (ah aZ (ah fN (ah ji (fV 8) (fC (.int 2))) (fC (.int 2))) (fV 2))) (bd 9 (fB kH (aa (ah sS (fV 2) (fC (.int 1))) (aa (ah bV (fV 8) (fC (.int 1))) ag))))) aK) ρ:=Eq.trans rfl rfl
noncomputable def LC:FS:=(eT (iD (fT (ah gd (fV 5) (fe ag))) (fT (ah dQ (ah aZ (ah aH (fV 7) (fC (.int 2))) (fC (.int 7))) (fC (.int 1))))) (fO (ah aH (fV 5) (ah aZ (ah aH (fV 7) (fC (.int 3))) (fB eK (aa (fV 5) ag)))) (iY 2 (gC (gN 8) (gC (gN 9) g0)))) aK)
theorem zh {ρ:ay}:LC ρ=(eT (iD (fT (ah gd (fV 5) (fe ag))) (fT (ah dQ (ah aZ (ah aH (fV 7) (fC (.int 2))) (fC (.int 7))) (fC (.int 1))))) (fO (ah aH (fV 5) (ah aZ (ah aH (fV 7) (fC (.int 3))) (fB eK (aa (fV 5) ag)))) (iY 2 (gC (gN 8) (gC (gN 9) g0)))) aK) ρ:=Eq.trans rfl rfl
noncomputable def JD:FS:=(kw 5 (aa (ah aH (fe (aa (cw (aa (fV 8) (aa (fV 9) ag))) (aa (cw (aa (fV 9) (aa (fV 8) ag))) ag))) (ah aZ (ah ji (ah aH (fV 7) (fC (.int 2))) (fC (.int 7))) (fC (.int 2)))) ag))
theorem Iu {ρ:ay}:JD ρ=(kw 5 (aa (ah aH (fe (aa (cw (aa (fV 8) (aa (fV 9) ag))) (aa (cw (aa (fV 9) (aa (fV 8) ag))) ag))) (ah aZ (ah ji (ah aH (fV 7) (fC (.int 2))) (fC (.int 7))) (fC (.int 2)))) ag)) ρ:=Eq.trans rfl rfl
theorem LA {ρ:ay}:cC ρ=(al JA (al JB (al Lv (al L8 (al LC JD))))) ρ:=Eq.trans rfl rfl
noncomputable def nc (ps:List (Nat×Nat)):List PV:=ps.map fun p=>.tup [.int p.1,.int p.2]
theorem wf (ps:List (Nat×Nat)):(nc ps).length=ps.length:=List.length_map ..
theorem jj:∀ps:List (Nat×Nat),aL (nc ps)=true
 |[]=>by show aL []=true;rw[aL]
 |p::ps=>by
  show aL (.tup [.int p.1,.int p.2]::nc ps)=true
  rw[aL,jj ps];simp[Pu.plain,aL]
theorem uj:∀ps:List (Nat×Nat),cz (nc ps)≤1
 |[]=>by show cz []≤1;rw[cz];omega
 |p::ps=>by
  show cz (.tup [.int p.1,.int p.2]::nc ps)≤1
  have:=uj ps
  rw[cz];simp[kr,cz];omega
theorem lW (ps:List (Nat×Nat)):iQ (nc ps) []=ps.isEmpty:=by
 cases ps with
 |nil=>exact tu
 |cons p ps=>exact nP (by show (nc ps).length+1≠0;omega)
theorem sr {α:Type}(l:List α)(k:Nat):cut l (some (k:Int)) none=l.drop k:=by
 unfold cut
 rw[HT.sIx_nat,HT.sIx_none]
 by_cases h:k≤l.length
 ·rw[Nat.min_eq_left h,List.take_of_length_le (by rw[List.length_drop];omega)]
 ·rw[Nat.min_eq_right (by omega),List.drop_eq_nil_of_le (Nat.le_refl _),List.drop_eq_nil_of_le (by omega),List.take_nil]
section
variable {ns:List Int}{n:Nat}{hs ys:List Nat}{row:List (Nat×Nat)}{s3:Option Sl}{at' k:Nat}
noncomputable def JR (ns:List Int)(at' n:Nat)(s3:Option Sl)(hs:List Nat)(row:List (Nat×Nat))(k:Nat)(ys:List Nat)(x z:Nat):ay:=[some (.val (.src (iL ns))),some (.val (.int at')),some (.val (.int n)),s3,some (.val (.lst (ak hs))),some (.own (nc row)),some (.val (.int k)),some (.val (.lst (ak ys))),some (.val (.int x)),some (.val (.int z))]
theorem K5 (hn:1≤n)(hh:hs.length=4){x z:Nat}(hx:x<n)(hz:z<n):∃x' z',x'<n/\z'<n/\Lv (JR ns at' n s3 hs row k ys x z)=.nx (JR ns at' n s3 hs row k ys x' z'):=by
 have i1:L2.atI (ak hs) 1=some (.int (up hs 1:Nat)):=aJ (x:=1) (by omega)
 have pn:(0:Int)<(n:Int):=by omega
 unfold JR
 by_cases q:(up hs 1:Int) % 4=1
 ·refine⟨k % n,(k+1) % n,Nat.mod_lt _ (by omega),Nat.mod_lt _ (by omega),?_⟩
  simp only[EF,EE,Nat.reduceAdd,Nat.reduceSub,Nat.reduceLeDiff,Nat.reduceLT,Nat.reduceEqDiff,Int.reduceLT,Int.reduceLE,Int.reduceAdd,Int.reduceSub,Int.reduceMul,Int.reduceMod,Int.reduceDiv,Int.reduceNeg,Int.reduceToNat,Int.reducePow,Int.reduceEq,i1,decide_eq_true q,pn]
  rfl
 ·exact⟨x,z,hx,hz,by simp only[EF,EE,Nat.reduceAdd,Nat.reduceSub,Nat.reduceLeDiff,Nat.reduceLT,Nat.reduceEqDiff,Int.reduceLT,Int.reduceLE,Int.reduceAdd,Int.reduceSub,Int.reduceMul,Int.reduceMod,Int.reduceDiv,Int.reduceNeg,Int.reduceToNat,Int.reducePow,Int.reduceEq,i1,decide_eq_false q]⟩
theorem KT (hn:1≤n)(hn2:n≤40)(hh:hs.length=4)(hy:4≤ys.length){x z:Nat}(hx:x<n)(hz:z<n):∃x' z',x'<n/\z'<n/\L8 (JR ns at' n s3 hs row k ys x z)=.nx (JR ns at' n s3 hs row k ys x' z'):=by
 have i1:L2.atI (ak hs) 1=some (.int (up hs 1:Nat)):=aJ (x:=1) (by omega)
 have i2:L2.atI (ak ys) 2=some (.int (up ys 2:Nat)):=aJ (x:=2) (by omega)
 have pn:(0:Int)<(n:Int):=by omega
 unfold JR
 by_cases q:(up hs 1:Int) % 4=2
 ·by_cases q2:(0:Int)<(up ys 2:Int) % 3
  ·have e1:(x:Int) / 2 * 2 % (n:Int)=((x / 2 * 2 % n:Nat):Int):=by push_cast;rfl
   have em:(if ((x / 2 * 2 % n:Nat):Int)+1<(n:Int) - 1 then ((x / 2 * 2 % n:Nat):Int)+1 else (n:Int) - 1)=((min (n - 1) (x / 2 * 2 % n+1):Nat):Int):=by split<;>omega
   refine⟨x / 2 * 2 % n,min (n - 1) (x / 2 * 2 % n+1),Nat.mod_lt _ (by omega),by omega,?_⟩
   have ml:(((x:Int) / 2).natAbs<2 ^ 64\/(2:Int).natAbs<2 ^ 64):=.inr (by decide)
   simp only[AS,EE,Nat.reduceAdd,Nat.reduceSub,Nat.reduceLeDiff,Nat.reduceLT,Nat.reduceEqDiff,Int.reduceLT,Int.reduceLE,Int.reduceAdd,Int.reduceSub,Int.reduceMul,Int.reduceMod,Int.reduceDiv,Int.reduceNeg,Int.reduceToNat,Int.reducePow,Int.reduceEq,i1,i2,decide_eq_true q,decide_eq_true q2,pn,ml,e1,em]
  ·exact⟨x,z,hx,hz,by simp only[AS,EE,Nat.reduceAdd,Nat.reduceSub,Nat.reduceLeDiff,Nat.reduceLT,Nat.reduceEqDiff,Int.reduceLT,Int.reduceLE,Int.reduceAdd,Int.reduceSub,Int.reduceMul,Int.reduceMod,Int.reduceDiv,Int.reduceNeg,Int.reduceToNat,Int.reducePow,Int.reduceEq,i1,i2,decide_eq_true q,decide_eq_false q2]⟩
 ·exact⟨x,z,hx,hz,by simp only[AS,EE,Nat.reduceAdd,Nat.reduceSub,Nat.reduceLeDiff,Nat.reduceLT,Nat.reduceEqDiff,Int.reduceLT,Int.reduceLE,Int.reduceAdd,Int.reduceSub,Int.reduceMul,Int.reduceMod,Int.reduceDiv,Int.reduceNeg,Int.reduceToNat,Int.reducePow,Int.reduceEq,i1,decide_eq_false q]⟩
theorem Lg (hy:4≤ys.length)(hr:∀p∈row,p.1<n/\p.2<n){x z:Nat}(hx:x<n)(hz:z<n):∃x' z',x'<n/\z'<n/\LC (JR ns at' n s3 hs row k ys x z)=.nx (JR ns at' n s3 hs row k ys x' z'):=by
 have i2:L2.atI (ak ys) 2=some (.int (up ys 2:Nat)):=aJ (x:=2) (by omega)
 have i3:L2.atI (ak ys) 3=some (.int (up ys 3:Nat)):=aJ (x:=3) (by omega)
 have dd:decide (cz (nc row)≤49)=true:=decide_eq_true (by have:=uj row;omega)
 have p0:aL []=true:=by rw[aL]
 unfold JR
 by_cases h0:row=[]
 ·subst h0;exact⟨x,z,hx,hz,by simp only[zh,EE,Nat.reduceAdd,Nat.reduceSub,Nat.reduceLeDiff,Nat.reduceLT,Nat.reduceEqDiff,Int.reduceLT,Int.reduceLE,Int.reduceAdd,Int.reduceSub,Int.reduceMul,Int.reduceMod,Int.reduceDiv,Int.reduceNeg,Int.reduceToNat,Int.reducePow,Int.reduceEq,jj,p0,dd,lW,List.isEmpty_nil]⟩
 ·have ie:row.isEmpty=false:=by cases row with
   |nil=>exact absurd rfl h0
   |cons=>rfl
  have pos:0<row.length:=List.length_pos_iff.mpr h0
  by_cases q:(up ys 2:Int) % 7=1
  ·have hl:up ys 3 % row.length<row.length:=Nat.mod_lt _ pos
   have pl:(0:Int)<(row.length:Int):=by omega
   have ea:L2.atI (nc row) ((up ys 3:Int) % (row.length:Int))=some (.tup [.int (row[up ys 3 % row.length]).1,.int (row[up ys 3 % row.length]).2]):=by
    rw[show (up ys 3:Int) % (row.length:Int)=((up ys 3 % row.length:Nat):Int) from rfl]
    refine L2.eL ?_
    unfold nc
    rw[List.getElem?_map,List.getElem?_eq_getElem hl];rfl
   have hm:=hr _ (List.getElem_mem hl)
   refine⟨_,_,hm.1,hm.2,?_⟩
   simp only[zh,EE,Nat.reduceAdd,Nat.reduceSub,Nat.reduceLeDiff,Nat.reduceLT,Nat.reduceEqDiff,Int.reduceLT,Int.reduceLE,Int.reduceAdd,Int.reduceSub,Int.reduceMul,Int.reduceMod,Int.reduceDiv,Int.reduceNeg,Int.reduceToNat,Int.reducePow,Int.reduceEq,jj,p0,dd,lW,ie,i2,i3,decide_eq_true q,wf,pl,ea]
  ·exact⟨x,z,hx,hz,by simp only[zh,EE,Nat.reduceAdd,Nat.reduceSub,Nat.reduceLeDiff,Nat.reduceLT,Nat.reduceEqDiff,Int.reduceLT,Int.reduceLE,Int.reduceAdd,Int.reduceSub,Int.reduceMul,Int.reduceMod,Int.reduceDiv,Int.reduceNeg,Int.reduceToNat,Int.reducePow,Int.reduceEq,jj,p0,dd,lW,ie,i2,decide_eq_false q]⟩
theorem Nc (hy:4≤ys.length)(hl:row.length≤1000){x z:Nat}:∃p,(p=(x,z)\/p=(z,x))/\JD (JR ns at' n s3 hs row k ys x z)=.nx (JR ns at' n s3 hs (row++[p]) k ys x z):=by
 have i2:L2.atI (ak ys) 2=some (.int (up ys 2:Nat)):=aJ (x:=2) (by omega)
 have l1:(nc row).length≤100000:=by rw[wf];omega
 have ea:∀p:Nat×Nat,nc row++[.tup [.int p.1,.int p.2]]=nc (row++[p]):=fun p=>by unfold nc;rw[List.map_append];rfl
 unfold JR
 by_cases q:(up ys 2:Int) / 7 % 2=0
 ·refine⟨(x,z),.inl rfl,?_⟩
  have e0:∀a b:PV,L2.atI [a,b] 0=some a:=fun a b=>rfl
  rw[←ea]
  simp only[Iu,EE,Nat.reduceAdd,Nat.reduceSub,Nat.reduceLeDiff,Nat.reduceLT,Nat.reduceEqDiff,Int.reduceLT,Int.reduceLE,Int.reduceAdd,Int.reduceSub,Int.reduceMul,Int.reduceMod,Int.reduceDiv,Int.reduceNeg,Int.reduceToNat,Int.reducePow,Int.reduceEq,i2,q,e0,l1]
 ·have q:(up ys 2:Int) / 7 % 2=1:=by omega
  refine⟨(z,x),.inr rfl,?_⟩
  have e0:∀a b:PV,L2.atI [a,b] 1=some b:=fun a b=>rfl
  rw[←ea]
  simp only[Iu,EE,Nat.reduceAdd,Nat.reduceSub,Nat.reduceLeDiff,Nat.reduceLT,Nat.reduceEqDiff,Int.reduceLT,Int.reduceLE,Int.reduceAdd,Int.reduceSub,Int.reduceMul,Int.reduceMod,Int.reduceDiv,Int.reduceNeg,Int.reduceToNat,Int.reducePow,Int.reduceEq,i2,q,e0,l1]
theorem G5 (hn:1≤n)(hn2:n≤40)(hh:hs.length=4)(hat:at'≤500)(hk:k≤500)(hl:row.length≤1000)(hr:∀p∈row,p.1<n/\p.2<n){z7 z8 z9:Option Sl}:∃p w7 w8 w9,(p.1<n/\p.2<n) ∧
  cC [some (.val (.src (iL ns))),some (.val (.int at')),some (.val (.int n)),s3,some (.val (.lst (ak hs))),some (.own (nc row)),some (.val (.int k)),z7,z8,z9] =
   .nx [some (.val (.src (iL ns))),some (.val (.int at')),some (.val (.int n)),s3,some (.val (.lst (ak hs))),some (.own (nc (row++[p]))),some (.val (.int k)),w7,w8,w9]:=by
 obtain⟨c,ec⟩:=r6 ns ((at':Int)+1+(k:Int) / 5) (by omega) (by omega)
 obtain⟨xs,hx,ex⟩:=ki c 20 (by decide) (by decide)
 have hx:xs.length=20:=hx
 have e4:(4:Int) * ((k:Int) % 5)=((4 * (k % 5):Nat):Int):=by omega
 have ec':cut (ak xs) (some ((4 * (k % 5):Nat):Int)) none=ak (xs.drop (4 * (k % 5))):=by rw[sJ,sr]
 generalize hys:xs.drop (4 * (k % 5))=ys at ec'
 have hy:4≤ys.length:=by rw[←hys,List.length_drop];omega
 have ml:((4:Int).natAbs<2 ^ 64\/((k:Int) % 5).natAbs<2 ^ 64):=.inl (by decide)
 have pn:(0:Int)<(n:Int):=by omega
 have i0:L2.atI (ak ys) 0=some (.int (up ys 0:Nat)):=aJ (x:=0) (by omega)
 have i1:L2.atI (ak ys) 1=some (.int (up ys 1:Nat)):=aJ (x:=1) (by omega)
 have m0:(up ys 0:Int) % (n:Int)=((up ys 0 % n:Nat):Int):=rfl
 have m1:(up ys 1:Int) % (n:Int)=((up ys 1 % n:Nat):Int):=rfl
 obtain⟨x1,z1,a1,b1,e1⟩:=K5 (ns:=ns) (at':=at') (s3:=s3) (row:=row) (k:=k) (ys:=ys) hn hh (Nat.mod_lt (up ys 0) (by omega)) (Nat.mod_lt (up ys 1) (by omega))
 obtain⟨x2,z2,a2,b2,e2⟩:=KT (ns:=ns) (at':=at') (s3:=s3) (row:=row) (k:=k) (ys:=ys) hn hn2 hh hy a1 b1
 obtain⟨x3,z3,a3,b3,e3⟩:=Lg (ns:=ns) (at':=at') (s3:=s3) (hs:=hs) (k:=k) (ys:=ys) hy hr a2 b2
 obtain⟨p,hp,e5⟩:=Nc (ns:=ns) (n:=n) (at':=at') (s3:=s3) (hs:=hs) (row:=row) (k:=k) (ys:=ys) (x:=x3) (z:=z3) hy hl
 refine⟨p,some (.val (.lst (ak ys))),some (.val (.int x3)),some (.val (.int z3)),by rcases hp with rfl|rfl<;>exact⟨by assumption,by assumption⟩,?_⟩
 unfold JR at e1 e2 e3 e5
 simp only[LA,K6,KQ,EE,Nat.reduceAdd,Nat.reduceSub,Nat.reduceLeDiff,Nat.reduceLT,Nat.reduceEqDiff,Int.reduceLT,Int.reduceLE,Int.reduceAdd,Int.reduceSub,Int.reduceMul,Int.reduceMod,Int.reduceDiv,Int.reduceNeg,Int.reduceToNat,Int.reducePow,Int.reduceEq,ec,ex,ml,e4,ec',i0,i1,pn,m0,m1,e1,e2,e3,e5]
theorem y3 (hn:1≤n)(hn2:n≤40)(hh:hs.length=4)(hat:at'≤500):∀(ks:List Nat) (row:List (Nat×Nat)) (z6 z7 z8 z9:Option Sl),(∀k∈ks,k≤500)->row.length+ks.length≤1000->(∀p∈row,p.1<n/\p.2<n) →
  ∃row' w6 w7 w8 w9,(∀p∈row',p.1<n/\p.2<n)/\row'.length=row.length+ks.length/\cR (gN 6) cC (ak ks) [some (.val (.src (iL ns))),some (.val (.int at')),some (.val (.int n)),s3,some (.val (.lst (ak hs))),some (.own (nc row)),z6,z7,z8,z9] =
   .nx [some (.val (.src (iL ns))),some (.val (.int at')),some (.val (.int n)),s3,some (.val (.lst (ak hs))),some (.own (nc row')),w6,w7,w8,w9]
 |[],row,z6,z7,z8,z9,_,_,hr=>⟨row,z6,z7,z8,z9,hr,rfl,rfl⟩
 |k::ks,row,z6,z7,z8,z9,hk,hl,hr=>by
  rw[List.length_cons] at hl
  obtain⟨p,w7,w8,w9,hp,e⟩:=G5 (ns:=ns) (s3:=s3) hn hn2 hh hat (hk k List.mem_cons_self) (by omega) hr (z7:=z7) (z8:=z8) (z9:=z9)
  obtain⟨row',v6,v7,v8,v9,h1,h2,e'⟩:=y3 hn hn2 hh hat ks (row++[p]) (some (.val (.int k))) w7 w8 w9 (fun q hq=>hk q (List.mem_cons_of_mem _ hq)) (by rw[List.length_append,List.length_singleton];omega) (fun q hq=>by
   rcases List.mem_append.mp hq with hq|hq
   ·exact hr q hq
   ·rw[List.mem_singleton.mp hq];exact hp)
  refine⟨row',v6,v7,v8,v9,h1,by rw[h2,List.length_append,List.length_singleton,List.length_cons];omega,?_⟩
  rw[←e',ia,hU]
  simp only[EE,Nat.reduceAdd,Nat.reduceSub,Nat.reduceLeDiff,Nat.reduceLT,Nat.reduceEqDiff,Int.reduceLT,Int.reduceLE,Int.reduceAdd,Int.reduceSub,Int.reduceMul,Int.reduceMod,Int.reduceDiv,Int.reduceNeg,Int.reduceToNat,Int.reducePow,Int.reduceEq,e]
theorem yC (ns:List Int){at' n m:Nat}(hn:1≤n)(hn2:n≤40)(hat:at'≤500)(hm:m≤60):∃row:List (Nat×Nat),(∀p∈row,p.1<n/\p.2<n)/\row.length≤m/\cF [.src (iL ns),.int at',.int n,.int m]=some (.v (.tup (nc row))):=by
 obtain⟨c,ec⟩:=r6 ns (at':Int) (by omega) (by omega)
 obtain⟨hs,hh,eh⟩:=ki c 4 (by decide) (by decide)
 have hh:hs.length=4:=hh
 have i0:L2.atI (ak hs) 0=some (.int (up hs 0:Nat)):=aJ (x:=0) (by omega)
 have pm:(0:Int)<(m:Int)+1:=by omega
 have em:(up hs 0:Int) % ((m:Int)+1)=((up hs 0 % (m+1):Nat):Int):=rfl
 have lt:up hs 0 % (m+1)<m+1:=Nat.mod_lt _ (by omega)
 generalize up hs 0 % (m+1)=q at *
 obtain⟨row,w6,w7,w8,w9,h1,h2,e⟩:=y3 (ns:=ns) (s3:=some (.val (.int m))) hn hn2 hh hat (List.range q) [] none none none none (fun k hk=>by have:=List.mem_range.mp hk;omega) (by rw[List.length_range];simp;omega) (fun p hp=>by cases hp)
 rw[List.length_range] at h2
 simp only[List.length_nil] at h2
 have e:cR (gN 6) cC (ak (List.range q)) [some (.val (.src (iL ns))),some (.val (.int at')),some (.val (.int n)),some (.val (.int m)),some (.val (.lst (ak hs))),some (.own []),none,none,none,none]=_:=e
 exact⟨row,h1,by omega,by simp only[oO,lZ,EE,Nat.reduceAdd,Nat.reduceSub,Nat.reduceLeDiff,Nat.reduceLT,Nat.reduceEqDiff,Int.reduceLT,Int.reduceLE,Int.reduceAdd,Int.reduceSub,Int.reduceMul,Int.reduceMod,Int.reduceDiv,Int.reduceNeg,Int.reduceToNat,Int.reducePow,Int.reduceEq,ec,eh,i0,pm,em,K1 (show q≤100000 by omega),e]⟩
end
noncomputable def Ar (ps:List PV):Option (List PV):=match ps with
 |[p]=>(tR p).map (eZ 0)
 |_=>none
theorem wr {fs:FA}{ρ:ay}:kP fs ρ=(fs ρ).bind fun rs=>(rs.mapM RV.fr).bind Ar:=by
 unfold kP
 rfl
theorem qp {ps:List PV}:Ar [.tup ps]=some (eZ 0 ps):=Eq.trans rfl rfl
theorem G3 {ns:List Int}{at' n k:Nat}{s3:Option Sl}{ds:List Deed}{x z:Nat}(hx:x<n)(hz:z<n)(hat:at'≤500)(hk:k≤500)(hl:ds.length≤1000){z8:Option Sl}:∃d w8,Deed.ok n d ∧
  cB [some (.val (.src (iL ns))),some (.val (.int at')),some (.val (.int n)),s3,some (.own (ds.map Deed.pv)),some (.val (.int k)),some (.val (.int x)),some (.val (.int z)),z8] =
   .nx [some (.val (.src (iL ns))),some (.val (.int at')),some (.val (.int n)),s3,some (.own ((ds++[d]).map Deed.pv)),some (.val (.int k)),some (.val (.int x)),some (.val (.int z)),w8]:=by
 obtain⟨c,ec⟩:=r6 ns ((at':Int)+20+(k:Int) / 10) (by omega) (by omega)
 obtain⟨xs,hxs,ex⟩:=ki c 10 (by decide) (by decide)
 have hxs:xs.length=10:=hxs
 have ik:L2.atI (ak xs) ((k:Int) % 10)=some (.int (up xs (k % 10):Nat)):=aJ (x:=k % 10) (by omega)
 have l1:(ds.map Deed.pv).length≤100000:=by rw[List.length_map];omega
 have ea:∀d,ds.map Deed.pv++[d.pv]=(ds++[d]).map Deed.pv:=fun d=>by rw[List.map_append];rfl
 have h3:up xs (k % 10) % 3<3:=Nat.mod_lt _ (by decide)
 have e3:(up xs (k % 10):Int) % 3=((up xs (k % 10) % 3:Nat):Int):=rfl
 generalize up xs (k % 10) % 3=q at *
 have c3:q=0\/q=1\/q=2:=by omega
 have f0:∀a b c:PV,L2.atI [a,b,c] ((0:Nat):Int)=some a:=fun a b c=>rfl
 have f1:∀a b c:PV,L2.atI [a,b,c] ((1:Nat):Int)=some b:=fun a b c=>rfl
 have f2:∀a b c:PV,L2.atI [a,b,c] ((2:Nat):Int)=some c:=fun a b c=>rfl
 have l1:ds.length≤100000:=by omega
 rcases c3 with rfl|rfl|rfl
 ·refine⟨.join x z,some (.val (.lst (ak xs))),⟨hx,hz⟩,?_⟩
  rw[←ea]
  simp only[fS,EE,Nat.reduceAdd,Nat.reduceSub,Nat.reduceLeDiff,Nat.reduceLT,Nat.reduceEqDiff,Int.reduceLT,Int.reduceLE,Int.reduceAdd,Int.reduceSub,Int.reduceMul,Int.reduceMod,Int.reduceDiv,Int.reduceNeg,Int.reduceToNat,Int.reducePow,Int.reduceEq,ec,ex,ik,e3,f0,List.length_map,l1,Deed.pv]
 ·refine⟨.join x z,some (.val (.lst (ak xs))),⟨hx,hz⟩,?_⟩
  rw[←ea]
  simp only[fS,EE,Nat.reduceAdd,Nat.reduceSub,Nat.reduceLeDiff,Nat.reduceLT,Nat.reduceEqDiff,Int.reduceLT,Int.reduceLE,Int.reduceAdd,Int.reduceSub,Int.reduceMul,Int.reduceMod,Int.reduceDiv,Int.reduceNeg,Int.reduceToNat,Int.reducePow,Int.reduceEq,ec,ex,ik,e3,f1,List.length_map,l1,Deed.pv]
 ·refine⟨.find x,some (.val (.lst (ak xs))),hx,?_⟩
  rw[←ea]
  simp only[fS,EE,Nat.reduceAdd,Nat.reduceSub,Nat.reduceLeDiff,Nat.reduceLT,Nat.reduceEqDiff,Int.reduceLT,Int.reduceLE,Int.reduceAdd,Int.reduceSub,Int.reduceMul,Int.reduceMod,Int.reduceDiv,Int.reduceNeg,Int.reduceToNat,Int.reducePow,Int.reduceEq,ec,ex,ik,e3,f2,List.length_map,l1,Deed.pv]
theorem zj {ns:List Int}{at' n:Nat}{s3:Option Sl}(hat:at'≤500):∀(row:List (Nat×Nat)) (k:Nat) (ds:List Deed) (z5 z6 z7 z8:Option Sl),(∀p∈row,p.1<n/\p.2<n)->k+row.length≤500->ds.length+row.length≤1000->(∀d∈ds,Deed.ok n d) →
  ∃(ds':List Deed) (w5 w6 w7 w8:Option Sl),(∀d∈ds',Deed.ok n d)/\ds'.length=ds.length+row.length/\cR (iY 2 (gC (gN 5) (gC (iY 2 (gC (gN 6) (gC (gN 7) g0))) g0))) cB (eZ k (nc row)) [some (.val (.src (iL ns))),some (.val (.int at')),some (.val (.int n)),s3,some (.own (ds.map Deed.pv)),z5,z6,z7,z8] =
   .nx [some (.val (.src (iL ns))),some (.val (.int at')),some (.val (.int n)),s3,some (.own (ds'.map Deed.pv)),w5,w6,w7,w8]
 |[],k,ds,z5,z6,z7,z8,_,_,_,hd=>⟨ds,z5,z6,z7,z8,hd,rfl,rfl⟩
 |(x,z)::row,k,ds,z5,z6,z7,z8,hr,hk,hl,hd=>by
  rw[List.length_cons] at hk hl
  have hx:x<n:=(hr (x,z) List.mem_cons_self).1
  have hz:z<n:=(hr (x,z) List.mem_cons_self).2
  obtain⟨d,w8,hd1,e⟩:=G3 (ns:=ns) (at':=at') (s3:=s3) (ds:=ds) (k:=k) hx hz hat (by omega) (by omega) (z8:=z8)
  obtain⟨ds',v5,v6,v7,v8,h1,h2,e'⟩:=zj (ns:=ns) (s3:=s3) hat row (k+1) (ds++[d]) (some (.val (.int k))) (some (.val (.int x))) (some (.val (.int z))) w8 (fun p hp=>hr p (List.mem_cons_of_mem _ hp)) (by omega) (by rw[List.length_append,List.length_singleton];omega) (fun q hq=>by
   rcases List.mem_append.mp hq with hq|hq
   ·exact hd q hq
   ·rw[List.mem_singleton.mp hq];exact hd1)
  refine⟨ds',v5,v6,v7,v8,h1,by rw[h2,List.length_append,List.length_singleton,List.length_cons];omega,?_⟩
  rw[←e',show eZ k (nc ((x,z)::row))=.tup [.int k,.tup [.int x,.int z]]::eZ (k+1) (nc row) from rfl,hU]
  simp only[EE,Nat.reduceAdd,Nat.reduceSub,Nat.reduceLeDiff,Nat.reduceLT,Nat.reduceEqDiff,Int.reduceLT,Int.reduceLE,Int.reduceAdd,Int.reduceSub,Int.reduceMul,Int.reduceMod,Int.reduceDiv,Int.reduceNeg,Int.reduceToNat,Int.reducePow,Int.reduceEq,e]
theorem zt (ns:List Int){at' n m:Nat}(hn:1≤n)(hn2:n≤40)(hat:at'≤500)(hm:m≤60):∃ds:List Deed,(∀d∈ds,Deed.ok n d)/\ds.length≤m/\ca [.src (iL ns),.int at',.int n,.int m]=some (.v (.tup (ds.map Deed.pv))):=by
 obtain⟨row,h1,h2,e⟩:=yC ns hn hn2 hat hm
 obtain⟨ds,w5,w6,w7,w8,h3,h4,e'⟩:=zj (ns:=ns) (s3:=some (.val (.int m))) hat row 0 [] none none none none h1 (by omega) (by simp;omega) (fun d hd=>by cases hd)
 simp only[List.length_nil] at h4
 have e':cR (iY 2 (gC (gN 5) (gC (iY 2 (gC (gN 6) (gC (gN 7) g0))) g0))) cB (eZ 0 (nc row)) [some (.val (.src (iL ns))),some (.val (.int at')),some (.val (.int n)),some (.val (.int m)),some (.own []),none,none,none,none]=_:=e'
 exact⟨ds,h3,by omega,by simp only[oE,mw,EE,Nat.reduceAdd,Nat.reduceSub,Nat.reduceLeDiff,Nat.reduceLT,Nat.reduceEqDiff,Int.reduceLT,Int.reduceLE,Int.reduceAdd,Int.reduceSub,Int.reduceMul,Int.reduceMod,Int.reduceDiv,Int.reduceNeg,Int.reduceToNat,Int.reducePow,Int.reduceEq,e,wr,qp,e']⟩
theorem wc (l:List Str){i:Nat}(h:i<l.length):L2.atI (l.map PV.str) (i:Int)=some (.str l[i]):=by
 refine L2.eL ?_
 rw[List.getElem?_map,List.getElem?_eq_getElem h];rfl
end Dp
end
section
namespace Dp
open PySem L2 Fo Pu
theorem Cg {t:my}{i:Nat}{fs:FA}{ρ:ay}:oI t i fs ρ=qN t (sl ρ i) ((fs ρ).bind fun rs=>rs.mapM RV.fr):=Eq.trans rfl rfl
theorem yb {t:my}{a:Addr}{ps:List PV}:qN t (some (.val (.fn a))) (some ps)=(look t a).bind fun F=>(F ps).map pP:=Eq.trans rfl rfl
noncomputable def Nt (num:Nat)(us us':List Nat)(acc:List (Option Nat))(k:Nat):List (Option Nat):=if up us' k=up us k then acc else acc.set k (some num)
noncomputable def MC (num:Nat)(us us':List Nat)(ks:List Nat)(acc:List (Option Nat)):List (Option Nat):=ks.foldl (Nt num us us') acc
noncomputable def tU (us ms:List Nat)(p:Nat×Nat):List Nat:=dU "size" "none" us ms (.join p.1 p.2)
noncomputable def tM (us ms:List Nat)(p:Nat×Nat):List Nat:=dM "size" us ms (.join p.1 p.2)
noncomputable def rT:List (Nat×Nat)->Nat->List Nat->List Nat->List (Option Nat)->List Nat×List Nat×List (Option Nat)
 |[],_,us,ms,ts=>(us,ms,ts)
 |p::r,k,us,ms,ts=>rT r (k+1) (tU us ms p) (tM us ms p) (MC k us (tU us ms p) (List.range us.length) ts)
theorem tV (j y:Str)(us ms:List Nat):aH (gh j y us ms) (.int 2)=some (.fz (.tup (ak us))):=rfl
noncomputable def rU (n:Nat)(row:List (Nat×Nat)):List Nat:=(rT row 0 (List.range n) (List.replicate n (pW "size")) (List.replicate n none)).1
end Dp
end
section
namespace Dp
open PySem L2 Fo Pu
theorem yO {us:List Nat}(f:Fst us){x t:Nat}(hx:x<us.length)(h:t∈way us x):∀z∈way us t,z∈way us x:=fun z hz=>by
 obtain⟨l2,w2,_,_,h2⟩:=(bN f hx).later t h
 rw[eG f (eF f hx h) w2] at hz
 exact h2 z hz
theorem EA {us us':List Nat}(s:Shorter us us')(f:Fst us){x:Nat}(hx:x<us.length):up us' x∈way us x:=by
 rcases s.up x hx with ⟨_,e2⟩|⟨n,l,w,h⟩
 ·rw[e2];exact (bN f hx).mem_self
 ·rw[iV f hx n,eG f (f.bnd x hx) w];exact List.mem_cons_of_mem _ h
theorem Fv {us us':List Nat}(s:Shorter us us')(f:Fst us){x:Nat}(hx:x<us.length):∀t∈way us' x,t∈way us x:=by
 have f':=s.fst f
 have main:∀{x:Nat} {l:List Nat},Way us' x l->x<us.length->∀t∈l,t∈way us x:=fun {x l} w=>by
  induction w with
  | @head x e=>intro hx t ht;rw[List.mem_singleton] at ht;subst ht;exact (bN f hx).mem_self
  | @step x l n w ih=>
   intro hx t ht
   rcases List.mem_cons.mp ht with rfl|ht
   ·exact (bN f hx).mem_self
   ·have m:=EA s f hx
    exact yO f hx m t (ih (eF f hx m) t ht)
 exact main (bN f' (by rw[s.len];exact hx)) hx
theorem nJ {us us' us'':List Nat}(s:Shorter us us')(s':Shorter us' us'')(f:Fst us):Shorter us us'':=by
 have f':=s.fst f
 refine⟨by rw[s'.len,s.len],fun t ht=>?_⟩
 have ht':t<us'.length:=by rw[s.len];exact ht
 rcases s.up t ht with ⟨e1,e2⟩|⟨n,l,w,h⟩
 ·rcases s'.up t ht' with ⟨_,e3⟩|⟨n',_⟩
  ·exact .inl ⟨e1,e3⟩
  ·exact absurd e2 n'
 ·refine .inr ⟨n,l,w,?_⟩
  have el:=eG f (f.bnd t ht) w
  rcases s'.up t ht' with ⟨e2,_⟩|⟨n',l',w',h'⟩
  ·rw[e2] at h
   have nd:=(Way.step n w).nodup f ht
   exact absurd h (List.nodup_cons.mp nd).1
  ·rw[←el] at h ⊢
   have b:=eF f (f.bnd t ht) h
   rw[←eG f' (f'.bnd t ht') w'] at h'
   exact yO f (f.bnd t ht) h _ (Fv s f b _ h')
theorem rK {us:List Nat}(f:Frst us){x:Nat}(hx:x<us.length){y:Str}(hy:y∈manners):Shorter us (eU y us x):=by
 obtain⟨l,L⟩:=(vE f.fst hx hy).left f.fst hx
 exact L.sh
theorem vZ {us us':List Nat}(s:Shorter us us')(f:Frst us){u t:Nat}(hu:u<us.length)(ht:t<us.length)(eu:up us u=u)(et:up us t=t)(ne:t≠u):Shorter (us.set u t) (us'.set u t):=by
 have F:=mC f hu ht eu et ne
 have ls:(us.set u t).length=us.length:=List.length_set
 have hu':u<us'.length:=by rw[s.len];exact hu
 refine⟨by rw[List.length_set,List.length_set,s.len],fun x hx=>?_⟩
 rw[ls] at hx
 by_cases q:x=u
 ·subst q
  refine .inr ⟨by rw[bv hu,if_pos rfl];exact ne,[t],?_,?_⟩
  ·rw[bv hu,if_pos rfl];exact .head (by rw[bv hu,if_neg ne];exact et)
  ·rw[bv hu',if_pos rfl];exact List.mem_singleton.mpr rfl
 ·rw[bv hu,if_neg q,bv hu',if_neg q]
  rcases s.up x hx with ⟨e1,e2⟩|⟨n,l,w,h⟩
  ·exact .inl ⟨e1,e2⟩
  ·have sub:∀{x:Nat} {l:List Nat},Way us x l->x<us.length->∀z∈l,z∈way (us.set u t) x:=fun {x l} w=>by
    induction w with
    | @head x e=>intro hx z hz;rw[List.mem_singleton] at hz;subst hz;exact (bN F.fst (by omega)).mem_self
    | @step x l n w ih=>
     intro hx z hz
     have q:x≠u:=fun q=>n (by rw[q];exact eu)
     have e:up (us.set u t) x=up us x:=by rw[bv hu,if_neg q]
     rw[iV F.fst (by omega) (by rw[e];exact n),e]
     rcases List.mem_cons.mp hz with rfl|hz
     ·exact List.mem_cons_self
     ·exact List.mem_cons_of_mem _ (ih (f.fst.bnd x hx) z hz)
   have hb:=f.fst.bnd x hx
   exact .inr ⟨n,_,bN F.fst (by omega),sub w hb _ h⟩
theorem qg {us us':List Nat}(s:Shorter us us')(f:Fst us){x:Nat}(hx:x<us.length):hd us' x=hd us x/\dp us' x≤dp us x/\(way us' x).length≤(way us x).length:=by
 obtain⟨l,w,e1,e2⟩:=s.way f hx (bN f hx)
 have:=eG (s.fst f) (by rw[s.len];exact hx) w
 unfold hd dp
 rw[this]
 exact⟨e1,by omega,e2⟩
theorem HR {us us':List Nat}(s:Shorter us us'){x:Nat}(hx:x<us.length)(f:Fst us):(up us x=x↔up us' x=x):=by
 rcases s.up x hx with ⟨e1,e2⟩|⟨n,l,w,h⟩
 ·exact⟨fun _=>e2,fun _=>e1⟩
 ·refine⟨fun e=>absurd e n,fun e=>?_⟩
  rw[e] at h
  exact absurd h (List.nodup_cons.mp ((Way.step n w).nodup f hx)).1
theorem xu (us:List Nat)(x:Nat):eU "none" us x=us:=(jQ rfl fun t ht=>by simp only[eQ,n7,n8,n9,EI,if_false]).symm
theorem Gc (us:List Nat)(x:Nat):iy "none" us x=dp us x:=by unfold iy;rw[if_neg (by decide)]
theorem q5 {us:List Nat}(f:Fst us){x:Nat}(hx:x<us.length)(y:Str):iy y us x≤dp us x:=by
 have:=(bN f hx).pos
 unfold iy dp
 split<;>omega
theorem zI (j:Str)(ms:List Nat)(a b:Nat):(tp j ms a b=a/\un j ms a b=b)\/(tp j ms a b=b/\un j ms a b=a):=by
 unfold tp un
 cases stay j ms a b
 ·exact .inr ⟨rfl,rfl⟩
 ·exact .inl ⟨rfl,rfl⟩
theorem Ad {n:Nat}{us ms us':List Nat}(S:Sto n us ms)(S':Sto n us' ms)(s:Shorter us us'){j y:Str}(hy:y∈manners){d:Deed}(h:d.ok n) :
  Shorter (dU j "none" us ms d) (dU j y us' ms d)/\dM j us' ms d=dM j us ms d/\dA us' d=dA us d/\dS y us' d≤dS "none" us d:=by
 obtain⟨f,lu,lm⟩:=S
 obtain⟨f',lu',_⟩:=S'
 cases d with
 |find x=>
  have hx:x<us.length:=by rw[lu];exact h
  have hx':x<us'.length:=by rw[lu'];exact h
  obtain⟨h1,h2,_⟩:=qg s f.fst hx
  have h3:=q5 f'.fst hx' y
  refine⟨?_,rfl,?_,?_⟩
  ·show Shorter (eU "none" us x) (eU y us' x)
   rw[xu]
   exact nJ s (rK f' hx' hy) f.fst
  ·show PV.int (hd us' x:Nat)=PV.int (hd us x:Nat)
   rw[h1]
  ·show iy y us' x≤iy "none" us x
   rw[Gc];omega
 |join x z=>
  have hx:x<us.length:=by rw[lu];exact h.1
  have hx':x<us'.length:=by rw[lu'];exact h.1
  have hz:z<us.length:=by rw[lu];exact h.2
  have f1:=gT f' hx' hy
  have l1:=cu y us' x
  have hz1:z<(eU y us' x).length:=by rw[l1,lu'];exact h.2
  have s1:=nJ s (rK f' hx' hy) f.fst
  have s2:=nJ s1 (rK f1 hz1 hy) f.fst
  obtain⟨a1,a2,_⟩:=qg s f.fst hx
  obtain⟨b1,b2,_⟩:=qg s f.fst hz
  obtain⟨_,c2,_⟩:=qg s1 f.fst hz
  have ta:=Ae f.fst hx
  have tb:=Ae f.fst hz
  have la:=j5 f.fst hx
  have lb:=j5 f.fst hz
  refine⟨?_,?_,?_,?_⟩
  ·show Shorter (if hd us x=hd us z then _ else _) (if hd us' x=hd us' z then _ else _)
   rw[a1,b1,xu,xu]
   by_cases e:hd us x=hd us z
   ·rw[if_pos e,if_pos e];exact s2
   ·rw[if_neg e,if_neg e]
    unfold A3
    rcases zI j ms (hd us x) (hd us z) with ⟨e1,e2⟩|⟨e1,e2⟩
    ·rw[e1,e2];exact vZ s2 f lb la tb ta e
    ·rw[e1,e2];exact vZ s2 f la lb ta tb (Ne.symm e)
  ·show (if hd us' x=hd us' z then _ else _)=if hd us x=hd us z then _ else _
   rw[a1,b1]
  ·show PV.bl (!decide (hd us' x=hd us' z))=PV.bl (!decide (hd us x=hd us z))
   rw[a1,b1]
  ·show iy y us' x+iy y (eU y us' x) z≤iy "none" us x+iy "none" (eU "none" us x) z
   rw[Gc,Gc,xu]
   have:=q5 f'.fst hx' y
   have:=q5 f1.fst hz1 y
   omega
theorem Gd {n:Nat}(h1:1≤n)(h2:n≤40):Shorter (List.range n) (List.range n):=.refl (kN h1 h2).fst
theorem yV {us:List Nat}(f:Frst us){x:Nat}(hx:x<us.length){y:Str}(hy:y∈manners):iy y (eU y us x) x≤iy y us x:=by
 obtain⟨_,h,h'⟩:=qg (rK f hx hy) f.fst hx
 unfold iy
 split
 ·exact Nat.div_le_div_right h'
 ·exact h
theorem sD {us:List Nat}(f:Frst us){x:Nat}(hx:x<us.length):iy "whole" (eU "whole" us x) x=min (iy "whole" us x) 1:=by
 have:=CV f hx (y:="whole") (by decide) (dp us x) (Nat.le_refl _)
 rw[Jb f hx] at this
 unfold iy
 rw[if_neg (by decide),if_neg (by decide),this]
 rfl
structure Prm (n:Nat)(p:List Nat):Prop where
 len:p.length=n
 nd:p.Nodup
 lt:∀x∈p,x<n
theorem Prm.up_lt {n:Nat}{p:List Nat}(P:Prm n p){x:Nat}(hx:x<n):up p x<n:=by
 refine P.lt _ ?_
 have h:x<p.length:=by rw[P.len];exact hx
 unfold up
 rw[List.getD_eq_getElem?_getD,List.getElem?_eq_getElem h]
 exact List.getElem_mem h
theorem Prm.inj {n:Nat}{p:List Nat}(P:Prm n p){x z:Nat}(hx:x<n)(hz:z<n):up p x=up p z↔x=z:=
 ⟨fun e=>vP P.nd (by rw[P.len];exact hx) (by rw[P.len];exact hz) e,fun e=>by rw[e]⟩
noncomputable def Rn (n:Nat)(p us us':List Nat):Prop:=∀x,x<n->up us' (up p x)=up p (up us x)
noncomputable def Rm (n:Nat)(p ms ms':List Nat):Prop:=∀x,x<n->up ms' (up p x)=up ms x
theorem sP (g:Nat->Nat):∀{l:List Nat},l≠[]->cp (l.map g)=g (cp l)
 |[x],_=>rfl
 |x::z::l,_=>by
  rw[List.map_cons,bM (by simp),bM (by simp)]
  exact sP g (by simp)
theorem pS (g:Nat->Nat):∀l:List Nat,fH (l.map g)=(fH l).map g
 |[]=>rfl
 |[x]=>rfl
 |x::z::l=>by
  show g x::fH (l.map g)=g x::(fH l).map g
  rw[pS g l]
section
variable {n:Nat}{p us us' ms ms':List Nat}
theorem vB (P:Prm n p)(f:Frst us)(f':Frst us')(lu:us.length=n)(lu':us'.length=n)(R:Rn n p us us'){x:Nat}(hx:x<n):way us' (up p x)=(way us x).map (up p):=by
 have main:∀{x:Nat} {l:List Nat},Way us x l->x<n->Way us' (up p x) (l.map (up p)):=fun {x l} w=>by
  induction w with
  | @head x e=>intro hx;exact .head (by rw[R x hx,e])
  | @step x l n' w ih=>
   intro hx
   have hb:up us x<n:=by rw[←lu];exact f.fst.bnd x (by omega)
   refine .step (by rw[R x hx];exact fun e=>n' ((P.inj hb hx).mp e)) ?_
   rw[R x hx];exact ih hb
 exact eG f'.fst (by rw[lu'];exact P.up_lt hx) (main (bN f.fst (by omega)) hx)
theorem p7 (P:Prm n p)(f:Frst us)(f':Frst us')(lu:us.length=n)(lu':us'.length=n)(R:Rn n p us us'){x:Nat}(hx:x<n):hd us' (up p x)=up p (hd us x):=by
 unfold hd
 rw[vB P f f' lu lu' R hx,sP _ (bN f.fst (by omega)).ne]
theorem vn (P:Prm n p)(f:Frst us)(f':Frst us')(lu:us.length=n)(lu':us'.length=n)(R:Rn n p us us'){x:Nat}(hx:x<n)(y:Str):iy y us' (up p x)=iy y us x:=by
 unfold iy dp
 rw[vB P f f' lu lu' R hx,List.length_map]
theorem y2 (P:Prm n p){l:List Nat}(hl:∀z∈l,z<n){t:Nat}(ht:t<n):up p t∈l.map (up p)↔t∈l:=by
 rw[List.mem_map]
 constructor
 ·rintro⟨z,hz,e⟩
  rw[←(P.inj (hl z hz) ht).mp e];exact hz
 ·intro h;exact⟨t,h,rfl⟩
theorem yZ (P:Prm n p)(f:Frst us)(f':Frst us')(lu:us.length=n)(lu':us'.length=n)(R:Rn n p us us'){x t:Nat}(hx:x<n)(ht:t<n){y:Str}(hy:y∈manners):eQ y us' (up p x) (up p t)=up p (eQ y us x t):=by
 have w:=vB P f f' lu lu' R hx
 have h:=p7 P f f' lu lu' R hx
 have hb:∀z∈way us x,z<n:=fun z hz=>by rw[←lu];exact eF f.fst (by omega) hz
 have ut:up us t<n:=by rw[←lu];exact f.fst.bnd t (by omega)
 have u2:=R _ ut
 have u1:=R t ht
 have m1:=y2 P hb ht
 have m2:=y2 P (fun z hz=>hb z (iX _ _ hz)) ht (l:=fH (way us x))
 rw[←pS] at m2
 have m3:=P.inj ht hx
 rcases s5 hy with rfl|rfl|rfl|rfl|rfl
 ·simp only[eQ,n7,n8,n9,EI,if_false];exact u1
 ·simp only[eQ,if_true,w,h,u1,m1];split<;>rfl
 ·simp only[eQ,n1,if_true,if_false,w,u2,u1,m2];split<;>rfl
 ·simp only[eQ,n3,Ig,if_true,if_false,w,u2,u1,m1];split<;>rfl
 ·simp only[eQ,n4,n5,n6,if_true,if_false,u2,u1,m3];split<;>rfl
theorem uK (P:Prm n p)(f:Frst us)(f':Frst us')(lu:us.length=n)(lu':us'.length=n)(R:Rn n p us us'){x:Nat}(hx:x<n){y:Str}(hy:y∈manners):Rn n p (eU y us x) (eU y us' (up p x)):=fun t ht=>by
 rw[jL (show up p t<us'.length by rw[lu'];exact P.up_lt ht),jL (show t<us.length by omega)]
 exact yZ P f f' lu lu' R hx ht hy
theorem Db (P:Prm n p)(lu:us.length=n)(lu':us'.length=n)(R:Rn n p us us'){u t:Nat}(hu:u<n):Rn n p (us.set u t) (us'.set (up p u) (up p t)):=fun x hx=>by
 rw[bv (show up p u<us'.length by rw[lu'];exact P.up_lt hu),bv (show u<us.length by omega)]
 by_cases e:x=u
 ·rw[if_pos e,if_pos (by rw[e])]
 ·rw[if_neg e,if_neg (fun z=>e ((P.inj hx hu).mp z))];exact R x hx
theorem BV (P:Prm n p)(lm:ms.length=n)(lm':ms'.length=n)(R:Rm n p ms ms'){u v:Nat}(hu:u<n):Rm n p (ms.set u v) (ms'.set (up p u) v):=fun x hx=>by
 rw[bv (show up p u<ms'.length by rw[lm'];exact P.up_lt hu),bv (show u<ms.length by omega)]
 by_cases e:x=u
 ·rw[if_pos e,if_pos (by rw[e])]
 ·rw[if_neg e,if_neg (fun z=>e ((P.inj hx hu).mp z))];exact R x hx
noncomputable def Deed.rn (p:List Nat):Deed->Deed
 |.find x=>.find (up p x)
 |.join x z=>.join (up p x) (up p z)
theorem Eu (P:Prm n p){d:Deed}(h:d.ok n):(d.rn p).ok n:=by
 cases d with
 |find x=>exact P.up_lt h
 |join x z=>exact⟨P.up_lt h.1,P.up_lt h.2⟩
theorem BE (P:Prm n p)(S:Sto n us ms)(S':Sto n us' ms')(R:Rn n p us us')(M:Rm n p ms ms'){j y:Str}(hj:j ≠ "names")(hy:y∈manners){d:Deed}(h:d.ok n) :
  Rn n p (dU j y us ms d) (dU j y us' ms' (d.rn p))/\Rm n p (dM j us ms d) (dM j us' ms' (d.rn p))/\dS y us' (d.rn p)=dS y us d:=by
 obtain⟨f,lu,lm⟩:=S
 obtain⟨f',lu',lm'⟩:=S'
 cases d with
 |find x=>exact⟨uK P f f' lu lu' R h hy,M,vn P f f' lu lu' R h y⟩
 |join x z=>
  obtain⟨hx,hz⟩:=h
  have hx1:x<us.length:=by omega
  have hx1':up p x<us'.length:=by rw[lu'];exact P.up_lt hx
  have f1:=gT f hx1 hy
  have f1':=gT f' hx1' hy
  have l1:(eU y us x).length=n:=by rw[cu,lu]
  have l1':(eU y us' (up p x)).length=n:=by rw[cu,lu']
  have R1:=uK P f f' lu lu' R hx hy
  have R2:=uK P f1 f1' l1 l1' R1 hz hy
  have l2:(eU y (eU y us x) z).length=n:=by rw[cu,l1]
  have l2':(eU y (eU y us' (up p x)) (up p z)).length=n:=by rw[cu,l1']
  have ea:=p7 P f f' lu lu' R hx
  have eb:=p7 P f f' lu lu' R hz
  have la:hd us x<n:=by rw[←lu];exact j5 f.fst hx1
  have lb:hd us z<n:=by rw[←lu];exact j5 f.fst (by omega)
  have es:stay j ms' (up p (hd us x)) (up p (hd us z))=stay j ms (hd us x) (hd us z):=by
   unfold stay
   rw[if_neg hj,if_neg hj,M _ la,M _ lb]
  have et:tp j ms' (up p (hd us x)) (up p (hd us z))=up p (tp j ms (hd us x) (hd us z)):=by
   unfold tp;rw[es];split<;>rfl
  have eu:un j ms' (up p (hd us x)) (up p (hd us z))=up p (un j ms (hd us x) (hd us z)):=by
   unfold un;rw[es];split<;>rfl
  have lt:tp j ms (hd us x) (hd us z)<n:=by rcases zI j ms (hd us x) (hd us z) with ⟨e1,_⟩|⟨e1,_⟩<;>rw[e1]<;>assumption
  have ln:un j ms (hd us x) (hd us z)<n:=by rcases zI j ms (hd us x) (hd us z) with ⟨_,e1⟩|⟨_,e1⟩<;>rw[e1]<;>assumption
  refine⟨?_,?_,?_⟩
  ·show Rn n p (if hd us x=hd us z then _ else _) (if hd us' (up p x)=hd us' (up p z) then _ else _)
   rw[ea,eb]
   by_cases e:hd us x=hd us z
   ·rw[if_pos e,if_pos (by rw[e])];exact R2
   ·rw[if_neg e,if_neg fun q=>e ((P.inj la lb).mp q)]
    unfold A3
    rw[et,eu]
    exact Db P l2 l2' R2 ln
  ·show Rm n p (if hd us x=hd us z then _ else _) (if hd us' (up p x)=hd us' (up p z) then _ else _)
   rw[ea,eb]
   by_cases e:hd us x=hd us z
   ·rw[if_pos e,if_pos (by rw[e])];exact M
   ·rw[if_neg e,if_neg fun q=>e ((P.inj la lb).mp q)]
    unfold HW
    rw[et,eu,M _ lt,M _ ln]
    exact BV P lm lm' M lt
  ·show iy y us' (up p x)+iy y (eU y us' (up p x)) (up p z)=iy y us x+iy y (eU y us x) z
   rw[vn P f f' lu lu' R hx,vn P f1 f1' l1 l1' R1 hz]
end
end Dp
end
section
namespace Dp
open PySem L2 Fo Pu
theorem pT {n:Nat}{a:Addr}{s1:Option Sl}:∀(ds:List Deed) (k:Nat) (z3 z4:Option Sl),(∀d∈ds,Deed.ok n d) →
  ∃w3 w4,cR (iY 2 (gC (gN 3) (gC (gN 4) g0))) (fZ [(a,bZ)]) (eZ k (ds.map Deed.pv)) [some (.val (.int n)),s1,some (.val (.fn a)),z3,z4]=.nx [some (.val (.int n)),s1,some (.val (.fn a)),w3,w4]
 |[],k,z3,z4,_=>⟨z3,z4,rfl⟩
 |d::ds,k,z3,z4,hr=>by
  obtain⟨w3,w4,e⟩:=pT ds (k+1) (some (.val (.int k))) (some (.val d.pv)) fun p hp=>hr p (List.mem_cons_of_mem _ hp)
  refine⟨w3,w4,?_⟩
  rw[←e,show eZ k ((d::ds).map Deed.pv)=.tup [.int k,d.pv]::eZ (k+1) (ds.map Deed.pv) from rfl,hU]
  simp only[mm,EE,Nat.reduceAdd,Nat.reduceSub,Nat.reduceLeDiff,Nat.reduceLT,Nat.reduceEqDiff,Int.reduceLT,Int.reduceLE,Int.reduceAdd,Int.reduceSub,Int.reduceMul,Int.reduceMod,Int.reduceDiv,Int.reduceNeg,Int.reduceToNat,Int.reducePow,Int.reduceEq,Cg,yb,C8,sx (hr d List.mem_cons_self)]
theorem Hq {n:Nat}{a:Addr}{ds:List Deed}(hr:∀d∈ds,Deed.ok n d):dr [(a,bZ)] [.int n,.tup (ds.map Deed.pv),.fn a]=some (.v .non):=by
 obtain⟨w3,w4,e⟩:=pT (n:=n) (a:=a) (s1:=some (.val (.tup (ds.map Deed.pv)))) ds 0 none none hr
 simp only[ph,mV,EE,Nat.reduceAdd,Nat.reduceSub,Nat.reduceLeDiff,Nat.reduceLT,Nat.reduceEqDiff,Int.reduceLT,Int.reduceLE,Int.reduceAdd,Int.reduceSub,Int.reduceMul,Int.reduceMod,Int.reduceDiv,Int.reduceNeg,Int.reduceToNat,Int.reducePow,Int.reduceEq,wr,qp,e]
noncomputable def so (j y:Str):List Deed->List Nat->List Nat->List Nat×List Nat
 |[],us,ms=>(us,ms)
 |d::ds,us,ms=>so j y ds (dU j y us ms d) (dM j us ms d)
noncomputable def A5 (j y:Str):List Deed->List Nat->List Nat->List PV
 |[],_,_=>[]
 |d::ds,us,ms=>dA us d::A5 j y ds (dU j y us ms d) (dM j us ms d)
noncomputable def AT (j y:Str):List Deed->List Nat->List Nat->List Nat
 |[],_,_=>[]
 |d::ds,us,ms=>dS y us d::AT j y ds (dU j y us ms d) (dM j us ms d)
theorem sw {a:Addr}{n:Nat}{j y:Str}(hj:j∈jws)(hy:y∈manners){s0 s1 s2 s3 s4 s5:Option Sl}:∀(ds:List Deed) (us ms:List Nat) (as:List PV) (cs:List Nat) (z9 z10 z11:Option Sl),Sto n us ms->(∀d∈ds,Deed.ok n d)->as.length+ds.length≤1000->cs.length+ds.length≤1000 →
  ∃w9 w10 w11,cR (gN 9) (lG a) (ds.map Deed.pv) [s0,s1,s2,s3,s4,s5,some (.val (gh j y us ms)),some (.own as),some (.own (ak cs)),z9,z10,z11] =
   .nx [s0,s1,s2,s3,s4,s5,some (.val (gh j y (so j y ds us ms).1 (so j y ds us ms).2)),some (.own (as++A5 j y ds us ms)),some (.own (ak (cs++AT j y ds us ms))),w9,w10,w11]
 |[],us,ms,as,cs,z9,z10,z11,_,_,_,_=>⟨z9,z10,z11,by
   show Out.nx _=_
   simp only[so,A5,AT,List.append_nil]⟩
 |d::ds,us,ms,as,cs,z9,z10,z11,S,hd,h1,h2=>by
  rw[List.length_cons] at h1 h2
  have hok:=hd d List.mem_cons_self
  obtain⟨w9,w10,w11,e⟩:=sw hj hy (a:=a) (s0:=s0) (s1:=s1) (s2:=s2) (s3:=s3) (s4:=s4) (s5:=s5) ds (dU j y us ms d) (dM j us ms d) (as++[dA us d]) (cs++[dS y us d]) (some (.val d.pv)) (some (.val (dA us d))) (some (.val (.int (dS y us d:Nat)))) (ja S hy hok) (fun q hq=>hd q (List.mem_cons_of_mem _ hq)) (by rw[List.length_append,List.length_singleton];omega) (by rw[List.length_append,List.length_singleton];omega)
  refine⟨w9,w10,w11,?_⟩
  have e1:=wu S hj hy hok
  have l1:as.length≤100000:=by omega
  have l2:cs.length≤100000:=by omega
  have en:ak cs++[PV.int (dS y us d:Nat)]=ak (cs++[dS y us d]):=by unfold ak;rw[List.map_append];rfl
  have ea:as++A5 j y (d::ds) us ms=as++[dA us d]++A5 j y ds (dU j y us ms d) (dM j us ms d):=by rw[List.append_assoc];rfl
  have ec:cs++AT j y (d::ds) us ms=cs++[dS y us d]++AT j y ds (dU j y us ms d) (dM j us ms d):=by rw[List.append_assoc];rfl
  rw[ea,ec,show so j y (d::ds) us ms=so j y ds (dU j y us ms d) (dM j us ms d) from rfl,←e,List.map_cons,hU]
  simp only[um,EE,Nat.reduceAdd,Nat.reduceSub,Nat.reduceLeDiff,Nat.reduceLT,Nat.reduceEqDiff,Int.reduceLT,Int.reduceLE,Int.reduceAdd,Int.reduceSub,Int.reduceMul,Int.reduceMod,Int.reduceDiv,Int.reduceNeg,Int.reduceToNat,Int.reducePow,Int.reduceEq,e1,ip,l1,l2,en]
noncomputable def Fm (j y:Str)(ds:List Deed)(us ms:List Nat):PV:=.tup [gh j y (so j y ds us ms).1 (so j y ds us ms).2,.lst (A5 j y ds us ms),.lst (ak (AT j y ds us ms))]
theorem Ek {a:Addr}{n:Nat}{j y:Str}(hj:j∈jws)(hy:y∈manners){us ms:List Nat}(S:Sto n us ms){ds:List Deed}(hd:∀d∈ds,Deed.ok n d)(hl:ds.length≤500):kG a [gh j y us ms,.tup (ds.map Deed.pv)]=some (.v (Fm j y ds us ms)):=by
 have e0:=Hq (a:=a) hd
 rw[←S.lu] at e0
 obtain⟨w9,w10,w11,e⟩:=sw hj hy (a:=a) (s0:=some (.val (gh j y us ms))) (s1:=some (.val (.tup (ds.map Deed.pv)))) (s2:=some (.val (.str j))) (s3:=some (.val (.str y))) (s4:=some (.val (.tup (ak us)))) (s5:=some (.val (.tup (ak ms)))) ds us ms [] [] none none none S hd (by simp;omega) (by simp;omega)
 have a2:L2.atI [PV.str j,.str y,.tup (ak us),.tup (ak ms)] 2=some (.tup (ak us)):=rfl
 have n0:ak []=[]:=rfl
 unfold Fm
 unfold gh at e ⊢
 rw[n0] at e
 simp only[Dd,xM,EE,Nat.reduceAdd,Nat.reduceSub,Nat.reduceLeDiff,Nat.reduceLT,Nat.reduceEqDiff,Int.reduceLT,Int.reduceLE,Int.reduceAdd,Int.reduceSub,Int.reduceMul,Int.reduceMod,Int.reduceDiv,Int.reduceNeg,Int.reduceToNat,Int.reducePow,Int.reduceEq,a2,e0,sC,e,List.nil_append]
theorem jG {α:Type}{t:FT}{f:FE}{ρ:ay}(v g:α->PV):∀{l:List α},(∀a∈l,(t (v a) ρ).bind (fun ρ2=>(f ρ2).bind RV.fr)=some (g a))->mH t cr f ρ (l.map v)=some (l.map g)
 |[],_=>rfl
 |a::l,h=>by
  have h1:=h a List.mem_cons_self
  have h2:=jG v g (l:=l) fun q hq=>h q (List.mem_cons_of_mem _ hq)
  obtain⟨ρ2,e1,h1⟩:=Option.bind_eq_some_iff.mp h1
  obtain⟨r,e2,h1⟩:=Option.bind_eq_some_iff.mp h1
  rw[List.map_cons,mH,e1,h2]
  show (f ρ2).bind _=_
  rw[e2]
  show r.fr.bind _=_
  rw[h1];rfl
theorem qU {n:Nat}{j y:Str}(hy:y∈manners):∀(ds:List Deed) (us ms:List Nat),Sto n us ms->(∀d∈ds,Deed.ok n d)->Sto n (so j y ds us ms).1 (so j y ds us ms).2
 |[],_,_,S,_=>S
 |d::ds,us,ms,S,h=>qU hy ds _ _ (ja S hy (h d List.mem_cons_self)) fun q hq=>h q (List.mem_cons_of_mem _ hq)
noncomputable def KH (n:Nat)(p:List Nat):Deed->PV->PV->Prop
 |.find _,v,w=>∃h,h<n/\v=.int (h:Nat)/\w=.int (up p h:Nat)
 |.join _ _,v,w=>∃b,v=.bl b/\w=.bl b/\yt b<n
theorem Ah {n:Nat}{p us us' ms ms':List Nat}(P:Prm n p)(S:Sto n us ms)(S':Sto n us' ms')(R:Rn n p us us'){d:Deed}(h:d.ok n):KH n p d (dA us d) (dA us' (d.rn p)):=by
 obtain⟨f,lu,lm⟩:=S
 obtain⟨f',lu',lm'⟩:=S'
 cases d with
 |find x=>
  have hx:x<n:=h
  refine⟨hd us x,by rw[←lu];exact j5 f.fst (by omega),rfl,?_⟩
  show PV.int (hd us' (up p x):Nat)=_
  rw[p7 P f f' lu lu' R hx]
 |join x z=>
  obtain⟨hx,hz⟩:=h
  have la:hd us x<n:=by rw[←lu];exact j5 f.fst (by omega)
  have lb:hd us z<n:=by rw[←lu];exact j5 f.fst (by omega)
  refine⟨!decide (hd us x=hd us z),rfl,?_,?_⟩
  ·show PV.bl (!decide (hd us' (up p x)=hd us' (up p z)))=_
   rw[p7 P f f' lu lu' R hx,p7 P f f' lu lu' R hz,decide_eq_decide.mpr (P.inj la lb)]
  ·by_cases e:hd us x=hd us z
   ·rw[decide_eq_true e];show 0<n;omega
   ·rw[decide_eq_false e];show 1<n;omega
theorem zQ {n:Nat}{p:List Nat}(P:Prm n p){j y:Str}(hj:j ≠ "names")(hy:y∈manners):∀(ds:List Deed) (us ms us' ms':List Nat),Sto n us ms->Sto n us' ms'->Rn n p us us'->Rm n p ms ms'->(∀d∈ds,Deed.ok n d) →
  Rn n p (so j y ds us ms).1 (so j y (ds.map (Deed.rn p)) us' ms').1/\Rm n p (so j y ds us ms).2 (so j y (ds.map (Deed.rn p)) us' ms').2/\AT j y (ds.map (Deed.rn p)) us' ms'=AT j y ds us ms ∧
  ∀k,k<ds.length->∃d v w,ds[k]?=some d/\(A5 j y ds us ms)[k]?=some v/\(A5 j y (ds.map (Deed.rn p)) us' ms')[k]?=some w/\KH n p d v w
 |[],_,_,_,_,_,_,R,M,_=>⟨R,M,rfl,fun k hk=>absurd hk (Nat.not_lt_zero _)⟩
 |d::ds,us,ms,us',ms',S,S',R,M,h=>by
  have hok:=h d List.mem_cons_self
  have hok':=Eu P hok
  obtain⟨R1,M1,C1⟩:=BE P S S' R M hj hy hok
  obtain⟨R2,M2,C2,A2⟩:=zQ P hj hy ds _ _ _ _ (ja S hy hok) (ja S' hy hok') R1 M1 fun q hq=>h q (List.mem_cons_of_mem _ hq)
  refine⟨R2,M2,?_,fun k hk=>?_⟩
  ·show dS y us' (d.rn p)::AT j y (ds.map (Deed.rn p)) _ _=dS y us d::AT j y ds _ _
   rw[C1,C2]
  ·cases k with
   |zero=>exact⟨d,_,_,rfl,rfl,rfl,Ah P S S' R hok⟩
   |succ k=>exact A2 k (by simpa using hk)
end Dp
end
section
namespace K17
open PySem L2 Fo Pu Dp
noncomputable def bX (a_is_deed:Addr):FE:=(cw (aa (ah aZ (ah aH (fV 1) (fV 0)) (fC (.int 9949))) (aa (fV 0) ag)))
theorem ix {a_is_deed:Addr}{ρ:ay}:(bX a_is_deed) ρ=(cw (aa (ah aZ (ah aH (fV 1) (fV 0)) (fC (.int 9949))) (aa (fV 0) ag))) ρ:=Eq.trans rfl rfl
noncomputable def bW (a_is_deed:Addr):FE:=(ah aH (fV 0) (fC (.int 1)))
theorem iz {a_is_deed:Addr}{ρ:ay}:(bW a_is_deed) ρ=(ah aH (fV 0) (fC (.int 1))) ρ:=Eq.trans rfl rfl
noncomputable def aF (a_is_deed:Addr):FE:=(ah aH (fV 1) (fV 0))
theorem iA {a_is_deed:Addr}{ρ:ay}:(aF a_is_deed) ρ=(ah aH (fV 1) (fV 0)) ρ:=Eq.trans rfl rfl
noncomputable def bh (a_is_deed:Addr):FE:=(ah bV (cw (aa (ah aH (fV 0) (fC (.int 0))) ag)) (fB jy (aa (cG [none,some 1] (lP (qL (fV 0) (rm (fC (.int 1))) rQ)) (gN 0) cr (aF a_is_deed)) ag)))
theorem eP {a_is_deed:Addr}{ρ:ay}:(bh a_is_deed) ρ=(ah bV (cw (aa (ah aH (fV 0) (fC (.int 0))) ag)) (fB jy (aa (cG [none,some 1] (lP (qL (fV 0) (rm (fC (.int 1))) rQ)) (gN 0) cr (aF a_is_deed)) ag))) ρ:=Eq.trans rfl rfl
noncomputable def bn (a_is_deed:Addr):FS:=(eT (fT (ah gd (ah aH (ah aH (fV 9) (fC (.int 1))) (fV 10)) (ah aH (fe (aa (ah aH (ah aH (fV 8) (fC (.int 1))) (fV 10)) (aa (ah rz (fV 5) (ah aH (ah aH (fV 8) (fC (.int 1))) (fV 10))) ag))) (fB o8 (aa (ah dQ (ah aH (ah aH (fV 3) (fV 10)) (fC (.int 0))) (fC (.str "find"))) ag))))) (aT (fC (.bl false))) aK)
theorem eR {a_is_deed:Addr}{ρ:ay}:(bn a_is_deed) ρ=(eT (fT (ah gd (ah aH (ah aH (fV 9) (fC (.int 1))) (fV 10)) (ah aH (fe (aa (ah aH (ah aH (fV 8) (fC (.int 1))) (fV 10)) (aa (ah rz (fV 5) (ah aH (ah aH (fV 8) (fC (.int 1))) (fV 10))) ag))) (fB o8 (aa (ah dQ (ah aH (ah aH (fV 3) (fV 10)) (fC (.int 0))) (fC (.str "find"))) ag))))) (aT (fC (.bl false))) aK) ρ:=Eq.trans rfl rfl
noncomputable def bj (a_is_deed:Addr):FE:=(ah aH (ah aH (ah aH (fV 1) (fC (.int 0))) (fC (.int 2))) (ah aH (fV 2) (fV 0)))
theorem iw {a_is_deed:Addr}{ρ:ay}:(bj a_is_deed) ρ=(ah aH (ah aH (ah aH (fV 1) (fC (.int 0))) (fC (.int 2))) (ah aH (fV 2) (fV 0))) ρ:=Eq.trans rfl rfl
noncomputable def bg (a_is_deed:Addr):FE:=(ah aH (ah aH (ah aH (fV 1) (fC (.int 0))) (fC (.int 3))) (ah aH (fV 2) (fV 0)))
theorem iB {a_is_deed:Addr}{ρ:ay}:(bg a_is_deed) ρ=(ah aH (ah aH (ah aH (fV 1) (fC (.int 0))) (fC (.int 3))) (ah aH (fV 2) (fV 0))) ρ:=Eq.trans rfl rfl
noncomputable def dw (a_is_deed:Addr):FS:=(al (bd 5 (cG [none] (lP (fB kf (aa (cG [none,some 4] (jw im (aa (fV 0) ag)) (gN 0) cr (bX a_is_deed)) ag))) (gN 0) cr (bW a_is_deed)))
  (al (bd 6 (fB jy (aa (cG [none,some 5] (lP (fV 3)) (gN 0) cr (bh a_is_deed)) ag)))
  (al (bd 7 (au bU (aa (fV 0) (aa (fV 1) (aa (fV 2) ag)))))
  (al (fO (cw (aa (au (kG a_is_deed) (aa (fV 7) (aa (fV 3) ag))) (aa (au (kG a_is_deed) (aa (fV 7) (aa (fV 6) ag))) ag))) (iY 2 (gC (gN 8) (gC (gN 9) g0))))
  (al (eT (fT (ah gd (ah aH (fV 8) (fC (.int 2))) (ah aH (fV 9) (fC (.int 2))))) (aT (fC (.bl false))) aK)
  (al (io (jw im (aa (fB eK (aa (fV 3) ag)) ag)) (gN 10) (bn a_is_deed))
  (al (fO (qL (ah aH (fV 8) (fC (.int 0))) (rm (fC (.int 2))) rQ) (iY 2 (gC (gN 11) (gC (gN 12) g0))))
  (al (eT (fT (ah gd (cG [none,some 9,some 5] (jw im (aa (fV 0) ag)) (gN 0) cr (bj a_is_deed)) (cG [none,some 5] (lP (fV 11)) (gN 0) cr (aF a_is_deed)))) (aT (fC (.bl false))) aK)
  (aT (ah dQ (cG [none,some 9,some 5] (jw im (aa (fV 0) ag)) (gN 0) cr (bg a_is_deed)) (fB gX (aa (fV 12) ag))))))))))))
theorem iJ {a_is_deed:Addr}{ρ:ay}:(dw a_is_deed) ρ=(al (bd 5 (cG [none] (lP (fB kf (aa (cG [none,some 4] (jw im (aa (fV 0) ag)) (gN 0) cr (bX a_is_deed)) ag))) (gN 0) cr (bW a_is_deed)))
  (al (bd 6 (fB jy (aa (cG [none,some 5] (lP (fV 3)) (gN 0) cr (bh a_is_deed)) ag)))
  (al (bd 7 (au bU (aa (fV 0) (aa (fV 1) (aa (fV 2) ag)))))
  (al (fO (cw (aa (au (kG a_is_deed) (aa (fV 7) (aa (fV 3) ag))) (aa (au (kG a_is_deed) (aa (fV 7) (aa (fV 6) ag))) ag))) (iY 2 (gC (gN 8) (gC (gN 9) g0))))
  (al (eT (fT (ah gd (ah aH (fV 8) (fC (.int 2))) (ah aH (fV 9) (fC (.int 2))))) (aT (fC (.bl false))) aK)
  (al (io (jw im (aa (fB eK (aa (fV 3) ag)) ag)) (gN 10) (bn a_is_deed))
  (al (fO (qL (ah aH (fV 8) (fC (.int 0))) (rm (fC (.int 2))) rQ) (iY 2 (gC (gN 11) (gC (gN 12) g0))))
  (al (eT (fT (ah gd (cG [none,some 9,some 5] (jw im (aa (fV 0) ag)) (gN 0) cr (bj a_is_deed)) (cG [none,some 5] (lP (fV 11)) (gN 0) cr (aF a_is_deed)))) (aT (fC (.bl false))) aK)
  (aT (ah dQ (cG [none,some 9,some 5] (jw im (aa (fV 0) ag)) (gN 0) cr (bg a_is_deed)) (fB gX (aa (fV 12) ag)))))))))))) ρ:=Eq.trans rfl rfl
noncomputable def bq (a_is_deed:Addr):List PV->Option PR:=run 5 13 (dw a_is_deed)
theorem jh {a_is_deed:Addr}{a0 a1 a2 a3 a4:PV}:(bq a_is_deed) [a0,a1,a2,a3,a4]=((dw a_is_deed) [some (.val a0),some (.val a1),some (.val a2),some (.val a3),some (.val a4),none,none,none,none,none,none,none,none]).res:=Eq.trans rfl rfl
noncomputable def eD:FS:=(al (fO (au gF (aa (fV 0) (aa (cw (aa (fC (.str "find")) (aa (fV 1) ag))) ag))) (iY 3 (gC (gN 2) (gC (gN 3) (gC (gN 4) g0)))))
  (al (fO (au gF (aa (fV 2) (aa (cw (aa (fC (.str "find")) (aa (fV 1) ag))) ag))) (iY 3 (gC (gN 5) (gC (gN 6) (gC (gN 7) g0)))))
  (al (eT (iU (fT (ah gd (fV 6) (fV 3))) (iU (fT (ah uJ (fV 4) (ah sS (fB eK (aa (au bI (aa (ah aH (fV 0) (fC (.int 2))) (aa (fV 1) ag))) ag)) (fC (.int 1))))) (iU (fT (ah uJ (fV 7) (fV 4))) (fT (ah gd (ah aH (fV 5) (fC (.int 3))) (ah aH (fV 0) (fC (.int 3)))))))) (aT (fC (.bl false))) aK)
  (al (eT (fT (ah dQ (ah aH (fV 0) (fC (.int 1))) (fC (.str "none")))) (aT (ju (ah dQ (fV 2) (fV 0)) (ox (ah dQ (fV 7) (fV 4))))) aK)
  (aT (CM (ah gd (ah aH (fV 0) (fC (.int 1))) (fC (.str "whole"))) (ox (ah dQ (fV 7) (fB kH (aa (fV 4) (aa (fC (.int 1)) ag)))))))))))
theorem bu {ρ:ay}:eD ρ=(al (fO (au gF (aa (fV 0) (aa (cw (aa (fC (.str "find")) (aa (fV 1) ag))) ag))) (iY 3 (gC (gN 2) (gC (gN 3) (gC (gN 4) g0)))))
  (al (fO (au gF (aa (fV 2) (aa (cw (aa (fC (.str "find")) (aa (fV 1) ag))) ag))) (iY 3 (gC (gN 5) (gC (gN 6) (gC (gN 7) g0)))))
  (al (eT (iU (fT (ah gd (fV 6) (fV 3))) (iU (fT (ah uJ (fV 4) (ah sS (fB eK (aa (au bI (aa (ah aH (fV 0) (fC (.int 2))) (aa (fV 1) ag))) ag)) (fC (.int 1))))) (iU (fT (ah uJ (fV 7) (fV 4))) (fT (ah gd (ah aH (fV 5) (fC (.int 3))) (ah aH (fV 0) (fC (.int 3)))))))) (aT (fC (.bl false))) aK)
  (al (eT (fT (ah dQ (ah aH (fV 0) (fC (.int 1))) (fC (.str "none")))) (aT (ju (ah dQ (fV 2) (fV 0)) (ox (ah dQ (fV 7) (fV 4))))) aK)
  (aT (CM (ah gd (ah aH (fV 0) (fC (.int 1))) (fC (.str "whole"))) (ox (ah dQ (fV 7) (fB kH (aa (fV 4) (aa (fC (.int 1)) ag))))))))))) ρ:=Eq.trans rfl rfl
noncomputable def bK:List PV->Option PR:=run 2 8 eD
theorem bR {a0 a1:PV}:bK [a0,a1]=(eD [some (.val a0),some (.val a1),none,none,none,none,none,none]).res:=Eq.trans rfl rfl
noncomputable def bt:FS:=(al (bd 5 (au bI (aa (ah aH (fV 0) (fC (.int 2))) (aa (fV 4) ag))))
  (al (eT (iU (fT (ah mj (ah aH (ah aH (fV 1) (fC (.int 2))) (fV 4)) (fV 5))) (fT (ah uJ (fB eK (aa (au bI (aa (ah aH (fV 1) (fC (.int 2))) (aa (fV 4) ag))) ag)) (fB eK (aa (fV 5) ag))))) (aT (fC (.bl false))) aK)
  (eT (fT (ah gd (ah dQ (ah aH (ah aH (fV 0) (fC (.int 2))) (fV 4)) (fV 4)) (ah dQ (ah aH (ah aH (fV 1) (fC (.int 2))) (fV 4)) (fV 4)))) (aT (fC (.bl false))) aK)))
theorem cP {ρ:ay}:bt ρ=(al (bd 5 (au bI (aa (ah aH (fV 0) (fC (.int 2))) (aa (fV 4) ag))))
  (al (eT (iU (fT (ah mj (ah aH (ah aH (fV 1) (fC (.int 2))) (fV 4)) (fV 5))) (fT (ah uJ (fB eK (aa (au bI (aa (ah aH (fV 1) (fC (.int 2))) (aa (fV 4) ag))) ag)) (fB eK (aa (fV 5) ag))))) (aT (fC (.bl false))) aK)
  (eT (fT (ah gd (ah dQ (ah aH (ah aH (fV 0) (fC (.int 2))) (fV 4)) (fV 4)) (ah dQ (ah aH (ah aH (fV 1) (fC (.int 2))) (fV 4)) (fV 4)))) (aT (fC (.bl false))) aK))) ρ:=Eq.trans rfl rfl
noncomputable def dO:FS:=(al (eT (iU (fT (ah gd (ah aH (fV 0) (fC (.int 3))) (ah aH (fV 1) (fC (.int 3))))) (iU (fT (ah gd (ah aH (fV 2) (fC (.int 0))) (ah aH (fV 3) (fC (.int 0))))) (fT (ah uJ (ah aH (fV 3) (fC (.int 1))) (ah aH (fV 2) (fC (.int 1))))))) (aT (fC (.bl false))) aK)
  (al (io (jw im (aa (fB eK (aa (ah aH (fV 0) (fC (.int 2))) ag)) ag)) (gN 4) bt)
  (aT (fC (.bl true)))))
theorem i6 {ρ:ay}:dO ρ=(al (eT (iU (fT (ah gd (ah aH (fV 0) (fC (.int 3))) (ah aH (fV 1) (fC (.int 3))))) (iU (fT (ah gd (ah aH (fV 2) (fC (.int 0))) (ah aH (fV 3) (fC (.int 0))))) (fT (ah uJ (ah aH (fV 3) (fC (.int 1))) (ah aH (fV 2) (fC (.int 1))))))) (aT (fC (.bl false))) aK)
  (al (io (jw im (aa (fB eK (aa (ah aH (fV 0) (fC (.int 2))) ag)) ag)) (gN 4) bt)
  (aT (fC (.bl true))))) ρ:=Eq.trans rfl rfl
noncomputable def bA:List PV->Option PR:=run 4 6 dO
theorem jB {a0 a1 a2 a3:PV}:bA [a0,a1,a2,a3]=(dO [some (.val a0),some (.val a1),some (.val a2),some (.val a3),none,none]).res:=Eq.trans rfl rfl
noncomputable def lv (a_is_deed:Addr):FE:=(au bU (aa (fV 1) (aa (fV 2) (aa (fV 0) ag))))
theorem vR {a_is_deed:Addr}{ρ:ay}:(lv a_is_deed) ρ=(au bU (aa (fV 1) (aa (fV 2) (aa (fV 0) ag)))) ρ:=Eq.trans rfl rfl
noncomputable def ll (a_is_deed:Addr):FE:=(au gF (aa (fV 0) (aa (fV 1) ag)))
theorem uS {a_is_deed:Addr}{ρ:ay}:(ll a_is_deed) ρ=(au gF (aa (fV 0) (aa (fV 1) ag))) ρ:=Eq.trans rfl rfl
noncomputable def lj (a_is_deed:Addr):FE:=(ah aH (fV 0) (fC (.int 0)))
theorem uV {a_is_deed:Addr}{ρ:ay}:(lj a_is_deed) ρ=(ah aH (fV 0) (fC (.int 0))) ρ:=Eq.trans rfl rfl
noncomputable def lg (a_is_deed:Addr):FE:=(au bA (aa (ah aH (fV 1) (fC (.int 0))) (aa (ah aH (fV 0) (fC (.int 0))) (aa (qL (ah aH (fV 2) (fC (.int 0))) (rm (fC (.int 1))) rQ) (aa (qL (fV 0) (rm (fC (.int 1))) rQ) ag)))))
theorem u8 {a_is_deed:Addr}{ρ:ay}:(lg a_is_deed) ρ=(au bA (aa (ah aH (fV 1) (fC (.int 0))) (aa (ah aH (fV 0) (fC (.int 0))) (aa (qL (ah aH (fV 2) (fC (.int 0))) (rm (fC (.int 1))) rQ) (aa (qL (fV 0) (rm (fC (.int 1))) rQ) ag))))) ρ:=Eq.trans rfl rfl
noncomputable def j8 (a_is_deed:Addr):FS:=(al (bd 9 (cG [none,some 8] (lP (fV 7)) (gN 0) cr (ll a_is_deed)))
  (al (bd 7 (cG [none] (lP (fV 9)) (gN 0) cr (lj a_is_deed)))
  (eT (dZ (fT (fB qV (aa (cG [none,some 7,some 9] (lP (fV 9)) (gN 0) cr (lg a_is_deed)) ag)))) (aT (fC (.bl false))) aK)))
theorem vL {a_is_deed:Addr}{ρ:ay}:(j8 a_is_deed) ρ=(al (bd 9 (cG [none,some 8] (lP (fV 7)) (gN 0) cr (ll a_is_deed)))
  (al (bd 7 (cG [none] (lP (fV 9)) (gN 0) cr (lj a_is_deed)))
  (eT (dZ (fT (fB qV (aa (cG [none,some 7,some 9] (lP (fV 9)) (gN 0) cr (lg a_is_deed)) ag)))) (aT (fC (.bl false))) aK))) ρ:=Eq.trans rfl rfl
noncomputable def lL (a_is_deed:Addr):FE:=(au bK (aa (fV 0) (aa (ah aZ (ah aH (fV 1) (fC (.int 2))) (fV 2)) ag)))
theorem vD {a_is_deed:Addr}{ρ:ay}:(lL a_is_deed) ρ=(au bK (aa (fV 0) (aa (ah aZ (ah aH (fV 1) (fC (.int 2))) (fV 2)) ag))) ρ:=Eq.trans rfl rfl
noncomputable def gZ (a_is_deed:Addr):FS:=(al (bd 3 (au aD (aa (au aV (aa (fV 0) (aa (ah bV (fC (.int 60)) (fV 2)) ag))) (aa (fC (.int 48)) ag))))
  (al (bd 4 (au dm (aa (ah aH (fV 3) (fC (.int 0))) ag)))
  (al (bd 5 (ah aH (fe (aa (fC (.str "size")) (aa (fC (.str "rank")) (aa (fC (.str "told")) (aa (fC (.str "names")) ag))))) (ah aZ (ah aH (fV 3) (fC (.int 1))) (fC (.int 4)))))
  (al (bd 6 (au ca (aa (fV 0) (aa (fV 2) (aa (fV 4) (aa (fC (.int 40)) ag))))))
  (al (bd 7 (cG [none,some 4,some 5] (lP (fV 1)) (gN 0) cr (lv a_is_deed)))
  (al (io (lP (fV 6)) (gN 8) (j8 a_is_deed))
  (al (eT (dZ (fT (fB qV (aa (cG [none,some 3,some 4] (lP (fV 7)) (gN 0) cr (lL a_is_deed)) ag)))) (aT (fC (.bl false))) aK)
  (al (bd 10 (ah aH (fV 1) (ah aZ (ah aH (fV 3) (fC (.int 3))) (fC (.int 5)))))
  (eT (iD (fT (ah gd (fV 5) (fC (.str "names")))) (dZ (fT (au (bq a_is_deed) (aa (fV 4) (aa (fV 5) (aa (fV 10) (aa (fV 6) (aa (qL (fV 3) (rm (fC (.int 4))) rQ) ag))))))))) (aT (fC (.bl false))) aK)))))))))
theorem oQ {a_is_deed:Addr}{ρ:ay}:(gZ a_is_deed) ρ=(al (bd 3 (au aD (aa (au aV (aa (fV 0) (aa (ah bV (fC (.int 60)) (fV 2)) ag))) (aa (fC (.int 48)) ag))))
  (al (bd 4 (au dm (aa (ah aH (fV 3) (fC (.int 0))) ag)))
  (al (bd 5 (ah aH (fe (aa (fC (.str "size")) (aa (fC (.str "rank")) (aa (fC (.str "told")) (aa (fC (.str "names")) ag))))) (ah aZ (ah aH (fV 3) (fC (.int 1))) (fC (.int 4)))))
  (al (bd 6 (au ca (aa (fV 0) (aa (fV 2) (aa (fV 4) (aa (fC (.int 40)) ag))))))
  (al (bd 7 (cG [none,some 4,some 5] (lP (fV 1)) (gN 0) cr (lv a_is_deed)))
  (al (io (lP (fV 6)) (gN 8) (j8 a_is_deed))
  (al (eT (dZ (fT (fB qV (aa (cG [none,some 3,some 4] (lP (fV 7)) (gN 0) cr (lL a_is_deed)) ag)))) (aT (fC (.bl false))) aK)
  (al (bd 10 (ah aH (fV 1) (ah aZ (ah aH (fV 3) (fC (.int 3))) (fC (.int 5)))))
  (eT (iD (fT (ah gd (fV 5) (fC (.str "names")))) (dZ (fT (au (bq a_is_deed) (aa (fV 4) (aa (fV 5) (aa (fV 10) (aa (fV 6) (aa (qL (fV 3) (rm (fC (.int 4))) rQ) ag))))))))) (aT (fC (.bl false))) aK))))))))) ρ:=Eq.trans rfl rfl
noncomputable def m8 (a_is_deed:Addr):FS:=(al (bd 1 (fe (aa (fC (.str "none")) (aa (fC (.str "whole")) (aa (fC (.str "halves")) (aa (fC (.str "splits")) (aa (fC (.str "one")) ag)))))))
  (al (io (jw im (aa (fB sv (aa (fC (.int 1)) (aa (fB kH (aa (fB eK (aa (fV 0) ag)) (aa (fC (.int 2)) ag))) ag))) ag)) (gN 2) (gZ a_is_deed))
  (aT (fC (.bl true)))))
theorem qt {a_is_deed:Addr}{ρ:ay}:(m8 a_is_deed) ρ=(al (bd 1 (fe (aa (fC (.str "none")) (aa (fC (.str "whole")) (aa (fC (.str "halves")) (aa (fC (.str "splits")) (aa (fC (.str "one")) ag)))))))
  (al (io (jw im (aa (fB sv (aa (fC (.int 1)) (aa (fB kH (aa (fB eK (aa (fV 0) ag)) (aa (fC (.int 2)) ag))) ag))) ag)) (gN 2) (gZ a_is_deed))
  (aT (fC (.bl true))))) ρ:=Eq.trans rfl rfl
noncomputable def Eg (a_is_deed:Addr):List PV->Option PR:=run 1 11 (m8 a_is_deed)
theorem wI {a_is_deed:Addr}{a0:PV}:(Eg a_is_deed) [a0]=((m8 a_is_deed) [some (.val a0),none,none,none,none,none,none,none,none,none,none]).res:=Eq.trans rfl rfl
end K17
end
section
namespace K17
open PySem L2 Fo Pu Dp
section
variable {n:Nat}{us us' ms ms':List Nat}{j y:Str}{d:Deed}
theorem y0:Pu.plain (dA us d)=true/\kr (dA us d)=0:=by
 cases d<;>simp[dA,Pu.plain,kr]
theorem yE:Pu.plain (gh j y us ms)=true/\kr (gh j y us ms)≤3:=by
 unfold gh
 simp[Pu.plain,aL,ce,kr,cz,dD]
theorem tV:aH (gh j y us ms) (.int 2)=some (.fz (.tup (ak us))):=rfl
theorem xr:aH (gh j y us ms) (.int 3)=some (.fz (.tup (ak ms))):=rfl
theorem Dr (f:Frst us)(f':Frst us')(lu:us.length=n)(s:Shorter us us'){x:Nat}(hx:x<n){s2 s3 z5:Option Sl} :
  ∃w5,bt [some (.val (gh j "none" us ms)),some (.val (gh j y us' ms')),s2,s3,some (.val (.int (x:Nat))),z5]=.nx [some (.val (gh j "none" us ms)),some (.val (gh j y us' ms')),s2,s3,some (.val (.int (x:Nat))),w5]:=by
 have hx1:x<us.length:=by omega
 have hx2:x<us'.length:=by rw[s.len];omega
 have e1:=ve (.inl rfl) f hx1
 have e2:=ve (.inl rfl) f' hx2
 have i1:L2.atI (ak us) x=some (.int (up us x:Nat)):=aJ hx1
 have i2:L2.atI (ak us') x=some (.int (up us' x:Nat)):=aJ hx2
 have m:decide (up us' x∈way us x)=true:=decide_eq_true (EA s f.fst hx1)
 have l:decide (((way us x).length:Int)<((way us' x).length:Int))=false:=decide_eq_false (by have:=(qg s f.fst hx1).2.2;omega)
 have t:=HR s hx1 f.fst
 refine⟨some (.val (.lst (ak (way us x)))),?_⟩
 by_cases q:up us x=x
 ·have q1:decide ((up us x:Int)=(x:Int))=true:=decide_eq_true (by omega)
  have q2:decide ((up us' x:Int)=(x:Int))=true:=decide_eq_true (by have:=t.mp q;omega)
  simp only[cP,EE,Nat.reduceAdd,Nat.reduceSub,Nat.reduceLeDiff,Nat.reduceLT,Nat.reduceEqDiff,Int.reduceLT,Int.reduceLE,Int.reduceAdd,Int.reduceSub,Int.reduceMul,Int.reduceMod,Int.reduceDiv,Int.reduceNeg,Int.reduceToNat,Int.reducePow,Int.reduceEq,tV,e1,e2,i1,i2,oe,m,l,q1,q2]
  rfl
 ·have q1:decide ((up us x:Int)=(x:Int))=false:=decide_eq_false (by omega)
  have q2:decide ((up us' x:Int)=(x:Int))=false:=decide_eq_false (fun z=>q (t.mpr (by omega)))
  simp only[cP,EE,Nat.reduceAdd,Nat.reduceSub,Nat.reduceLeDiff,Nat.reduceLT,Nat.reduceEqDiff,Int.reduceLT,Int.reduceLE,Int.reduceAdd,Int.reduceSub,Int.reduceMul,Int.reduceMod,Int.reduceDiv,Int.reduceNeg,Int.reduceToNat,Int.reducePow,Int.reduceEq,tV,e1,e2,i1,i2,oe,m,l,q1,q2]
  rfl
theorem wL (f:Frst us)(f':Frst us')(lu:us.length=n)(s:Shorter us us'){s2 s3:Option Sl}:∀(xs:List Nat) (z4 z5:Option Sl),(∀x∈xs,x<n) →
  ∃w4 w5,cR (gN 4) bt (ak xs) [some (.val (gh j "none" us ms)),some (.val (gh j y us' ms')),s2,s3,z4,z5]=.nx [some (.val (gh j "none" us ms)),some (.val (gh j y us' ms')),s2,s3,w4,w5]
 |[],z4,z5,_=>⟨z4,z5,rfl⟩
 |x::xs,z4,z5,h=>by
  obtain⟨w5,e⟩:=Dr (j:=j) (y:=y) (ms:=ms) (ms':=ms') f f' lu s (h x List.mem_cons_self) (s2:=s2) (s3:=s3) (z5:=z5)
  obtain⟨w4',w5',e'⟩:=wL f f' lu s xs (some (.val (.int (x:Nat)))) w5 fun q hq=>h q (List.mem_cons_of_mem _ hq)
  refine⟨w4',w5',?_⟩
  rw[←e',ia,hU]
  simp only[EE,Nat.reduceAdd,Nat.reduceSub,Nat.reduceLeDiff,Nat.reduceLT,Nat.reduceEqDiff,Int.reduceLT,Int.reduceLE,Int.reduceAdd,Int.reduceSub,Int.reduceMul,Int.reduceMod,Int.reduceDiv,Int.reduceNeg,Int.reduceToNat,Int.reducePow,Int.reduceEq,e]
theorem zW (hn2:n≤40)(f:Frst us)(f':Frst us')(lu:us.length=n)(s:Shorter us us'){A:PV}(pa:Pu.plain A=true/\kr A=0){c c':Nat}(hc:c'≤c) :
  bA [gh j "none" us ms,gh j y us' ms,.tup [A,.int (c:Nat)],.tup [A,.int (c':Nat)]]=some (.v (.bl true)):=by
 obtain⟨w4,w5,e⟩:=wL (j:=j) (y:=y) (ms:=ms) (ms':=ms) f f' lu s (s2:=some (.val (.tup [A,.int (c:Nat)]))) (s3:=some (.val (.tup [A,.int (c':Nat)]))) (List.range us.length) none none (fun x hx=>by rw[List.mem_range] at hx;omega)
 obtain⟨p1,p2⟩:=pa
 have dd:decide (kr A≤50)=true:=decide_eq_true (by omega)
 have pe:=lF p1
 have lc:decide ((c:Int)<(c':Int))=false:=decide_eq_false (by omega)
 have t0:∀k:Nat,aH (.tup [A,.int (k:Nat)]) (.int 0)=some (.fz A):=fun k=>rfl
 have t1:∀k:Nat,aH (.tup [A,.int (k:Nat)]) (.int 1)=some (.fz (.int (k:Nat))):=fun k=>rfl
 have r1:=(K1 (n:=us.length) (by omega)).1
 simp only[jB,i6,cP,EE,Nat.reduceAdd,Nat.reduceSub,Nat.reduceLeDiff,Nat.reduceLT,Nat.reduceEqDiff,Int.reduceLT,Int.reduceLE,Int.reduceAdd,Int.reduceSub,Int.reduceMul,Int.reduceMod,Int.reduceDiv,Int.reduceNeg,Int.reduceToNat,Int.reducePow,Int.reduceEq,tV,xr,t0,t1,p1,dd,pe,lc,dC,ce,dD,r1,e]
theorem BO (S:Sto n us ms)(hj:j∈jws)(hy:y∈manners){x:Nat}(hx:x<n):bK [gh j y us ms,.int (x:Nat)]=some (.v (.bl true)):=by
 have S1:=ja S (j:=j) hy (d:=.find x) hx
 have e1:=u9 S hj hy (d:=.find x) hx
 have e2:=u9 S1 hj hy (d:=.find x) hx
 obtain⟨f,lu,lm⟩:=S
 have hx1:x<us.length:=by omega
 have e3:=ve (.inl rfl) f hx1
 have h1:hd (eU y us x) x=hd us x:=rg f hx1 hy hx1
 have h2:=yV f hx1 hy
 have h3:=q5 f.fst hx1 y
 have pos:=(bN f.fst hx1).pos
 have c1:decide (((way us x).length:Int) - 1<(iy y us x:Int))=false:=decide_eq_false (by unfold dp at h3;omega)
 have c2:decide ((iy y us x:Int)<(iy y (eU y us x) x:Int))=false:=decide_eq_false (by omega)
 simp only[ip,dU,dM,dA,dS,Deed.pv,h1] at e1 e2
 have g1:aH (gh j y us ms) (.int 1)=some (.fz (.str y)):=rfl
 obtain⟨ps,pd⟩:=yE (j:=j) (y:=y) (us:=us) (ms:=ms)
 have dd:decide (kr (gh j y us ms)≤50)=true:=decide_eq_true (by omega)
 rcases s5 hy with rfl|rfl|rfl|rfl|rfl
 ·rw[xu] at e1 e2 c2
  have q:decide (("none" : Str) = "none")=true:=by decide
  simp only[bR,bu,EE,Nat.reduceAdd,Nat.reduceSub,Nat.reduceLeDiff,Nat.reduceLT,Nat.reduceEqDiff,Int.reduceLT,Int.reduceLE,Int.reduceAdd,Int.reduceSub,Int.reduceMul,Int.reduceMod,Int.reduceDiv,Int.reduceNeg,Int.reduceToNat,Int.reducePow,Int.reduceEq,e1,e2,e3,tV,xr,g1,c1,c2,dC,ce,dD,q,ps,dd,lF ps,xu]
 ·have q1:decide (("whole" : Str) = "none")=false:=by decide
  have q2:decide (("whole" : Str) = "whole")=true:=by decide
  have mn:(iy "whole" (eU "whole" us x) x:Int)=if (1:Int)<(iy "whole" us x:Int) then 1 else (iy "whole" us x:Int):=by rw[sD f hx1];split<;>omega
  have mq:decide ((iy "whole" (eU "whole" us x) x:Int)=if (1:Int)<(iy "whole" us x:Int) then 1 else (iy "whole" us x:Int))=true:=decide_eq_true mn
  simp only[bR,bu,EE,Nat.reduceAdd,Nat.reduceSub,Nat.reduceLeDiff,Nat.reduceLT,Nat.reduceEqDiff,Int.reduceLT,Int.reduceLE,Int.reduceAdd,Int.reduceSub,Int.reduceMul,Int.reduceMod,Int.reduceDiv,Int.reduceNeg,Int.reduceToNat,Int.reducePow,Int.reduceEq,e1,e2,e3,tV,xr,g1,c1,c2,dC,ce,dD,q1,q2,mq]
 ·have q1:decide (("halves" : Str) = "none")=false:=by decide
  have q2:decide (("halves" : Str) = "whole")=false:=by decide
  simp only[bR,bu,EE,Nat.reduceAdd,Nat.reduceSub,Nat.reduceLeDiff,Nat.reduceLT,Nat.reduceEqDiff,Int.reduceLT,Int.reduceLE,Int.reduceAdd,Int.reduceSub,Int.reduceMul,Int.reduceMod,Int.reduceDiv,Int.reduceNeg,Int.reduceToNat,Int.reducePow,Int.reduceEq,e1,e2,e3,tV,xr,g1,c1,c2,dC,ce,dD,q1,q2]
 ·have q1:decide (("splits" : Str) = "none")=false:=by decide
  have q2:decide (("splits" : Str) = "whole")=false:=by decide
  simp only[bR,bu,EE,Nat.reduceAdd,Nat.reduceSub,Nat.reduceLeDiff,Nat.reduceLT,Nat.reduceEqDiff,Int.reduceLT,Int.reduceLE,Int.reduceAdd,Int.reduceSub,Int.reduceMul,Int.reduceMod,Int.reduceDiv,Int.reduceNeg,Int.reduceToNat,Int.reducePow,Int.reduceEq,e1,e2,e3,tV,xr,g1,c1,c2,dC,ce,dD,q1,q2]
 ·have q1:decide (("one" : Str) = "none")=false:=by decide
  have q2:decide (("one" : Str) = "whole")=false:=by decide
  simp only[bR,bu,EE,Nat.reduceAdd,Nat.reduceSub,Nat.reduceLeDiff,Nat.reduceLT,Nat.reduceEqDiff,Int.reduceLT,Int.reduceLE,Int.reduceAdd,Int.reduceSub,Int.reduceMul,Int.reduceMod,Int.reduceDiv,Int.reduceNeg,Int.reduceToNat,Int.reducePow,Int.reduceEq,e1,e2,e3,tV,xr,g1,c1,c2,dC,ce,dD,q1,q2]
end
section
variable {a:Addr}{n:Nat}{p xs:List Nat}{j y:Str}{ds:List Deed}
theorem yw (g:Nat->Int)(n:Nat):Prm n (tS g n):=by
 have h:=lY g n
 exact⟨tD g n,h.nodup_iff.mpr List.nodup_range,fun x hx=>List.mem_range.mp (h.subset hx)⟩
theorem Aa {l:List Nat}(hl:∀u∈l,u<p.length):mH (gN 0) cr (aF a) [none,some (.val (.lst (ak p)))] (ak l)=some (ak (l.map (up p))):=by
 have e:=nb (t:=gN 0) (f:=aF a) (ρ:=[none,some (.val (.lst (ak p)))]) (fun u=>PV.int (up p u:Nat)) (us:=l) fun u hu=>by
  simp only[iA,EE,Nat.reduceAdd,Nat.reduceSub,Nat.reduceLeDiff,Nat.reduceLT,Nat.reduceEqDiff,Int.reduceLT,Int.reduceLE,Int.reduceAdd,Int.reduceSub,Int.reduceMul,Int.reduceMod,Int.reduceDiv,Int.reduceNeg,Int.reduceToNat,Int.reducePow,Int.reduceEq,aJ (hl u hu)]
 rw[e];unfold ak;rw[List.map_map];rfl
theorem IG (P:Prm n p){d:Deed}(h:d.ok n):(gN 0 d.pv [none,some (.val (.lst (ak p)))]).bind (fun ρ2=>((bh a) ρ2).bind RV.fr)=some (d.rn p).pv:=by
 cases d with
 |find x=>
  have hx:x<p.length:=by rw[P.len];exact h
  have g:=Aa (a:=a) (p:=p) (l:=[x]) (fun u hu=>by rw[List.mem_singleton.mp hu];exact hx)
  have g:mH (gN 0) cr (aF a) [none,some (.val (.lst (ak p)))] [.int (x:Nat)]=some [.int (up p x:Nat)]:=g
  have s:A0 (.tup [.str "find",.int (x:Nat)]) (some 1) none=some (.fz (.tup [.int (x:Nat)])):=rfl
  have i0:aH (.tup [.str "find",.int (x:Nat)]) (.int 0)=some (.fz (.str "find")):=rfl
  simp only[Deed.pv,Deed.rn,eP,EE,Nat.reduceAdd,Nat.reduceSub,Nat.reduceLeDiff,Nat.reduceLT,Nat.reduceEqDiff,Int.reduceLT,Int.reduceLE,Int.reduceAdd,Int.reduceSub,Int.reduceMul,Int.reduceMod,Int.reduceDiv,Int.reduceNeg,Int.reduceToNat,Int.reducePow,Int.reduceEq,s,i0,g]
 |join x z=>
  have hx:x<p.length:=by rw[P.len];exact h.1
  have hz:z<p.length:=by rw[P.len];exact h.2
  have g:=Aa (a:=a) (p:=p) (l:=[x,z]) (fun u hu=>by rcases List.mem_cons.mp hu with rfl|hu;exact hx;rw[List.mem_singleton.mp hu];exact hz)
  have g:mH (gN 0) cr (aF a) [none,some (.val (.lst (ak p)))] [.int (x:Nat),.int (z:Nat)]=some [.int (up p x:Nat),.int (up p z:Nat)]:=g
  have s:A0 (.tup [.str "join",.int (x:Nat),.int (z:Nat)]) (some 1) none=some (.fz (.tup [.int (x:Nat),.int (z:Nat)])):=rfl
  have i0:aH (.tup [.str "join",.int (x:Nat),.int (z:Nat)]) (.int 0)=some (.fz (.str "join")):=rfl
  simp only[Deed.pv,Deed.rn,eP,EE,Nat.reduceAdd,Nat.reduceSub,Nat.reduceLeDiff,Nat.reduceLT,Nat.reduceEqDiff,Int.reduceLT,Int.reduceLE,Int.reduceAdd,Int.reduceSub,Int.reduceMul,Int.reduceMod,Int.reduceDiv,Int.reduceNeg,Int.reduceToNat,Int.reducePow,Int.reduceEq,s,i0,g]
theorem Kx (P:Prm n p)(h:∀d∈ds,Deed.ok n d):mH (gN 0) cr (bh a) [none,some (.val (.lst (ak p)))] (ds.map Deed.pv)=some ((ds.map (Deed.rn p)).map Deed.pv):=by
 rw[List.map_map]
 exact jG Deed.pv (Deed.pv ∘ Deed.rn p) fun d hd=>IG P (h d hd)
theorem C9 {ps:List PV}{i:Int}:rz (.lst ps) (.int i)=(L2.atI ps i).map .fz:=Eq.trans rfl rfl
theorem CO {ps:List PV}{b:Bool}:rz (.lst ps) (.bl b)=(ps[yt b]?).map .fz:=Eq.trans rfl rfl
theorem lf {l:List Nat}{k:Nat}(h:k<l.length):(ak l)[k]?=some (.int (up l k:Nat)):=by
 unfold ak up
 rw[List.getElem?_map,List.getD_eq_getElem?_getD,List.getElem?_eq_getElem h];rfl
theorem BY (P:Prm n p){A B:List PV}{k:Nat}{d:Deed}{v w V1 V2 W1 W2:PV}{s0 s1 s2 s4 s6 s7 s11 s12:Option Sl}(ed:ds[k]?=some d)(ev:A[k]?=some v)(ew:B[k]?=some w)(h:KH n p d v w) :
  bn a [s0,s1,s2,some (.val (.tup (ds.map Deed.pv))),s4,some (.val (.lst (ak p))),s6,s7,some (.val (.tup [V1,.lst A,V2])),some (.val (.tup [W1,.lst B,W2])),some (.val (.int (k:Nat))),s11,s12] =
   .nx [s0,s1,s2,some (.val (.tup (ds.map Deed.pv))),s4,some (.val (.lst (ak p))),s6,s7,some (.val (.tup [V1,.lst A,V2])),some (.val (.tup [W1,.lst B,W2])),some (.val (.int (k:Nat))),s11,s12]:=by
 have a1:L2.atI A k=some v:=L2.eL ev
 have a2:L2.atI B k=some w:=L2.eL ew
 have a3:L2.atI (ds.map Deed.pv) k=some d.pv:=L2.eL (by rw[List.getElem?_map,ed];rfl)
 have i1:∀(X Y:PV) (l:List PV),aH (.tup [X,.lst l,Y]) (.int 1)=some (.fz (.lst l)):=fun X Y l=>rfl
 cases d with
 |find x=>
  obtain⟨h,hh,rfl,rfl⟩:=h
  have b1:L2.atI (ak p) h=some (.int (up p h:Nat)):=aJ (by rw[P.len];exact hh)
  have i0:aH (Deed.find x).pv (.int 0)=some (.fz (.str "find")):=rfl
  have q:decide (("find" : Str) = "find")=true:=by decide
  have l1:∀X Y:PV,L2.atI [X,Y] 1=some Y:=fun X Y=>rfl
  simp only[eR,EE,Nat.reduceAdd,Nat.reduceSub,Nat.reduceLeDiff,Nat.reduceLT,Nat.reduceEqDiff,Int.reduceLT,Int.reduceLE,Int.reduceAdd,Int.reduceSub,Int.reduceMul,Int.reduceMod,Int.reduceDiv,Int.reduceNeg,Int.reduceToNat,Int.reducePow,Int.reduceEq,i1,a1,a2,a3,i0,q,C9,b1,l1]
 |join x z=>
  obtain⟨b,rfl,rfl,hb⟩:=h
  have b1:=lf (l:=p) (k:=yt b) (by rw[P.len];exact hb)
  have i0:aH (Deed.join x z).pv (.int 0)=some (.fz (.str "join")):=rfl
  have l0:∀X Y:PV,L2.atI [X,Y] 0=some X:=fun X Y=>rfl
  have bb:(b==b)=true:=by cases b<;>rfl
  simp only[eR,EE,Nat.reduceAdd,Nat.reduceSub,Nat.reduceLeDiff,Nat.reduceLT,Nat.reduceEqDiff,Int.reduceLT,Int.reduceLE,Int.reduceAdd,Int.reduceSub,Int.reduceMul,Int.reduceMod,Int.reduceDiv,Int.reduceNeg,Int.reduceToNat,Int.reducePow,Int.reduceEq,i1,a1,a2,a3,i0,DD,CO,b1,l0,bb]
theorem wj (P:Prm n p){A B:List PV}{V1 V2 W1 W2:PV}{s0 s1 s2 s4 s6 s7 s11 s12:Option Sl}:∀(ks:List Nat) (z:Option Sl),(∀k∈ks,∃d v w,ds[k]?=some d/\A[k]?=some v/\B[k]?=some w/\KH n p d v w) →
  ∃z',cR (gN 10) (bn a) (ak ks) [s0,s1,s2,some (.val (.tup (ds.map Deed.pv))),s4,some (.val (.lst (ak p))),s6,s7,some (.val (.tup [V1,.lst A,V2])),some (.val (.tup [W1,.lst B,W2])),z,s11,s12] =
   .nx [s0,s1,s2,some (.val (.tup (ds.map Deed.pv))),s4,some (.val (.lst (ak p))),s6,s7,some (.val (.tup [V1,.lst A,V2])),some (.val (.tup [W1,.lst B,W2])),z',s11,s12]
 |[],z,_=>⟨z,rfl⟩
 |k::ks,z,h=>by
  obtain⟨d,v,w,ed,ev,ew,ha⟩:=h k List.mem_cons_self
  have e:=BY (a:=a) P (V1:=V1) (V2:=V2) (W1:=W1) (W2:=W2) (s0:=s0) (s1:=s1) (s2:=s2) (s4:=s4) (s6:=s6) (s7:=s7) (s11:=s11) (s12:=s12) ed ev ew ha
  obtain⟨z',e'⟩:=wj P ks (some (.val (.int (k:Nat)))) fun q hq=>h q (List.mem_cons_of_mem _ hq)
  refine⟨z',?_⟩
  rw[←e',ia,hU]
  simp only[EE,Nat.reduceAdd,Nat.reduceSub,Nat.reduceLeDiff,Nat.reduceLT,Nat.reduceEqDiff,Int.reduceLT,Int.reduceLE,Int.reduceAdd,Int.reduceSub,Int.reduceMul,Int.reduceMod,Int.reduceDiv,Int.reduceNeg,Int.reduceToNat,Int.reducePow,Int.reduceEq,e]
theorem yU (us:List Nat):us=(List.range us.length).map (up us):=by
 apply List.ext_getElem
 ·simp
 ·intro i h1 h2
  simp[up,h1]
theorem wS (h1:1≤n)(h2:n≤40)(hx:n≤xs.length)(hj:j∈jws)(hjn:j ≠ "names")(hy:y∈manners)(hd:∀d∈ds,Deed.ok n d)(hl:ds.length≤60) :
  bq a [.int (n:Nat),.str j,.str y,.tup (ds.map Deed.pv),.lst (ak xs)]=some (.v (.bl true)):=by
 generalize hg:(fun k:Nat=>(up xs k:Int) % 9949)=g
 have e1:mH (gN 0) cr (bX a) [none,some (.val (.lst (ak xs)))] (ak (List.range n))=some (Ai g (List.range n)):=nb _ fun u hu=>by
  have hu':=List.mem_range.mp hu
  simp only[ix,EE,Nat.reduceAdd,Nat.reduceSub,Nat.reduceLeDiff,Nat.reduceLT,Nat.reduceEqDiff,Int.reduceLT,Int.reduceLE,Int.reduceAdd,Int.reduceSub,Int.reduceMul,Int.reduceMod,Int.reduceDiv,Int.reduceNeg,Int.reduceToNat,Int.reducePow,Int.reduceEq,aJ (show u<xs.length by omega),←hg]
 have e2:mH (gN 0) cr (bW a) [none] (Ai g (tS g n))=some (ak (tS g n)):=xY g _ fun a b=>by
  simp only[iz,EE,Nat.reduceAdd,Nat.reduceSub,Nat.reduceLeDiff,Nat.reduceLT,Nat.reduceEqDiff,Int.reduceLT,Int.reduceLE,Int.reduceAdd,Int.reduceSub,Int.reduceMul,Int.reduceMod,Int.reduceDiv,Int.reduceNeg,Int.reduceToNat,Int.reducePow,Int.reduceEq]
 have e3:=vt g n (by omega)
 have P:=yw g n
 have pl:=wy g (tS g n)
 rw[tD] at pl
 generalize tS g n=p at e2 e3 P pl
 have S:Sto n (List.range n) (List.replicate n (pW j)):=⟨kN h1 h2,List.length_range,List.length_replicate⟩
 have rx:∀x,x<n->up (List.range n) x=x:=fun x hx=>by unfold up;rw[List.getD_eq_getElem?_getD,List.getElem?_range hx];rfl
 have mx:∀x,x<n->up (List.replicate n (pW j)) x=pW j:=fun x hx=>by unfold up;rw[List.getD_eq_getElem?_getD,List.getElem?_replicate_of_lt hx];rfl
 have R0:Rn n p (List.range n) (List.range n):=fun x hx=>by rw[rx x hx,rx _ (P.up_lt hx)]
 have M0:Rm n p (List.replicate n (pW j)) (List.replicate n (pW j)):=fun x hx=>by rw[mx x hx,mx _ (P.up_lt hx)]
 have hd':∀d∈ds.map (Deed.rn p),Deed.ok n d:=fun d hd1=>by
  obtain⟨d0,h0,rfl⟩:=List.mem_map.mp hd1
  exact Eu P (hd d0 h0)
 obtain⟨R,M,C,A⟩:=zQ P hjn hy ds _ _ _ _ S S R0 M0 hd
 have g4:=Kx (a:=a) P hd
 have er:=Ek (a:=a) hj hy S hd (by omega)
 have er':=Ek (a:=a) hj hy S hd' (by rw[List.length_map];omega)
 have S1:=qU (j:=j) hy ds _ _ S hd
 have S2:=qU (j:=j) hy _ _ _ S hd'
 have en:=Ee h1 h2 hj hy
 unfold Fm at er er'
 rw[C] at er'
 generalize A5 j y ds (List.range n) (List.replicate n (pW j))=A1 at *
 generalize A5 j y (ds.map (Deed.rn p)) (List.range n) (List.replicate n (pW j))=A2 at *
 generalize AT j y ds (List.range n) (List.replicate n (pW j))=CC at *
 generalize (so j y ds (List.range n) (List.replicate n (pW j))).1=U1 at *
 generalize (so j y ds (List.range n) (List.replicate n (pW j))).2=M1 at *
 generalize (so j y (ds.map (Deed.rn p)) (List.range n) (List.replicate n (pW j))).1=U2 at *
 generalize (so j y (ds.map (Deed.rn p)) (List.range n) (List.replicate n (pW j))).2=M2 at *
 generalize gh j y (List.range n) (List.replicate n (pW j))=T0 at *
 obtain⟨z',el⟩:=wj (a:=a) (ds:=ds) (A:=A1) (B:=A2) (V1:=gh j y U1 M1) (V2:=.lst (ak CC)) (W1:=gh j y U2 M2) (W2:=.lst (ak CC)) (s0:=some (.val (.int (n:Nat)))) (s1:=some (.val (.str j))) (s2:=some (.val (.str y))) (s4:=some (.val (.lst (ak xs)))) (s6:=some (.val (.tup ((ds.map (Deed.rn p)).map Deed.pv)))) (s7:=some (.val T0)) (s11:=none) (s12:=none) P (List.range ds.length) none (fun k hk=>A k (List.mem_range.mp hk))
 have i2:∀X Y Z:PV,aH (.tup [X,Y,Z]) (.int 2)=some (.fz Z):=fun X Y Z=>rfl
 have i0:∀X Y Z:PV,aH (.tup [X,Y,Z]) (.int 0)=some (.fz X):=fun X Y Z=>rfl
 have sl:A0 (gh j y U1 M1) (some 2) none=some (.fz (.tup [.tup (ak U1),.tup (ak M1)])):=rfl
 have g6:mH (gN 0) cr (bj a) [none,some (.val (.tup [gh j y U2 M2,.lst A2,.lst (ak CC)])),some (.val (.lst (ak p)))] (ak (List.range n))=some (ak (U1.map (up p))):=by
  have e:=nb (t:=gN 0) (f:=bj a) (ρ:=[none,some (.val (.tup [gh j y U2 M2,.lst A2,.lst (ak CC)])),some (.val (.lst (ak p)))]) (fun u=>PV.int (up U2 (up p u):Nat)) (us:=List.range n) fun u hu=>by
   have hu:=List.mem_range.mp hu
   have b1:L2.atI (ak p) u=some (.int (up p u:Nat)):=aJ (by rw[P.len];exact hu)
   have b2:L2.atI (ak U2) (up p u)=some (.int (up U2 (up p u):Nat)):=aJ (by rw[S2.lu];exact P.up_lt hu)
   simp only[iw,EE,Nat.reduceAdd,Nat.reduceSub,Nat.reduceLeDiff,Nat.reduceLT,Nat.reduceEqDiff,Int.reduceLT,Int.reduceLE,Int.reduceAdd,Int.reduceSub,Int.reduceMul,Int.reduceMod,Int.reduceDiv,Int.reduceNeg,Int.reduceToNat,Int.reducePow,Int.reduceEq,i0,tV,b1,b2]
  rw[e,yU U1,S1.lu]
  unfold ak
  rw[List.map_map,List.map_map]
  congr 1
  refine List.map_congr_left fun u hu=>?_
  show PV.int (up U2 (up p u):Nat)=PV.int (up p (up U1 u):Nat)
  rw[R u (List.mem_range.mp hu)]
 have g7:mH (gN 0) cr (bg a) [none,some (.val (.tup [gh j y U2 M2,.lst A2,.lst (ak CC)])),some (.val (.lst (ak p)))] (ak (List.range n))=some (ak M1):=by
  have e:=nb (t:=gN 0) (f:=bg a) (ρ:=[none,some (.val (.tup [gh j y U2 M2,.lst A2,.lst (ak CC)])),some (.val (.lst (ak p)))]) (fun u=>PV.int (up M2 (up p u):Nat)) (us:=List.range n) fun u hu=>by
   have hu:=List.mem_range.mp hu
   have b1:L2.atI (ak p) u=some (.int (up p u:Nat)):=aJ (by rw[P.len];exact hu)
   have b2:L2.atI (ak M2) (up p u)=some (.int (up M2 (up p u):Nat)):=aJ (by rw[S2.lm];exact P.up_lt hu)
   simp only[iB,EE,Nat.reduceAdd,Nat.reduceSub,Nat.reduceLeDiff,Nat.reduceLT,Nat.reduceEqDiff,Int.reduceLT,Int.reduceLE,Int.reduceAdd,Int.reduceSub,Int.reduceMul,Int.reduceMod,Int.reduceDiv,Int.reduceNeg,Int.reduceToNat,Int.reducePow,Int.reduceEq,i0,xr,b1,b2]
  rw[e,yU M1,S1.lm]
  unfold ak
  rw[List.map_map]
  congr 1
  refine List.map_congr_left fun u hu=>?_
  show PV.int (up M2 (up p u):Nat)=PV.int (up M1 u:Nat)
  rw[M u (List.mem_range.mp hu)]
 have g3:=Aa (a:=a) (p:=p) (l:=U1) (fun u hu=>by
  obtain⟨i,hi,rfl⟩:=List.mem_iff_getElem.mp hu
  have:=S1.f.fst.bnd i hi
  rw[P.len,←S1.lu]
  simpa [up,hi] using this)
 have c1:n<1000:=by omega
 have c2:ds.length<1000:=by omega
 have c3:U1.length<1000:=by rw[S1.lu];omega
 have c4:ds.length≤100000:=by omega
 have c5:M1.length≤100000:=by rw[S1.lm];omega
 have k1:=(K1 (n:=n) (by omega)).1
 have k2:=(K1 (n:=ds.length) (by omega)).1
 simp only[jh,iJ,EE,Nat.reduceAdd,Nat.reduceSub,Nat.reduceLeDiff,Nat.reduceLT,Nat.reduceEqDiff,Int.reduceLT,Int.reduceLE,Int.reduceAdd,Int.reduceSub,Int.reduceMul,Int.reduceMod,Int.reduceDiv,Int.reduceNeg,Int.reduceToNat,Int.reducePow,Int.reduceEq,k1,k2,List.length_range,List.length_map,c1,c2,c3,c4,c5,e1,e3,pl,e2,g4,en,er,er',i2,i0,dC,ce,dD,el,sl,g6,g7,g3]
end
noncomputable def gR (j:Str)(W:Str->List Nat)(M:List Nat):List PV:=manners.map fun y=>gh j y (W y) M
noncomputable def mP (j:Str)(W:Str->List Nat)(M:List Nat)(d:Deed):List PV:=manners.map fun y=>ip j y (W y) M d
structure Five (n:Nat)(W:Str->List Nat)(M:List Nat):Prop where
 s:∀y,y∈manners->Sto n (W y) M
 h:∀y,y∈manners->Shorter (W "none") (W y)
theorem Ie:("none" : Str)∈manners:=by decide
section
variable {a:Addr}{n:Nat}{j:Str}{W:Str->List Nat}{M:List Nat}{d:Deed}
noncomputable def W1 (j:Str)(W:Str->List Nat)(M:List Nat)(d:Deed)(y:Str):List Nat:=dU j y (W y) M d
noncomputable def M1 (j:Str)(W:Str->List Nat)(M:List Nat)(d:Deed):List Nat:=dM j (W "none") M d
theorem qu (V:Five n W M)(hd:d.ok n):Five n (W1 j W M d) (M1 j W M d)/\∀y,y∈manners->dM j (W y) M d=M1 j W M d/\dA (W y) d=dA (W "none") d/\dS y (W y) d≤dS "none" (W "none") d:=by
 have b:=fun y (hy:y∈manners)=>Ad (V.s _ Ie) (V.s y hy) (V.h y hy) (j:=j) hy hd
 refine⟨⟨fun y hy=>?_,fun y hy=>(b y hy).1⟩,fun y hy=>(b y hy).2⟩
 have:=ja (V.s y hy) (j:=j) hy hd
 rw[(b y hy).2.1] at this
 exact this
theorem zE (hn2:n≤40)(hj:j∈jws)(V:Five n W M)(hd:d.ok n){s0 s1 s2 s3 s4 s5 s6 z9 s10:Option Sl} :
  j8 a [s0,s1,s2,s3,s4,s5,s6,some (.val (.lst (gR j W M))),some (.val d.pv),z9,s10]=.nx [s0,s1,s2,s3,s4,s5,s6,some (.val (.lst (gR j (W1 j W M d) (M1 j W M d)))),some (.val d.pv),some (.val (.lst (mP j W M d))),s10]:=by
 obtain⟨V',B⟩:=qu (j:=j) V hd
 have g2:mH (gN 0) cr (ll a) [none,some (.val d.pv)] (gR j W M)=some (mP j W M d):=jG _ _ fun y hy=>by
  simp only[uS,EE,Nat.reduceAdd,Nat.reduceSub,Nat.reduceLeDiff,Nat.reduceLT,Nat.reduceEqDiff,Int.reduceLT,Int.reduceLE,Int.reduceAdd,Int.reduceSub,Int.reduceMul,Int.reduceMod,Int.reduceDiv,Int.reduceNeg,Int.reduceToNat,Int.reducePow,Int.reduceEq,u9 (V.s y hy) hj hy hd]
 have g3:mH (gN 0) cr (lj a) [none] (mP j W M d)=some (gR j (W1 j W M d) (M1 j W M d)):=jG _ _ fun y hy=>by
  have e0:aH (ip j y (W y) M d) (.int 0)=some (.fz (gh j y (W1 j W M d y) (dM j (W y) M d))):=rfl
  rw[(B y hy).1] at e0
  simp only[uV,EE,Nat.reduceAdd,Nat.reduceSub,Nat.reduceLeDiff,Nat.reduceLT,Nat.reduceEqDiff,Int.reduceLT,Int.reduceLE,Int.reduceAdd,Int.reduceSub,Int.reduceMul,Int.reduceMod,Int.reduceDiv,Int.reduceNeg,Int.reduceToNat,Int.reducePow,Int.reduceEq,e0]
 have i1:aH (.lst (gR j (W1 j W M d) (M1 j W M d))) (.int 0)=some (.fz (gh j "none" (W1 j W M d "none") (M1 j W M d))):=rfl
 have i2:aH (.lst (mP j W M d)) (.int 0)=some (.fz (ip j "none" (W "none") M d)):=rfl
 have g4:mH (gN 0) cr (lg a) [none,some (.val (.lst (gR j (W1 j W M d) (M1 j W M d)))),some (.val (.lst (mP j W M d)))] (mP j W M d)=some (manners.map fun _=>PV.bl true):=jG _ _ fun y hy=>by
  have e0:aH (ip j y (W y) M d) (.int 0)=some (.fz (gh j y (W1 j W M d y) (dM j (W y) M d))):=rfl
  have e1:∀y,A0 (ip j y (W y) M d) (some 1) none=some (.fz (.tup [dA (W y) d,.int (dS y (W y) d:Nat)])):=fun y=>rfl
  have e2:=e1 y
  rw[(B y hy).1] at e0
  rw[(B y hy).2.1] at e2
  have tb:=zW (j:=j) (y:=y) (ms:=M1 j W M d) hn2 (V'.s _ Ie).f (V'.s y hy).f (V'.s _ Ie).lu (V'.h y hy) (y0 (us:=W "none") (d:=d)) (B y hy).2.2
  simp only[u8,EE,Nat.reduceAdd,Nat.reduceSub,Nat.reduceLeDiff,Nat.reduceLT,Nat.reduceEqDiff,Int.reduceLT,Int.reduceLE,Int.reduceAdd,Int.reduceSub,Int.reduceMul,Int.reduceMod,Int.reduceDiv,Int.reduceNeg,Int.reduceToNat,Int.reducePow,Int.reduceEq,i1,i2,e0,e1 "none",e2,tb]
 have l1:(gR j W M).length=5:=rfl
 have l2:(mP j W M d).length=5:=rfl
 have l3:(manners.map fun _=>PV.bl true).length=5:=rfl
 simp only[vL,EE,Nat.reduceAdd,Nat.reduceSub,Nat.reduceLeDiff,Nat.reduceLT,Nat.reduceEqDiff,Int.reduceLT,Int.reduceLE,Int.reduceAdd,Int.reduceSub,Int.reduceMul,Int.reduceMod,Int.reduceDiv,Int.reduceNeg,Int.reduceToNat,Int.reducePow,Int.reduceEq,l1,l2,l3,g2,g3,g4,z0,zX]
theorem tP (hn2:n≤40)(hj:j∈jws){s0 s1 s2 s3 s4 s5 s6 s10:Option Sl}:∀(ds:List Deed) (W:Str->List Nat) (M:List Nat) (z8 z9:Option Sl),Five n W M->(∀d∈ds,Deed.ok n d) →
  ∃W' M' w8 w9,Five n W' M'/\cR (gN 8) (j8 a) (ds.map Deed.pv) [s0,s1,s2,s3,s4,s5,s6,some (.val (.lst (gR j W M))),z8,z9,s10]=.nx [s0,s1,s2,s3,s4,s5,s6,some (.val (.lst (gR j W' M'))),w8,w9,s10]
 |[],W,M,z8,z9,V,_=>⟨W,M,z8,z9,V,rfl⟩
 |d::ds,W,M,z8,z9,V,h=>by
  have hok:=h d List.mem_cons_self
  obtain⟨V',_⟩:=qu (j:=j) V hok
  obtain⟨W',M',w8,w9,V2,e⟩:=tP hn2 hj (s0:=s0) (s1:=s1) (s2:=s2) (s3:=s3) (s4:=s4) (s5:=s5) (s6:=s6) (s10:=s10) ds _ _ (some (.val d.pv)) (some (.val (.lst (mP j W M d)))) V' fun q hq=>h q (List.mem_cons_of_mem _ hq)
  refine⟨W',M',w8,w9,V2,?_⟩
  rw[List.map_cons,hU,←e]
  simp only[EE,Nat.reduceAdd,Nat.reduceSub,Nat.reduceLeDiff,Nat.reduceLT,Nat.reduceEqDiff,Int.reduceLT,Int.reduceLE,Int.reduceAdd,Int.reduceSub,Int.reduceMul,Int.reduceMod,Int.reduceDiv,Int.reduceNeg,Int.reduceToNat,Int.reducePow,Int.reduceEq,zE hn2 hj V hok]
end
noncomputable def wds:List PV:=[.str "none",.str "whole",.str "halves",.str "splits",.str "one"]
theorem tX (ns:List Int)(a:Addr){at':Nat}(ha:at'≤1)(z3 z4 z5 z6 z7 z8 z9 z10:Option Sl):∃w3 w4 w5 w6 w7 w8 w9 w10,
  gZ a [some (.val (.src (iL ns))),some (.val (.lst wds)),some (.val (.int (at':Nat))),z3,z4,z5,z6,z7,z8,z9,z10]=.nx [some (.val (.src (iL ns))),some (.val (.lst wds)),some (.val (.int (at':Nat))),w3,w4,w5,w6,w7,w8,w9,w10]:=by
 obtain⟨c,ec⟩:=r6 ns ((60:Int)+(at':Int)) (by omega) (by omega)
 obtain⟨xs,hx,ex⟩:=ki c 48 (by decide) (by decide)
 have hx:xs.length=48:=hx
 obtain⟨n,n1,n2,em⟩:=CK (up xs 0)
 have i0:L2.atI (ak xs) 0=some (.int (up xs 0:Nat)):=aJ (x:=0) (by omega)
 have i1:L2.atI (ak xs) 1=some (.int (up xs 1:Nat)):=aJ (x:=1) (by omega)
 have i2:L2.atI (ak xs) 2=some (.int (up xs 2:Nat)):=aJ (x:=2) (by omega)
 have i3:L2.atI (ak xs) 3=some (.int (up xs 3:Nat)):=aJ (x:=3) (by omega)
 have h4:up xs 1 % 4<jws.length:=Nat.mod_lt _ (by decide)
 have h5:up xs 3 % 5<manners.length:=Nat.mod_lt _ (by decide)
 have e4:L2.atI [PV.str "size",.str "rank",.str "told",.str "names"] ((up xs 1:Int) % 4)=some (.str jws[up xs 1 % 4]):=wc jws h4
 have e5:L2.atI wds ((up xs 3:Int) % 5)=some (.str manners[up xs 3 % 5]):=wc manners h5
 have hj:jws[up xs 1 % 4]∈jws:=List.getElem_mem h4
 have hy:manners[up xs 3 % 5]∈manners:=List.getElem_mem h5
 generalize jws[up xs 1 % 4]=j at e4 hj
 generalize manners[up xs 3 % 5]=y at e5 hy
 obtain⟨ds,h1,h2,ed⟩:=zt ns (at':=at') (n:=n) (m:=40) n1 n2 (by omega) (by decide)
 have ed:ca [.src (iL ns),.int (at':Nat),.int n,.int 40]=some (.v (.tup (ds.map Deed.pv))):=ed
 have S:Sto n (List.range n) (List.replicate n (pW j)):=⟨kN n1 n2,List.length_range,List.length_replicate⟩
 have V:Five n (fun _=>List.range n) (List.replicate n (pW j)):=⟨fun _ _=>S,fun _ _=>Gd n1 n2⟩
 have g1:mH (gN 0) cr (lv a) [none,some (.val (.int (n:Nat))),some (.val (.str j))] wds=some (gR j (fun _=>List.range n) (List.replicate n (pW j))):=jG (l:=manners) PV.str (fun y=>gh j y (List.range n) (List.replicate n (pW j))) fun y hy=>by
  simp only[vR,EE,Nat.reduceAdd,Nat.reduceSub,Nat.reduceLeDiff,Nat.reduceLT,Nat.reduceEqDiff,Int.reduceLT,Int.reduceLE,Int.reduceAdd,Int.reduceSub,Int.reduceMul,Int.reduceMod,Int.reduceDiv,Int.reduceNeg,Int.reduceToNat,Int.reducePow,Int.reduceEq,Ee n1 n2 hj hy]
 obtain⟨W',M',w8,w9,V',el⟩:=tP (a:=a) n2 hj (s0:=some (.val (.src (iL ns)))) (s1:=some (.val (.lst wds))) (s2:=some (.val (.int (at':Nat)))) (s3:=some (.val (.lst (ak xs)))) (s4:=some (.val (.int (n:Nat)))) (s5:=some (.val (.str j))) (s6:=some (.val (.tup (ds.map Deed.pv)))) (s10:=z10) ds _ _ z8 z9 V h1
 have pn:(0:Int)<(n:Int):=by omega
 have m2:(up xs 2:Int) % (n:Int)=((up xs 2 % n:Nat):Int):=rfl
 have g6:mH (gN 0) cr (lL a) [none,some (.val (.lst (ak xs))),some (.val (.int (n:Nat)))] (gR j W' M')=some (manners.map fun _=>PV.bl true):=jG _ _ fun y hy=>by
  have tb:=BO (V'.s y hy) hj hy (x:=up xs 2 % n) (Nat.mod_lt _ (by omega))
  simp only[vD,EE,Nat.reduceAdd,Nat.reduceSub,Nat.reduceLeDiff,Nat.reduceLT,Nat.reduceEqDiff,Int.reduceLT,Int.reduceLE,Int.reduceAdd,Int.reduceSub,Int.reduceMul,Int.reduceMod,Int.reduceDiv,Int.reduceNeg,Int.reduceToNat,Int.reducePow,Int.reduceEq,i2,pn,m2,tb]
 have l0:wds.length=5:=rfl
 have l1:(gR j W' M').length=5:=rfl
 have l3:(manners.map fun _=>PV.bl true).length=5:=rfl
 have k4:cut (ak xs) (some 4) none=ak (xs.drop 4):=(sJ xs (some ((4:Nat):Int)) none).trans (congrArg ak (sr xs 4))
 have tr:=fun q=>wS (a:=a) (xs:=xs.drop 4) n1 n2 (by rw[List.length_drop];omega) hj q hy h1 (by omega)
 refine⟨some (.val (.lst (ak xs))),some (.val (.int (n:Nat))),some (.val (.str j)),some (.val (.tup (ds.map Deed.pv))),some (.val (.lst (gR j W' M'))),w8,w9,some (.val (.str y)),?_⟩
 by_cases q:j = "names"
 ·have q':decide (j = "names")=true:=decide_eq_true q
  simp only[oQ,EE,Nat.reduceAdd,Nat.reduceSub,Nat.reduceLeDiff,Nat.reduceLT,Nat.reduceEqDiff,Int.reduceLT,Int.reduceLE,Int.reduceAdd,Int.reduceSub,Int.reduceMul,Int.reduceMod,Int.reduceDiv,Int.reduceNeg,Int.reduceToNat,Int.reducePow,Int.reduceEq,ec,ex,i0,i1,i3,em,e4,e5,ed,g1,el,g6,l0,l1,l3,z0,zX,q']
 ·have q':decide (j = "names")=false:=decide_eq_false q
  simp only[oQ,EE,Nat.reduceAdd,Nat.reduceSub,Nat.reduceLeDiff,Nat.reduceLT,Nat.reduceEqDiff,Int.reduceLT,Int.reduceLE,Int.reduceAdd,Int.reduceSub,Int.reduceMul,Int.reduceMod,Int.reduceDiv,Int.reduceNeg,Int.reduceToNat,Int.reducePow,Int.reduceEq,ec,ex,i0,i1,i3,em,e4,e5,ed,g1,el,g6,l0,l1,l3,z0,zX,q',k4,tr q]
theorem y8 {a:Addr}:∀ns:List Int,ns.length≤63->run 1 11 (m8 a) [.src (ns.map PV.int)]=some (.v (.bl true)):=fun ns hn=>by
 obtain⟨a3,a4,a5,a6,a7,a8,a9,a10,e1⟩:=tX ns a (at':=0) (by decide) none none none none none none none none
 obtain⟨b3,b4,b5,b6,b7,b8,b9,b10,e2⟩:=tX ns a (at':=1) (by decide) a3 a4 a5 a6 a7 a8 a9 a10
 have e1:gZ a [some (.val (.src (ns.map PV.int))),some (.val (.lst wds)),some (.val (.int 0)),none,none,none,none,none,none,none,none]=_:=e1
 have e2:gZ a [some (.val (.src (ns.map PV.int))),some (.val (.lst wds)),some (.val (.int 1)),a3,a4,a5,a6,a7,a8,a9,a10]=_:=e2
 have l1:cR (gN 2) (gZ a) [.int 0] [some (.val (.src (ns.map PV.int))),some (.val (.lst wds)),none,none,none,none,none,none,none,none,none]=.nx [some (.val (.src (iL ns))),some (.val (.lst wds)),some (.val (.int (0:Nat))),a3,a4,a5,a6,a7,a8,a9,a10]:=by
  rw[hU]
  simp only[EE,Nat.reduceAdd,Nat.reduceSub,Nat.reduceLeDiff,Nat.reduceLT,Nat.reduceEqDiff,Int.reduceLT,Int.reduceLE,Int.reduceAdd,Int.reduceSub,Int.reduceMul,Int.reduceMod,Int.reduceDiv,Int.reduceNeg,Int.reduceToNat,Int.reducePow,Int.reduceEq,e1]
 have l2:cR (gN 2) (gZ a) [.int 0,.int 1] [some (.val (.src (ns.map PV.int))),some (.val (.lst wds)),none,none,none,none,none,none,none,none,none]=.nx [some (.val (.src (iL ns))),some (.val (.lst wds)),some (.val (.int (1:Nat))),b3,b4,b5,b6,b7,b8,b9,b10]:=by
  rw[hU]
  simp only[EE,Nat.reduceAdd,Nat.reduceSub,Nat.reduceLeDiff,Nat.reduceLT,Nat.reduceEqDiff,Int.reduceLT,Int.reduceLE,Int.reduceAdd,Int.reduceSub,Int.reduceMul,Int.reduceMod,Int.reduceDiv,Int.reduceNeg,Int.reduceToNat,Int.reducePow,Int.reduceEq,e1]
  rw[hU]
  show uI (some [some (.val (.src (ns.map PV.int))),some (.val (.lst wds)),some (.val (.int 1)),a3,a4,a5,a6,a7,a8,a9,a10]) _ _ _=_
  simp only[EE,Nat.reduceAdd,Nat.reduceSub,Nat.reduceLeDiff,Nat.reduceLT,Nat.reduceEqDiff,Int.reduceLT,Int.reduceLE,Int.reduceAdd,Int.reduceSub,Int.reduceMul,Int.reduceMod,Int.reduceDiv,Int.reduceNeg,Int.reduceToNat,Int.reducePow,Int.reduceEq,e2]
 unfold wds at l1 l2
 show Eg a [.src (ns.map PV.int)]=_
 have r1:im [.int 1]=some [.int 0]:=rfl
 have r2:im [.int 2]=some [.int 0,.int 1]:=rfl
 by_cases q:2≤ns.length
 ·have q1:(if (2:Int)<(ns.length:Int) then (2:Int) else (ns.length:Int))=2:=by split<;>omega
  have q2:(if (2:Int) > 1 then (2:Int) else 1)=2:=by decide
  simp only[wI,qt,EE,Nat.reduceAdd,Nat.reduceSub,Nat.reduceLeDiff,Nat.reduceLT,Nat.reduceEqDiff,Int.reduceLT,Int.reduceLE,Int.reduceAdd,Int.reduceSub,Int.reduceMul,Int.reduceMod,Int.reduceDiv,Int.reduceNeg,Int.reduceToNat,Int.reducePow,Int.reduceEq,List.length_map,q1,q2,r2,l2]
 ·have q1:(if (2:Int)<(ns.length:Int) then (2:Int) else (ns.length:Int))=(ns.length:Int):=if_neg (by omega)
  have q2:(if (ns.length:Int) > 1 then (ns.length:Int) else 1)=1:=if_neg (by omega)
  simp only[wI,qt,EE,Nat.reduceAdd,Nat.reduceSub,Nat.reduceLeDiff,Nat.reduceLT,Nat.reduceEqDiff,Int.reduceLT,Int.reduceLE,Int.reduceAdd,Int.reduceSub,Int.reduceMul,Int.reduceMod,Int.reduceDiv,Int.reduceNeg,Int.reduceToNat,Int.reducePow,Int.reduceEq,List.length_map,q1,q2,r1,l1]
end K17
end
section
section
namespace O17
open PySem L2
noncomputable def top (i:Nat):Stmt:=PySem.Challenge.pw_lotheads_k17_whole_manners_beside_each_o.main.body.getD i (.Pass ⟨0,0,0,0⟩)
structure Txt (mg:Str->Option Value):Prop where
 n_abs:mg "abs" = none
 n_all:mg "all" = none
 n_bool:mg "bool" = none
 n_enumerate:mg "enumerate" = none
 n_int:mg "int" = none
 n_isinstance:mg "isinstance" = none
 n_len:mg "len" = none
 n_list:mg "list" = none
 n_max:mg "max" = none
 n_min:mg "min" = none
 n_range:mg "range" = none
 n_sorted:mg "sorted" = none
 n_str:mg "str" = none
 n_tuple:mg "tuple" = none
 c_MOST_THINGS:∃t,mg "MOST_THINGS" = some (.int 40 t)
section
variable {P:Program}{w:World}{K:PySem.W.Frag}{mg:Str->Option Value}{base:Heap}
noncomputable abbrev nV (n:Nat):V:=.int (n:Int)
theorem fj {us:List Nat}{x:Nat}(hx:x<us.length):atI (us.map nV) (x:Int)=some (nV (us.getD x 0)):=by
 refine eL ?_
 rw[List.getElem?_map,List.getElem?_eq_getElem hx]
 simp[hx]
end
end O17
end
section
namespace O17
open PySem L2
end O17
end
section
namespace O17
open PySem L2
theorem rA {n k:Nat}(h:k<n):qi n (k:Int)=some k:=by
 unfold qi
 rw[if_pos (by omega),if_pos (by omega),Int.toNat_natCast]
section
variable {P:Program}{w:World}{K:PySem.W.Frag}{mg:Str->Option Value}{base:Heap}
end
end O17
end
section
namespace O17
open PySem L2 Fo
noncomputable def SB (a:Addr)(H H':Hp):Prop:=∀b o,b≠a->H b=some o->H' b=some o
theorem SB.refl {a:Addr}{H:Hp}:SB a H H:=fun _ _ _ h=>h
theorem SB.upd {a:Addr}{H H':Hp}(s:SB a H H')(o:HO):SB a H (upd H' a o):=fun b q n h=>by rw[aC n];exact s b q n h
theorem SB.new {a p:Addr}{H H':Hp}(s:SB a H H')(hp:H' p=none)(o:HO):SB a H (L2.upd H' p o):=fun b q n h=>by
 rw[aC (bf (s b q n h) hp)];exact s b q n h
noncomputable def eS (R:List Nat->Nat->Nat->List Nat->Nat->Prop):Sp:=fun vs H Q _=>∃(a:Addr) (us:List Nat) (x:Nat),vs=[.ref a,.int x]/\H a=some (.lst (us.map nV))/\us.length≤40/\Fst us/\x<us.length ∧
 ∀h us' n p H',R us x h us' n->SB a H H'->H' a=some (.lst (us'.map nV))->H' p=some (.tup [nV h,nV n])->Q (.ref p) H'
theorem zr {u y:Nat}:decide (nV u=nV y)=decide (u=y):=by
 rw[wb,Bool.eq_iff_iff,beq_iff_eq,decide_eq_true_iff]
 omega
theorem kd {vs:List Nat}{y v:Nat}:(vs.map nV).set y (nV v)=(vs.set y v).map nV:=by rw[List.map_set]
theorem wC {vs:List Nat}{y v:Nat}(hb:∀z,z<vs.length->up vs z<vs.length)(hy:y<vs.length)(hv:v<vs.length):∀z,z<(vs.set y v).length->up (vs.set y v) z<(vs.set y v).length:=fun z hz=>by
 rw[List.length_set] at hz ⊢
 rw[bv hy]
 split
 ·exact hv
 ·exact hb z hz
theorem AK {p l:List Nat}{y:Nat}(h:l≠[]):cp (p++y::l)=cp l:=by
 induction p with
 |nil=>exact bM h
 |cons z p ih=>rw[List.cons_append,bM (by simp)];exact ih
structure WInv (a:Addr)(x:Nat)(us l:List Nat)(n:Nat)(H:Hp)(m:Nat)(σ:St)(H':Hp):Prop where
 mk' ::
 it:∃vs y pre l2 z,σ=[some (.ref a),some (nV x),some (nV (cp l)),some (nV n),some (nV y),z]/\H' a=some (.lst (vs.map nV))/\SB a H H'/\vs.length=us.length/\(∀t,up vs t=if t∈pre then cp l else up us t)/\l=pre++l2/\Way us y l2/\l2.length=m
structure HInv (a:Addr)(x:Nat)(us':List Nat)(h N len:Nat)(H:Hp)(Rl:List Nat->Nat->Nat->List Nat->Nat->Prop)(m:Nat)(σ:St)(H':Hp):Prop where
 mk' ::
 it:∃vs y k,σ=[some (.ref a),some (nV x),some (nV y),some (nV k)]/\H' a=some (.lst (vs.map nV))/\SB a H H'/\y<len/\vs.length=len/\(∀z,z<vs.length->up vs z<vs.length)/\Rl vs y h us' m/\k+m=N
section
variable {P:Program}{w:World}{K:PySem.W.Frag}{mg:Str->Option Value}{base:Heap}
noncomputable abbrev dl:Stmt:=top 13
theorem sc_find_none:FnScope ["ups","x","at","steps"] ["ups","x"] (af dl):=⟨rfl,rfl,rfl,by decide +kernel,rfl,by decide +kernel,by decide +kernel⟩
theorem rl (T:Txt mg)(F:FunD K mg "find_none" dl ["ups","x"]):Def P w K mg base 1 "find_none" ["ups","x"] (eS t9):=by
 refine F.ok sc_find_none (fun vs H Q E h=>by obtain⟨m,v,x,rfl,_⟩:=h;rfl) (fun f cdv A outer s H vs Q E hr h=>?_)
 obtain⟨a,us,x,rfl,ha,h40,hf,hx,q⟩:=h
 refine⟨_,(aU (aN (i:=2) sc_find_none.nd rfl (by first|exact Or.inl rfl|exact Or.inr rfl) (pv 1))
  (aU (aN (i:=3) sc_find_none.nd rfl (by first|exact Or.inl rfl|exact Or.inr rfl) kW)
  (aU (ka PassesOwn.never (ly wH (iC (jo (K:=K) rfl) (pv 0) (pv 2) (fun _ _=>rfl)) (pv 2) (aI _)) (aU (aN (i:=2) sc_find_none.nd rfl (by first|exact Or.inl rfl|exact Or.inr rfl) (iC (jo (K:=K) rfl) (pv 0) (pv 2) (fun _ _=>rfl)))
  (fg (uR (i:=3) sc_find_none.nd rfl (by first|exact Or.inl rfl|exact Or.inr rfl) kW uG))))
  (fg (iO (kR (aW ad (pv 2) (aW ad (pv 3) fW)))))))),?_⟩
 (try dsimp only[gy,di,cW,gu,cX,gz,mv,gm,bY,cS,eE,gD,bF,kO,mI,jm,rI,rU,tC,tB,cV,mF,gJ,gB,db,dN,bO,gA,gK,kl,mk,df,bc,cq,lh,gv,lU,fP,cN,fX,fo,cT,ge,dQ,gd,ga,gf,cJ,gp,gx,dc,gP,cM,dn,bL,fU,L2.be,List.map_cons,List.map_nil,List.length_cons,List.length_nil,List.replicate,List.cons_append,List.nil_append,List.append_nil,List.getElem?_cons_zero,List.getElem?_cons_succ,List.set_cons_zero,List.set_cons_succ,List.getElem?_nil,Option.bind_some,Option.bind_none,Option.join_some,Option.join_none,Nat.add_one_sub_one,Nat.reduceSub,Nat.reduceAdd]);simp only[gy,di,cW,gu,cX,gz,mv,gm,bY,cS,eE,gD,bF,kO,mI,jm,rI,rU,tC,tB,cV,mF,gJ,gB,db,dN,bO,gA,gK,kl,mk,df,bc,cq,lh,gv,lU,fP,cN,fX,fo,cT,ge,dQ,gd,ga,gf,cJ,gp,gx,dc,gP,cM,dn,bL,fU,L2.be,List.map_cons,List.map_nil,List.length_cons,List.length_nil,List.replicate,List.cons_append,List.nil_append,List.append_nil,List.getElem?_cons_zero,List.getElem?_cons_succ,List.set_cons_zero,List.set_cons_succ,List.getElem?_nil,Option.bind_some,Option.bind_none,Option.join_some,Option.join_none,Option.some.injEq,V.int.injEq,V.bl.injEq,V.ref.injEq,List.cons.injEq,and_true,true_and,exists_eq_left,exists_eq_left',exists_eq_right,exists_and_left,Nat.add_one_sub_one,Nat.reduceSub,Nat.sub_self,Nat.reduceAdd,Nat.zero_add,Int.toNat_natCast,List.length_map,V.ty.injEq,V.str.injEq,and_assoc,gM,i8,Bool.not_true,Bool.not_false,Bool.false_eq_true,if_true,if_false]
 obtain⟨l,wl,hl⟩:=hf.way hx
 refine⟨fun m σ H'=>H'=H/\∃y k l2,σ=[some (.ref a),some (nV x),some (nV y),some (nV k)]/\Way us y l2/\y<us.length/\l2.length=m/\k+l2.length=l.length/\cp l2=cp l,⟨l.length,rfl,x,0,l,rfl,wl,hx,rfl,by omega,rfl⟩,?_⟩
 rintro m σ H' ⟨rfl,y,k,l2,rfl,w2,hy,rfl,e1,e2⟩
 (try dsimp only[gy,di,cW,gu,cX,gz,mv,gm,bY,cS,eE,gD,bF,kO,mI,jm,rI,rU,tC,tB,cV,mF,gJ,gB,db,dN,bO,gA,gK,kl,mk,df,bc,cq,lh,gv,lU,fP,cN,fX,fo,cT,ge,dQ,gd,ga,gf,cJ,gp,gx,dc,gP,cM,dn,bL,fU,L2.be,List.map_cons,List.map_nil,List.length_cons,List.length_nil,List.replicate,List.cons_append,List.nil_append,List.append_nil,List.getElem?_cons_zero,List.getElem?_cons_succ,List.set_cons_zero,List.set_cons_succ,List.getElem?_nil,Option.bind_some,Option.bind_none,Option.join_some,Option.join_none,Nat.add_one_sub_one,Nat.reduceSub,Nat.reduceAdd]);simp only[gy,di,cW,gu,cX,gz,mv,gm,bY,cS,eE,gD,bF,kO,mI,jm,rI,rU,tC,tB,cV,mF,gJ,gB,db,dN,bO,gA,gK,kl,mk,df,bc,cq,lh,gv,lU,fP,cN,fX,fo,cT,ge,dQ,gd,ga,gf,cJ,gp,gx,dc,gP,cM,dn,bL,fU,L2.be,List.map_cons,List.map_nil,List.length_cons,List.length_nil,List.replicate,List.cons_append,List.nil_append,List.append_nil,List.getElem?_cons_zero,List.getElem?_cons_succ,List.set_cons_zero,List.set_cons_succ,List.getElem?_nil,Option.bind_some,Option.bind_none,Option.join_some,Option.join_none,Option.some.injEq,V.int.injEq,V.bl.injEq,V.ref.injEq,List.cons.injEq,and_true,true_and,exists_eq_left,exists_eq_left',exists_eq_right,exists_and_left,Nat.add_one_sub_one,Nat.reduceSub,Nat.sub_self,Nat.reduceAdd,Nat.zero_add,Int.toNat_natCast,List.length_map,V.ty.injEq,V.str.injEq,and_assoc,gM,i8,Bool.not_true,Bool.not_false,Bool.false_eq_true,if_true,if_false]
 refine⟨us.map nV,SqL.of ha,_,fj hy,rfl,?_⟩
 rw[show decide (nV (us.getD y 0)=nV y)=decide (up us y=y) from zr]
 cases w2 with
 |head e=>
  rw[decide_eq_true e]
  refine⟨by decide,fun p hp=>q _ us k p _ ⟨rfl,l,wl,?_,by simpa using e1⟩ (SB.refl.new hp _) (by rw[aC (bf ha hp)];exact ha) aw⟩
  exact e2
 | @step _ l3 n w3=>
  rw[decide_eq_false n]
  refine⟨fun σ' H''=>H''=H'/\σ'=[some (.ref a),some (nV x),some (nV (up us y)),some (.int (k+1))],fun σ' H'' e=>?_,us.map nV,SqL.of ha,_,fj hy,rfl,rfl⟩
  obtain⟨rfl,rfl⟩:=e
  exact⟨l3.length,by simp,rfl,up us y,k+1,rfl,l3,w3,hf.bnd y hy,rfl,by rw[←e1];simp;omega,by rw[←e2,bM w3.ne]⟩
noncomputable abbrev cj:Stmt:=top 15
theorem sc_find_halves:FnScope ["ups","x","at","steps"] ["ups","x"] (af cj):=⟨rfl,rfl,rfl,by decide +kernel,rfl,by decide +kernel,by decide +kernel⟩
theorem nU (T:Txt mg)(F:FunD K mg "find_halves" cj ["ups","x"]):Def P w K mg base 1 "find_halves" ["ups","x"] (eS qP):=by
 refine F.ok sc_find_halves (fun vs H Q E h=>by obtain⟨m,v,x,rfl,_⟩:=h;rfl) (fun f cdv A outer s H vs Q E hr h=>?_)
 obtain⟨a,us,x,rfl,ha,h40,hf,hx,q⟩:=h
 refine⟨_,(aU (aN (i:=2) sc_find_halves.nd rfl (by first|exact Or.inl rfl|exact Or.inr rfl) (pv 1))
  (aU (aN (i:=3) sc_find_halves.nd rfl (by first|exact Or.inl rfl|exact Or.inr rfl) kW)
  (aU (ka PassesOwn.never (ly wH (iC (jo (K:=K) rfl) (pv 0) (pv 2) (fun _ _=>rfl)) (pv 2) (aI _)) (aU (cA (iC (jo (K:=K) rfl) (pv 0) (iC (jo (K:=K) rfl) (pv 0) (pv 2) (fun _ _=>rfl)) (fun _ _=>rfl)) (mG (pv 0) (pv 2) i5))
  (aU (aN (i:=2) sc_find_halves.nd rfl (by first|exact Or.inl rfl|exact Or.inr rfl) (iC (jo (K:=K) rfl) (pv 0) (pv 2) (fun _ _=>rfl)))
  (fg (uR (i:=3) sc_find_halves.nd rfl (by first|exact Or.inl rfl|exact Or.inr rfl) kW uG)))))
  (fg (iO (kR (aW ad (pv 2) (aW ad (pv 3) fW)))))))),?_⟩
 (try dsimp only[gy,di,cW,gu,cX,gz,mv,gm,bY,cS,eE,gD,bF,kO,mI,jm,rI,rU,tC,tB,cV,mF,gJ,gB,db,dN,bO,gA,gK,kl,mk,df,bc,cq,lh,gv,lU,fP,cN,fX,fo,cT,ge,dQ,gd,ga,gf,cJ,gp,gx,dc,gP,cM,dn,bL,fU,L2.be,List.map_cons,List.map_nil,List.length_cons,List.length_nil,List.replicate,List.cons_append,List.nil_append,List.append_nil,List.getElem?_cons_zero,List.getElem?_cons_succ,List.set_cons_zero,List.set_cons_succ,List.getElem?_nil,Option.bind_some,Option.bind_none,Option.join_some,Option.join_none,Nat.add_one_sub_one,Nat.reduceSub,Nat.reduceAdd]);simp only[gy,di,cW,gu,cX,gz,mv,gm,bY,cS,eE,gD,bF,kO,mI,jm,rI,rU,tC,tB,cV,mF,gJ,gB,db,dN,bO,gA,gK,kl,mk,df,bc,cq,lh,gv,lU,fP,cN,fX,fo,cT,ge,dQ,gd,ga,gf,cJ,gp,gx,dc,gP,cM,dn,bL,fU,L2.be,List.map_cons,List.map_nil,List.length_cons,List.length_nil,List.replicate,List.cons_append,List.nil_append,List.append_nil,List.getElem?_cons_zero,List.getElem?_cons_succ,List.set_cons_zero,List.set_cons_succ,List.getElem?_nil,Option.bind_some,Option.bind_none,Option.join_some,Option.join_none,Option.some.injEq,V.int.injEq,V.bl.injEq,V.ref.injEq,List.cons.injEq,and_true,true_and,exists_eq_left,exists_eq_left',exists_eq_right,exists_and_left,Nat.add_one_sub_one,Nat.reduceSub,Nat.sub_self,Nat.reduceAdd,Nat.zero_add,Int.toNat_natCast,List.length_map,V.ty.injEq,V.str.injEq,and_assoc,gM,i8,Bool.not_true,Bool.not_false,Bool.false_eq_true,if_true,if_false]
 obtain⟨l,wl,hl⟩:=hf.way hx
 obtain⟨us',hv,g1,g2⟩:=wa l wl (wl.nodup hf hx) (wl.lt hf.bnd hx)
 refine⟨fun m σ H'=>HInv a x us' (cp l) (l.length / 2) us.length H Halv m σ H',⟨l.length / 2,⟨us,x,0,rfl,ha,SB.refl,hx,rfl,hf.bnd,hv,by omega⟩⟩,?_⟩
 rintro m σ H' ⟨⟨vs,y,k,rfl,hv',sb,hy,hlen,hb,w2,e1⟩⟩
 (try dsimp only[gy,di,cW,gu,cX,gz,mv,gm,bY,cS,eE,gD,bF,kO,mI,jm,rI,rU,tC,tB,cV,mF,gJ,gB,db,dN,bO,gA,gK,kl,mk,df,bc,cq,lh,gv,lU,fP,cN,fX,fo,cT,ge,dQ,gd,ga,gf,cJ,gp,gx,dc,gP,cM,dn,bL,fU,L2.be,List.map_cons,List.map_nil,List.length_cons,List.length_nil,List.replicate,List.cons_append,List.nil_append,List.append_nil,List.getElem?_cons_zero,List.getElem?_cons_succ,List.set_cons_zero,List.set_cons_succ,List.getElem?_nil,Option.bind_some,Option.bind_none,Option.join_some,Option.join_none,Nat.add_one_sub_one,Nat.reduceSub,Nat.reduceAdd]);simp only[gy,di,cW,gu,cX,gz,mv,gm,bY,cS,eE,gD,bF,kO,mI,jm,rI,rU,tC,tB,cV,mF,gJ,gB,db,dN,bO,gA,gK,kl,mk,df,bc,cq,lh,gv,lU,fP,cN,fX,fo,cT,ge,dQ,gd,ga,gf,cJ,gp,gx,dc,gP,cM,dn,bL,fU,L2.be,List.map_cons,List.map_nil,List.length_cons,List.length_nil,List.replicate,List.cons_append,List.nil_append,List.append_nil,List.getElem?_cons_zero,List.getElem?_cons_succ,List.set_cons_zero,List.set_cons_succ,List.getElem?_nil,Option.bind_some,Option.bind_none,Option.join_some,Option.join_none,Option.some.injEq,V.int.injEq,V.bl.injEq,V.ref.injEq,List.cons.injEq,and_true,true_and,exists_eq_left,exists_eq_left',exists_eq_right,exists_and_left,Nat.add_one_sub_one,Nat.reduceSub,Nat.sub_self,Nat.reduceAdd,Nat.zero_add,Int.toNat_natCast,List.length_map,V.ty.injEq,V.str.injEq,and_assoc,gM,i8,Bool.not_true,Bool.not_false,Bool.false_eq_true,if_true,if_false]
 refine⟨vs.map nV,SqL.of hv',_,fj (by omega),rfl,?_⟩
 rw[show decide (nV (vs.getD y 0)=nV y)=decide (up vs y=y) from zr]
 cases w2 with
 |stop e=>
  rw[decide_eq_true e]
  refine⟨by decide,fun p hp=>q _ us' k p _ ⟨l,wl,rfl,by omega,g1,g2⟩ (sb.new hp _) (by rw[aC (bf hv' hp)];exact hv') aw⟩
 | @step _ _ _ m _ n w3=>
  rw[decide_eq_false n]
  refine⟨fun σ' H''=>H''=upd H' a (.lst ((vs.set y (up vs (up vs y))).map nV))/\σ'=[some (.ref a),some (nV x),some (nV (up vs (up vs y))),some (.int (k+1))],fun σ' H'' e=>?_,vs.map nV,SqL.of hv',_,fj (by omega),vs.map nV,_,rfl,SqL.of hv',_,fj (hb y (by omega)),vs.map nV,hv',y,rA (by rw[List.length_map];omega),_,SqL.of aw,nV (up vs (up vs y)),?_,?_⟩
  ·obtain⟨rfl,rfl⟩:=e
   exact⟨m,by omega,⟨⟨_,up vs (up vs y),k+1,rfl,aw,sb.upd _,by have:=hb y (by omega);have:=hb _ this;omega,by rw[List.length_set];exact hlen,wC hb (by omega) (hb _ (hb _ (by omega))),w3,by omega⟩⟩⟩
  ·rw[kd,fj (by rw[List.length_set];omega)]
   show some (nV (up (vs.set y _) y))=_
   rw[bv (by omega),if_pos rfl]
  ·rw[kd];exact⟨rfl,rfl⟩
noncomputable abbrev cc:Stmt:=top 16
theorem sc_find_splits:FnScope ["ups","x","at","steps","above"] ["ups","x"] (af cc):=⟨rfl,rfl,rfl,by decide +kernel,rfl,by decide +kernel,by decide +kernel⟩
theorem nS (T:Txt mg)(F:FunD K mg "find_splits" cc ["ups","x"]):Def P w K mg base 1 "find_splits" ["ups","x"] (eS qF):=by
 refine F.ok sc_find_splits (fun vs H Q E h=>by obtain⟨m,v,x,rfl,_⟩:=h;rfl) (fun f cdv A outer s H vs Q E hr h=>?_)
 obtain⟨a,us,x,rfl,ha,h40,hf,hx,q⟩:=h
 refine⟨_,(aU (aN (i:=2) sc_find_splits.nd rfl (by first|exact Or.inl rfl|exact Or.inr rfl) (pv 1))
  (aU (aN (i:=3) sc_find_splits.nd rfl (by first|exact Or.inl rfl|exact Or.inr rfl) kW)
  (aU (ka PassesOwn.never (ly wH (iC (jo (K:=K) rfl) (pv 0) (pv 2) (fun _ _=>rfl)) (pv 2) (aI _)) (aU (aN (i:=4) sc_find_splits.nd rfl (by first|exact Or.inl rfl|exact Or.inr rfl) (iC (jo (K:=K) rfl) (pv 0) (pv 2) (fun _ _=>rfl)))
  (aU (cA (iC (jo (K:=K) rfl) (pv 0) (pv 4) (fun _ _=>rfl)) (mG (pv 0) (pv 2) i5))
  (aU (aN (i:=2) sc_find_splits.nd rfl (by first|exact Or.inl rfl|exact Or.inr rfl) (pv 4))
  (fg (uR (i:=3) sc_find_splits.nd rfl (by first|exact Or.inl rfl|exact Or.inr rfl) kW uG))))))
  (fg (iO (kR (aW ad (pv 2) (aW ad (pv 3) fW)))))))),?_⟩
 (try dsimp only[gy,di,cW,gu,cX,gz,mv,gm,bY,cS,eE,gD,bF,kO,mI,jm,rI,rU,tC,tB,cV,mF,gJ,gB,db,dN,bO,gA,gK,kl,mk,df,bc,cq,lh,gv,lU,fP,cN,fX,fo,cT,ge,dQ,gd,ga,gf,cJ,gp,gx,dc,gP,cM,dn,bL,fU,L2.be,List.map_cons,List.map_nil,List.length_cons,List.length_nil,List.replicate,List.cons_append,List.nil_append,List.append_nil,List.getElem?_cons_zero,List.getElem?_cons_succ,List.set_cons_zero,List.set_cons_succ,List.getElem?_nil,Option.bind_some,Option.bind_none,Option.join_some,Option.join_none,Nat.add_one_sub_one,Nat.reduceSub,Nat.reduceAdd]);simp only[gy,di,cW,gu,cX,gz,mv,gm,bY,cS,eE,gD,bF,kO,mI,jm,rI,rU,tC,tB,cV,mF,gJ,gB,db,dN,bO,gA,gK,kl,mk,df,bc,cq,lh,gv,lU,fP,cN,fX,fo,cT,ge,dQ,gd,ga,gf,cJ,gp,gx,dc,gP,cM,dn,bL,fU,L2.be,List.map_cons,List.map_nil,List.length_cons,List.length_nil,List.replicate,List.cons_append,List.nil_append,List.append_nil,List.getElem?_cons_zero,List.getElem?_cons_succ,List.set_cons_zero,List.set_cons_succ,List.getElem?_nil,Option.bind_some,Option.bind_none,Option.join_some,Option.join_none,Option.some.injEq,V.int.injEq,V.bl.injEq,V.ref.injEq,List.cons.injEq,and_true,true_and,exists_eq_left,exists_eq_left',exists_eq_right,exists_and_left,Nat.add_one_sub_one,Nat.reduceSub,Nat.sub_self,Nat.reduceAdd,Nat.zero_add,Int.toNat_natCast,List.length_map,V.ty.injEq,V.str.injEq,and_assoc,gM,i8,Bool.not_true,Bool.not_false,Bool.false_eq_true,if_true,if_false]
 obtain⟨l,wl,hl⟩:=hf.way hx
 obtain⟨us',hv,g1,g2⟩:=Cs wl (wl.nodup hf hx) (wl.lt hf.bnd hx)
 have lp:=wl.pos
 refine⟨fun m σ H'=>∃z,HInv a x us' (cp l) (l.length - 1) us.length H Splt m (σ.take 4) H'/\σ=σ.take 4++[z],⟨l.length - 1,none,⟨us,x,0,rfl,ha,SB.refl,hx,rfl,hf.bnd,hv,by omega⟩,rfl⟩,?_⟩
 rintro m σ H' ⟨z,⟨vs,y,k,eσ,hv',sb,hy,hlen,hb,w2,e1⟩,eσ'⟩
 rw[eσ] at eσ'
 subst eσ'
 (try dsimp only[gy,di,cW,gu,cX,gz,mv,gm,bY,cS,eE,gD,bF,kO,mI,jm,rI,rU,tC,tB,cV,mF,gJ,gB,db,dN,bO,gA,gK,kl,mk,df,bc,cq,lh,gv,lU,fP,cN,fX,fo,cT,ge,dQ,gd,ga,gf,cJ,gp,gx,dc,gP,cM,dn,bL,fU,L2.be,List.map_cons,List.map_nil,List.length_cons,List.length_nil,List.replicate,List.cons_append,List.nil_append,List.append_nil,List.getElem?_cons_zero,List.getElem?_cons_succ,List.set_cons_zero,List.set_cons_succ,List.getElem?_nil,Option.bind_some,Option.bind_none,Option.join_some,Option.join_none,Nat.add_one_sub_one,Nat.reduceSub,Nat.reduceAdd]);simp only[gy,di,cW,gu,cX,gz,mv,gm,bY,cS,eE,gD,bF,kO,mI,jm,rI,rU,tC,tB,cV,mF,gJ,gB,db,dN,bO,gA,gK,kl,mk,df,bc,cq,lh,gv,lU,fP,cN,fX,fo,cT,ge,dQ,gd,ga,gf,cJ,gp,gx,dc,gP,cM,dn,bL,fU,L2.be,List.map_cons,List.map_nil,List.length_cons,List.length_nil,List.replicate,List.cons_append,List.nil_append,List.append_nil,List.getElem?_cons_zero,List.getElem?_cons_succ,List.set_cons_zero,List.set_cons_succ,List.getElem?_nil,Option.bind_some,Option.bind_none,Option.join_some,Option.join_none,Option.some.injEq,V.int.injEq,V.bl.injEq,V.ref.injEq,List.cons.injEq,and_true,true_and,exists_eq_left,exists_eq_left',exists_eq_right,exists_and_left,Nat.add_one_sub_one,Nat.reduceSub,Nat.sub_self,Nat.reduceAdd,Nat.zero_add,Int.toNat_natCast,List.length_map,V.ty.injEq,V.str.injEq,and_assoc,gM,i8,Bool.not_true,Bool.not_false,Bool.false_eq_true,if_true,if_false]
 refine⟨vs.map nV,SqL.of hv',_,fj (by omega),rfl,?_⟩
 rw[show decide (nV (vs.getD y 0)=nV y)=decide (up vs y=y) from zr]
 cases w2 with
 |stop e=>
  rw[decide_eq_true e]
  refine⟨by decide,fun p hp=>q _ us' k p _ ⟨l,wl,rfl,by omega,g1,g2⟩ (sb.new hp _) (by rw[aC (bf hv' hp)];exact hv') aw⟩
 | @step _ _ _ m _ n w3=>
  rw[decide_eq_false n]
  refine⟨fun σ' H''=>H''=upd H' a (.lst ((vs.set y (up vs (up vs y))).map nV))/\σ'=[some (.ref a),some (nV x),some (nV (up vs y)),some (.int (k+1)),some (nV (up vs y))],fun σ' H'' e=>?_,vs.map nV,SqL.of hv',_,fj (by omega),vs.map nV,_,rfl,SqL.of hv',_,fj (hb y (by omega)),vs.map nV,hv',y,rA (by rw[List.length_map];omega),?_⟩
  ·obtain⟨rfl,rfl⟩:=e
   exact⟨m,by omega,⟨⟨_,up vs y,k+1,rfl,aw,sb.upd _,by have:=hb y (by omega);omega,by rw[List.length_set];exact hlen,wC hb (by omega) (hb _ (hb _ (by omega))),w3,by omega⟩⟩,_,rfl⟩
  ·rw[kd];exact⟨rfl,rfl⟩
noncomputable abbrev eg:Stmt:=top 17
theorem sc_find_one:FnScope ["ups","x","head","steps"] ["ups","x"] (af eg):=⟨rfl,rfl,rfl,by decide +kernel,rfl,by decide +kernel,by decide +kernel⟩
theorem tL (T:Txt mg)(F:FunD K mg "find_one" eg ["ups","x"])(d_find_none:Def P w K mg base 1 "find_none" ["ups","x"] (eS t9)):Def P w K mg base 2 "find_one" ["ups","x"] (eS Fc):=by
 refine F.ok sc_find_one (fun vs H Q E h=>by obtain⟨m,v,x,rfl,_⟩:=h;rfl) (fun f cdv A outer s H vs Q E hr h=>?_)
 obtain⟨a,us,x,rfl,ha,h40,hf,hx,q⟩:=h
 refine⟨_,(aU (cA (kZ d_find_none hr (aW ad (pv 0) (aW ad (pv 1) fW)) (he:=ad _ _)) (dv (K:=K) (n:=2) rfl rfl (av (am (i:=2) sc_find_one.nd rfl (by first|exact Or.inl rfl|exact Or.inr rfl)) (av (am (i:=3) sc_find_one.nd rfl (by first|exact Or.inl rfl|exact Or.inr rfl)) cb))))
  (aU (cA (iC (jo (K:=K) rfl) (pv 0) (iC (jo (K:=K) rfl) (pv 0) (pv 1) (fun _ _=>rfl)) (fun _ _=>rfl)) (mG (pv 0) (pv 1) i5))
  (fg (iO (kR (aW ad (pv 2) (aW ad (pv 3) fW))))))),?_⟩
 (try dsimp only[gy,di,cW,gu,cX,gz,mv,gm,bY,cS,eE,gD,bF,kO,mI,jm,rI,rU,tC,tB,cV,mF,gJ,gB,db,dN,bO,gA,gK,kl,mk,df,bc,cq,lh,gv,lU,fP,cN,fX,fo,cT,ge,dQ,gd,ga,gf,cJ,gp,gx,dc,gP,cM,dn,bL,fU,L2.be,List.map_cons,List.map_nil,List.length_cons,List.length_nil,List.replicate,List.cons_append,List.nil_append,List.append_nil,List.getElem?_cons_zero,List.getElem?_cons_succ,List.set_cons_zero,List.set_cons_succ,List.getElem?_nil,Option.bind_some,Option.bind_none,Option.join_some,Option.join_none,Nat.add_one_sub_one,Nat.reduceSub,Nat.reduceAdd]);simp only[gy,di,cW,gu,cX,gz,mv,gm,bY,cS,eE,gD,bF,kO,mI,jm,rI,rU,tC,tB,cV,mF,gJ,gB,db,dN,bO,gA,gK,kl,mk,df,bc,cq,lh,gv,lU,fP,cN,fX,fo,cT,ge,dQ,gd,ga,gf,cJ,gp,gx,dc,gP,cM,dn,bL,fU,L2.be,List.map_cons,List.map_nil,List.length_cons,List.length_nil,List.replicate,List.cons_append,List.nil_append,List.append_nil,List.getElem?_cons_zero,List.getElem?_cons_succ,List.set_cons_zero,List.set_cons_succ,List.getElem?_nil,Option.bind_some,Option.bind_none,Option.join_some,Option.join_none,Option.some.injEq,V.int.injEq,V.bl.injEq,V.ref.injEq,List.cons.injEq,and_true,true_and,exists_eq_left,exists_eq_left',exists_eq_right,exists_and_left,Nat.add_one_sub_one,Nat.reduceSub,Nat.sub_self,Nat.reduceAdd,Nat.zero_add,Int.toNat_natCast,List.length_map,V.ty.injEq,V.str.injEq,and_assoc,gM,i8,Bool.not_true,Bool.not_false,Bool.false_eq_true,if_true,if_false]
 refine⟨a,us,x,rfl,ha,h40,hf,hx,?_⟩
 rintro h us2 n p H' ⟨e,l,wl,rfl,hn⟩ sb h1 h2
 rw[e] at h1
 clear e
 (try dsimp only[gy,di,cW,gu,cX,gz,mv,gm,bY,cS,eE,gD,bF,kO,mI,jm,rI,rU,tC,tB,cV,mF,gJ,gB,db,dN,bO,gA,gK,kl,mk,df,bc,cq,lh,gv,lU,fP,cN,fX,fo,cT,ge,dQ,gd,ga,gf,cJ,gp,gx,dc,gP,cM,dn,bL,fU,L2.be,List.map_cons,List.map_nil,List.length_cons,List.length_nil,List.replicate,List.cons_append,List.nil_append,List.append_nil,List.getElem?_cons_zero,List.getElem?_cons_succ,List.set_cons_zero,List.set_cons_succ,List.getElem?_nil,Option.bind_some,Option.bind_none,Option.join_some,Option.join_none,Nat.add_one_sub_one,Nat.reduceSub,Nat.reduceAdd]);simp only[gy,di,cW,gu,cX,gz,mv,gm,bY,cS,eE,gD,bF,kO,mI,jm,rI,rU,tC,tB,cV,mF,gJ,gB,db,dN,bO,gA,gK,kl,mk,df,bc,cq,lh,gv,lU,fP,cN,fX,fo,cT,ge,dQ,gd,ga,gf,cJ,gp,gx,dc,gP,cM,dn,bL,fU,L2.be,List.map_cons,List.map_nil,List.length_cons,List.length_nil,List.replicate,List.cons_append,List.nil_append,List.append_nil,List.getElem?_cons_zero,List.getElem?_cons_succ,List.set_cons_zero,List.set_cons_succ,List.getElem?_nil,Option.bind_some,Option.bind_none,Option.join_some,Option.join_none,Option.some.injEq,V.int.injEq,V.bl.injEq,V.ref.injEq,List.cons.injEq,and_true,true_and,exists_eq_left,exists_eq_left',exists_eq_right,exists_and_left,Nat.add_one_sub_one,Nat.reduceSub,Nat.sub_self,Nat.reduceAdd,Nat.zero_add,Int.toNat_natCast,List.length_map,V.ty.injEq,V.str.injEq,and_assoc,gM,i8,Bool.not_true,Bool.not_false,Bool.false_eq_true,if_true,if_false]
 refine⟨[nV (cp l),nV n],SqT.of h2,rfl,_,_,rfl,_,_,rfl,rfl,us.map nV,SqL.of h1,_,fj hx,us.map nV,_,rfl,SqL.of h1,_,fj (hf.bnd x hx),us.map nV,h1,x,rA (by rw[List.length_map];omega),by decide,fun p2 hp2=>?_⟩
 rw[kd] at hp2 ⊢
 exact q _ _ n p2 _ ⟨rfl,l,wl,rfl,hn⟩ ((sb.upd _).new hp2 _) (by rw[aC (bf aw hp2),aw]) aw
noncomputable abbrev cI:Stmt:=top 14
theorem sc_find_whole:FnScope ["ups","x","head","steps","at","above"] ["ups","x"] (af cI):=⟨rfl,rfl,rfl,by decide +kernel,rfl,by decide +kernel,by decide +kernel⟩
theorem pA (T:Txt mg)(F:FunD K mg "find_whole" cI ["ups","x"])(d_find_none:Def P w K mg base 1 "find_none" ["ups","x"] (eS t9)):Def P w K mg base 2 "find_whole" ["ups","x"] (eS uP):=by
 refine F.ok sc_find_whole (fun vs H Q E h=>by obtain⟨m,v,x,rfl,_⟩:=h;rfl) (fun f cdv A outer s H vs Q E hr h=>?_)
 obtain⟨a,us,x,rfl,ha,h40,hf,hx,q⟩:=h
 refine⟨_,(aU (cA (kZ d_find_none hr (aW ad (pv 0) (aW ad (pv 1) fW)) (he:=ad _ _)) (dv (K:=K) (n:=2) rfl rfl (av (am (i:=2) sc_find_whole.nd rfl (by first|exact Or.inl rfl|exact Or.inr rfl)) (av (am (i:=3) sc_find_whole.nd rfl (by first|exact Or.inl rfl|exact Or.inr rfl)) cb))))
  (aU (aN (i:=4) sc_find_whole.nd rfl (by first|exact Or.inl rfl|exact Or.inr rfl) (pv 1))
  (aU (ka PassesOwn.never (ly wH (pv 4) (pv 2) (aI _)) (aU (aN (i:=5) sc_find_whole.nd rfl (by first|exact Or.inl rfl|exact Or.inr rfl) (iC (jo (K:=K) rfl) (pv 0) (pv 4) (fun _ _=>rfl)))
  (aU (cA (pv 2) (mG (pv 0) (pv 4) i5))
  (fg (aN (i:=4) sc_find_whole.nd rfl (by first|exact Or.inl rfl|exact Or.inr rfl) (pv 5))))))
  (fg (iO (kR (aW ad (pv 2) (aW ad (pv 3) fW)))))))),?_⟩
 (try dsimp only[gy,di,cW,gu,cX,gz,mv,gm,bY,cS,eE,gD,bF,kO,mI,jm,rI,rU,tC,tB,cV,mF,gJ,gB,db,dN,bO,gA,gK,kl,mk,df,bc,cq,lh,gv,lU,fP,cN,fX,fo,cT,ge,dQ,gd,ga,gf,cJ,gp,gx,dc,gP,cM,dn,bL,fU,L2.be,List.map_cons,List.map_nil,List.length_cons,List.length_nil,List.replicate,List.cons_append,List.nil_append,List.append_nil,List.getElem?_cons_zero,List.getElem?_cons_succ,List.set_cons_zero,List.set_cons_succ,List.getElem?_nil,Option.bind_some,Option.bind_none,Option.join_some,Option.join_none,Nat.add_one_sub_one,Nat.reduceSub,Nat.reduceAdd]);simp only[gy,di,cW,gu,cX,gz,mv,gm,bY,cS,eE,gD,bF,kO,mI,jm,rI,rU,tC,tB,cV,mF,gJ,gB,db,dN,bO,gA,gK,kl,mk,df,bc,cq,lh,gv,lU,fP,cN,fX,fo,cT,ge,dQ,gd,ga,gf,cJ,gp,gx,dc,gP,cM,dn,bL,fU,L2.be,List.map_cons,List.map_nil,List.length_cons,List.length_nil,List.replicate,List.cons_append,List.nil_append,List.append_nil,List.getElem?_cons_zero,List.getElem?_cons_succ,List.set_cons_zero,List.set_cons_succ,List.getElem?_nil,Option.bind_some,Option.bind_none,Option.join_some,Option.join_none,Option.some.injEq,V.int.injEq,V.bl.injEq,V.ref.injEq,List.cons.injEq,and_true,true_and,exists_eq_left,exists_eq_left',exists_eq_right,exists_and_left,Nat.add_one_sub_one,Nat.reduceSub,Nat.sub_self,Nat.reduceAdd,Nat.zero_add,Int.toNat_natCast,List.length_map,V.ty.injEq,V.str.injEq,and_assoc,gM,i8,Bool.not_true,Bool.not_false,Bool.false_eq_true,if_true,if_false]
 refine⟨a,us,x,rfl,ha,h40,hf,hx,?_⟩
 rintro h us2 n p H' ⟨e,l,wl,rfl,hn⟩ sb h1 h2
 rw[e] at h1
 clear e
 (try dsimp only[gy,di,cW,gu,cX,gz,mv,gm,bY,cS,eE,gD,bF,kO,mI,jm,rI,rU,tC,tB,cV,mF,gJ,gB,db,dN,bO,gA,gK,kl,mk,df,bc,cq,lh,gv,lU,fP,cN,fX,fo,cT,ge,dQ,gd,ga,gf,cJ,gp,gx,dc,gP,cM,dn,bL,fU,L2.be,List.map_cons,List.map_nil,List.length_cons,List.length_nil,List.replicate,List.cons_append,List.nil_append,List.append_nil,List.getElem?_cons_zero,List.getElem?_cons_succ,List.set_cons_zero,List.set_cons_succ,List.getElem?_nil,Option.bind_some,Option.bind_none,Option.join_some,Option.join_none,Nat.add_one_sub_one,Nat.reduceSub,Nat.reduceAdd]);simp only[gy,di,cW,gu,cX,gz,mv,gm,bY,cS,eE,gD,bF,kO,mI,jm,rI,rU,tC,tB,cV,mF,gJ,gB,db,dN,bO,gA,gK,kl,mk,df,bc,cq,lh,gv,lU,fP,cN,fX,fo,cT,ge,dQ,gd,ga,gf,cJ,gp,gx,dc,gP,cM,dn,bL,fU,L2.be,List.map_cons,List.map_nil,List.length_cons,List.length_nil,List.replicate,List.cons_append,List.nil_append,List.append_nil,List.getElem?_cons_zero,List.getElem?_cons_succ,List.set_cons_zero,List.set_cons_succ,List.getElem?_nil,Option.bind_some,Option.bind_none,Option.join_some,Option.join_none,Option.some.injEq,V.int.injEq,V.bl.injEq,V.ref.injEq,List.cons.injEq,and_true,true_and,exists_eq_left,exists_eq_left',exists_eq_right,exists_and_left,Nat.add_one_sub_one,Nat.reduceSub,Nat.sub_self,Nat.reduceAdd,Nat.zero_add,Int.toNat_natCast,List.length_map,V.ty.injEq,V.str.injEq,and_assoc,gM,i8,Bool.not_true,Bool.not_false,Bool.false_eq_true,if_true,if_false]
 refine⟨[nV (cp l),nV n],SqT.of h2,rfl,_,_,rfl,_,_,rfl,rfl,?_⟩
 have nd:=wl.nodup hf hx
 have inl:=wl.lt hf.bnd hx
 refine⟨fun m σ H''=>WInv a x us l n H m σ H'',⟨l.length,⟨us,x,[],l,none,rfl,h1,sb,rfl,fun t=>by simp,rfl,wl,rfl⟩⟩,?_⟩
 rintro m σ H'' ⟨⟨vs,y,pre,l2,z,rfl,hv',sb',hlen,hup,el,w2,rfl⟩⟩
 have hy:y<us.length:=inl y (by rw[el];exact List.mem_append_right _ w2.mem_self)
 have np:y∉pre:=fun hm=>by
  rw[el] at nd
  exact (List.nodup_append.mp nd).2.2 y hm y w2.mem_self rfl
 have uy:up vs y=up us y:=by rw[hup,if_neg np]
 (try dsimp only[gy,di,cW,gu,cX,gz,mv,gm,bY,cS,eE,gD,bF,kO,mI,jm,rI,rU,tC,tB,cV,mF,gJ,gB,db,dN,bO,gA,gK,kl,mk,df,bc,cq,lh,gv,lU,fP,cN,fX,fo,cT,ge,dQ,gd,ga,gf,cJ,gp,gx,dc,gP,cM,dn,bL,fU,L2.be,List.map_cons,List.map_nil,List.length_cons,List.length_nil,List.replicate,List.cons_append,List.nil_append,List.append_nil,List.getElem?_cons_zero,List.getElem?_cons_succ,List.set_cons_zero,List.set_cons_succ,List.getElem?_nil,Option.bind_some,Option.bind_none,Option.join_some,Option.join_none,Nat.add_one_sub_one,Nat.reduceSub,Nat.reduceAdd]);simp only[gy,di,cW,gu,cX,gz,mv,gm,bY,cS,eE,gD,bF,kO,mI,jm,rI,rU,tC,tB,cV,mF,gJ,gB,db,dN,bO,gA,gK,kl,mk,df,bc,cq,lh,gv,lU,fP,cN,fX,fo,cT,ge,dQ,gd,ga,gf,cJ,gp,gx,dc,gP,cM,dn,bL,fU,L2.be,List.map_cons,List.map_nil,List.length_cons,List.length_nil,List.replicate,List.cons_append,List.nil_append,List.append_nil,List.getElem?_cons_zero,List.getElem?_cons_succ,List.set_cons_zero,List.set_cons_succ,List.getElem?_nil,Option.bind_some,Option.bind_none,Option.join_some,Option.join_none,Option.some.injEq,V.int.injEq,V.bl.injEq,V.ref.injEq,List.cons.injEq,and_true,true_and,exists_eq_left,exists_eq_left',exists_eq_right,exists_and_left,Nat.add_one_sub_one,Nat.reduceSub,Nat.sub_self,Nat.reduceAdd,Nat.zero_add,Int.toNat_natCast,List.length_map,V.ty.injEq,V.str.injEq,and_assoc,gM,i8,Bool.not_true,Bool.not_false,Bool.false_eq_true,if_true,if_false]
 refine⟨rfl,?_⟩
 rw[show decide ((y:Int)=(cp l:Int))=decide (y=cp l) by rw[Bool.eq_iff_iff,decide_eq_true_iff,decide_eq_true_iff];omega]
 cases w2 with
 |head e=>
  have ey:y=cp l:=by rw[el];simp[cp]
  rw[decide_eq_true ey]
  refine⟨by decide,fun p hp=>q _ vs n p _ ⟨l,wl,rfl,hn,hlen,fun t=>?_⟩ (sb'.new hp _) (by rw[aC (bf hv' hp)];exact hv') aw⟩
  rw[hup]
  by_cases h3:t∈pre
  ·rw[if_pos h3,if_pos (by rw[el];exact List.mem_append_left _ h3)]
  ·rw[if_neg h3]
   by_cases h4:t=y
   ·rw[h4,if_pos (by rw[el];simp),e];exact ey
   ·rw[if_neg (by rw[el];simp[h3,h4])]
 | @step _ l3 n2 w3=>
  have el3:cp l=cp l3:=by rw[el];exact AK w3.ne
  have ny:y∉l3:=fun hm=>by
   rw[el] at nd
   exact (List.nodup_cons.mp (List.nodup_append.mp nd).2.1).1 hm
  have hne:¬y=cp l:=fun e=>ny (by rw[e,el3];exact oz w3.ne)
  rw[decide_eq_false hne]
  refine⟨fun σ' H3=>H3=upd H'' a (.lst ((vs.set y (cp l)).map nV))/\σ'=[some (.ref a),some (nV x),some (nV (cp l)),some (nV n),some (nV (up us y)),some (nV (up us y))],fun σ' H3 e=>?_,vs.map nV,SqL.of hv',_,fj (by omega),vs.map nV,hv',y,rA (by rw[List.length_map];omega),?_⟩
  ·obtain⟨rfl,rfl⟩:=e
   refine⟨l3.length,by simp,⟨⟨_,up us y,pre++[y],l3,_,rfl,aw,sb'.upd _,by rw[List.length_set];exact hlen,fun t=>?_,by rw[el];simp,w3,rfl⟩⟩⟩
   rw[bv (by omega),hup]
   by_cases h4:t=y
   ·simp[h4]
   ·simp[h4]
  ·rw[kd]
   show _/\[_,_,_,_,some (nV (up vs y)),some (nV (up vs y))]=_
   rw[uy]
   exact⟨rfl,rfl⟩
end
end O17
end
section
namespace O17
open PySem L2 Fo
structure Tabs (w:World)(K:PySem.W.Frag)(mg:Str->Option Value)(aM:Addr)(kvs:List (Str×Addr)):Prop where
 m:mg "MANNERS" = some (.ref aM)
 tab:Tab w K aM kvs
structure Tr (H:Hp)(a:Addr)(us:List Nat):Prop where
 it:H a=some (.tup (us.map nV))
 one:1≤us.length
 most:us.length≤40
 fst:Fst us
section
variable {P:Program}{w:World}{K:PySem.W.Frag}{mg:Str->Option Value}{base:Heap}{aM:Addr}{kvs:List (Str×Addr)}
noncomputable abbrev eA:Stmt:=top 19
theorem mM:FnScope ["thing"] ["thing"] (af eA):=⟨rfl,rfl,rfl,by decide +kernel,rfl,by decide +kernel,by decide +kernel⟩
theorem ss (T:Txt mg)(TM:Tabs w K mg aM kvs)(F:FunD K mg "is_short" eA ["thing"]):Def P w K mg base 1 "is_short" ["thing"] (fun vs H Q _=>∃x:Str,vs=[.str x]/\Q (.bl (dR kvs x).isSome) H):=by
 refine F.ok mM (fun vs H Q E h=>by obtain⟨m,rfl,_⟩:=h;rfl) (fun f cdv A outer s H vs Q E hr h=>?_)
 obtain⟨x,rfl,q⟩:=h
 refine⟨_,(fg (iO (zl (aP (Ao (K:=K) rfl) rfl T.n_isinstance cO (aW ad (pv 0) (aW ad (nX T.n_str vH) fW)) (he:=ad _ _)) (za (G6 (FC TM.tab (pv 0) (km (v:=.ref aM) rfl TM.m rfl)) (by with_unfolding_all rfl)))))),?_⟩
 (try dsimp only[gy,di,cW,gu,cX,gz,mv,gm,bY,cS,eE,gD,bF,kO,mI,jm,rI,rU,tC,tB,cV,mF,gJ,gB,db,dN,bO,gA,gK,kl,mk,df,bc,cq,lh,gv,lU,fP,cN,fX,fo,cT,ge,dQ,gd,ga,gf,cJ,gp,gx,dc,gP,cM,dn,bL,fU,L2.be,List.map_cons,List.map_nil,List.length_cons,List.length_nil,List.replicate,List.cons_append,List.nil_append,List.append_nil,List.getElem?_cons_zero,List.getElem?_cons_succ,List.set_cons_zero,List.set_cons_succ,List.getElem?_nil,Option.bind_some,Option.bind_none,Option.join_some,Option.join_none,Nat.add_one_sub_one,Nat.reduceSub,Nat.reduceAdd]);simp only[gy,di,cW,gu,cX,gz,mv,gm,bY,cS,eE,gD,bF,kO,mI,jm,rI,rU,tC,tB,cV,mF,gJ,gB,db,dN,bO,gA,gK,kl,mk,df,bc,cq,lh,gv,lU,fP,cN,fX,fo,cT,ge,dQ,gd,ga,gf,cJ,gp,gx,dc,gP,cM,dn,bL,fU,L2.be,List.map_cons,List.map_nil,List.length_cons,List.length_nil,List.replicate,List.cons_append,List.nil_append,List.append_nil,List.getElem?_cons_zero,List.getElem?_cons_succ,List.set_cons_zero,List.set_cons_succ,List.getElem?_nil,Option.bind_some,Option.bind_none,Option.join_some,Option.join_none,Option.some.injEq,V.int.injEq,V.bl.injEq,V.ref.injEq,List.cons.injEq,and_true,true_and,exists_eq_left,exists_eq_left',exists_eq_right,exists_and_left,Nat.add_one_sub_one,Nat.reduceSub,Nat.sub_self,Nat.reduceAdd,Nat.zero_add,Int.toNat_natCast,List.length_map,V.ty.injEq,V.str.injEq,and_assoc,gM,i8,Bool.not_true,Bool.not_false,Bool.false_eq_true,if_true,if_false]
 refine⟨_,.str x,true,rfl,?_⟩
 rw[if_pos rfl]
 exact⟨_,rfl,x,rfl,rfl,q⟩
noncomputable abbrev fL:Stmt:=top 21
theorem sc_find_in:FnScope ["ups","short","x","behind","manner","head","steps"] ["ups","short","x"] (af fL):=⟨rfl,rfl,rfl,by decide +kernel,rfl,by decide +kernel,by decide +kernel⟩
noncomputable def wg (kvs:List (Str×Addr)):Sp:=fun vs H Q _=>∃a us y x,vs=[.ref a,.str y,nV x]/\Tr H a us/\(dR kvs y).isSome=true/\x<us.length/\∀h us' n p b H',RM y us x h us' n->Same H H'->H' p=some (.tup [nV h,.ref b,nV n])->H' b=some (.tup (us'.map nV))->Q (.ref p) H'
theorem vS (T:Txt mg)(TM:Tabs w K mg aM kvs)(F:FunD K mg "find_in" fL ["ups","short","x"])(dL:∀f sp,(∃y,dR kvs y=some f/\sp=eS (RM y))->DefA P w K mg base 2 f ["ups","x"] sp):Def P w K mg base 3 "find_in" ["ups","short","x"] (wg kvs):=by
 refine F.ok sc_find_in (fun vs H Q E h=>by obtain⟨m,v,x,y,rfl,_⟩:=h;rfl) (fun f cdv A outer s H vs Q E hr h=>?_)
 obtain⟨a,us,y,x,rfl,t,hy,hx,q⟩:=h
 refine⟨_,(aU (aN (i:=3) sc_find_in.nd rfl (by first|exact Or.inl rfl|exact Or.inr rfl) (bB (wP (K:=K) rfl) rfl T.n_list qW (aW ad (pv 0) fW) (he:=ad _ _)))
  (aU (aN (i:=4) sc_find_in.nd rfl (by first|exact Or.inl rfl|exact Or.inr rfl) (Ga TM.tab (km (v:=.ref aM) rfl TM.m rfl) (pv 1) (fun _ _=>rfl)))
  (aU (cA (ue dL hr (i:=4) rfl (by first|exact Or.inl rfl|exact Or.inr (Or.inl rfl)) (aW ad (pv 3) (aW ad (pv 2) fW)) (he:=ad _ _)) (dv (K:=K) (n:=2) rfl rfl (av (am (i:=5) sc_find_in.nd rfl (by first|exact Or.inl rfl|exact Or.inr rfl)) (av (am (i:=6) sc_find_in.nd rfl (by first|exact Or.inl rfl|exact Or.inr rfl)) cb))))
  (fg (iO (kR (aW ad (pv 5) (aW aO (bB (uU (K:=K) rfl) rfl T.n_tuple d8 (aW ad (pv 3) fW) (he:=ad _ _)) (aW ad (pv 6) fW))))))))),?_⟩
 (try dsimp only[gy,di,cW,gu,cX,gz,mv,gm,bY,cS,eE,gD,bF,kO,mI,jm,rI,rU,tC,tB,cV,mF,gJ,gB,db,dN,bO,gA,gK,kl,mk,df,bc,cq,lh,gv,lU,fP,cN,fX,fo,cT,ge,dQ,gd,ga,gf,cJ,gp,gx,dc,gP,cM,dn,bL,fU,L2.be,List.map_cons,List.map_nil,List.length_cons,List.length_nil,List.replicate,List.cons_append,List.nil_append,List.append_nil,List.getElem?_cons_zero,List.getElem?_cons_succ,List.set_cons_zero,List.set_cons_succ,List.getElem?_nil,Option.bind_some,Option.bind_none,Option.join_some,Option.join_none,Nat.add_one_sub_one,Nat.reduceSub,Nat.reduceAdd]);simp only[gy,di,cW,gu,cX,gz,mv,gm,bY,cS,eE,gD,bF,kO,mI,jm,rI,rU,tC,tB,cV,mF,gJ,gB,db,dN,bO,gA,gK,kl,mk,df,bc,cq,lh,gv,lU,fP,cN,fX,fo,cT,ge,dQ,gd,ga,gf,cJ,gp,gx,dc,gP,cM,dn,bL,fU,L2.be,List.map_cons,List.map_nil,List.length_cons,List.length_nil,List.replicate,List.cons_append,List.nil_append,List.append_nil,List.getElem?_cons_zero,List.getElem?_cons_succ,List.set_cons_zero,List.set_cons_succ,List.getElem?_nil,Option.bind_some,Option.bind_none,Option.join_some,Option.join_none,Option.some.injEq,V.int.injEq,V.bl.injEq,V.ref.injEq,List.cons.injEq,and_true,true_and,exists_eq_left,exists_eq_left',exists_eq_right,exists_and_left,Nat.add_one_sub_one,Nat.reduceSub,Nat.sub_self,Nat.reduceAdd,Nat.zero_add,Int.toNat_natCast,List.length_map,V.ty.injEq,V.str.injEq,and_assoc,gM,i8,Bool.not_true,Bool.not_false,Bool.false_eq_true,if_true,if_false]
 refine⟨us.map nV,.inr (SqT.of t.it),fun l hl=>?_⟩
 obtain⟨f0,hf0⟩:=Option.isSome_iff_exists.mp hy
 refine⟨_,rfl,y,f0,rfl,rfl,hf0,?_⟩
 refine⟨f0,_,rfl,⟨y,hf0,rfl⟩,_,rfl,_,rfl,?_⟩
 refine⟨l,us,x,rfl,aw,t.most,t.fst,hx,fun h us' n p H1 r sb h1 h2=>?_⟩
 refine⟨p,rfl,[nV h,nV n],SqT.of h2,rfl,_,_,rfl,_,_,rfl,rfl,us'.map nV,.inl ⟨SqL.of h1,fun b hb=>⟨by decide,fun p2 hp2=>?_⟩⟩⟩
 have s1:Same H H1:=fun c o hc=>sb c o (bf hc hl) (by rw[aC (bf hc hl)];exact hc)
 exact q h us' n p2 b _ r ((s1.upd hb _).upd hp2 _) aw (by rw[aC (bf aw hp2)];exact aw)
end
end O17
end
section
namespace O17
open PySem L2 Fo Pu
section
variable {P:Program}{w:World}{K:PySem.W.Frag}{mg:Str->Option Value}{base:Heap}
theorem FnOk.up {CX:wn}{j k:Nat}{f:Addr}{fd:FuncData}{ps:List Str}{sp:Sp}(F:FnOk P w K mg base CX j f fd ps sp)(h:j≤k):FnOk P w K mg base CX k f fd ps sp:=
 ⟨F.len,fun A outer s H args us vs Q E hr=>F.run A outer s H args us vs Q E (hr.mono h)⟩
theorem DefA.up {j k:Nat}{f:Addr}{ps:List Str}{sp:Sp}(d:DefA P w K mg base j f ps sp)(h:j≤k):DefA P w K mg base k f ps sp:=by
 obtain⟨fd,F,r⟩:=d
 exact⟨fd,FnOk.up F h,r⟩
theorem j3 {R R':List Nat->Nat->Nat->List Nat->Nat->Prop}(i:∀us x h us' n,R us x h us' n->R' us x h us' n)(vs:List V)(H:Hp)(Q:VK)(E:XK)(h:eS R' vs H Q E):eS R vs H Q E:=by
 obtain⟨a,us,x,rfl,h1,h2,h3,h4,q⟩:=h
 exact⟨a,us,x,rfl,h1,h2,h3,h4,fun h us' n p H' r=>q h us' n p H' (i _ _ _ _ _ r)⟩
theorem sM (k:Str)(v:Addr)(t:List (Str×Addr))(y:Str):dR ((k,v)::t) y=if k=y then some v else dR t y:=by
 by_cases h:k=y
 ·simp[dR,h]
 ·simp only[dR,List.find?_cons,decide_eq_false h,if_neg h]
theorem sV {f0 f1 f2 f3 f4:Addr}(d0:DefA P w K mg base 1 f0 ["ups","x"] (eS t9))(d1:DefA P w K mg base 2 f1 ["ups","x"] (eS uP))(d2:DefA P w K mg base 1 f2 ["ups","x"] (eS qP))(d3:DefA P w K mg base 1 f3 ["ups","x"] (eS qF))(d4:DefA P w K mg base 2 f4 ["ups","x"] (eS Fc)) :
  ∀f sp,(∃y,dR [("none",f0),("whole",f1),("halves",f2),("splits",f3),("one",f4)] y=some f/\sp=eS (RM y))->DefA P w K mg base 2 f ["ups","x"] sp:=by
 rintro f sp ⟨y,hy,rfl⟩
 simp only[sM] at hy
 split at hy
 ·rename_i e;subst e;cases hy;exact DefA.up (d0.imp (j3 fun _ _ _ _ _=>RM.none)) (by decide)
 split at hy
 ·rename_i e;subst e;cases hy;exact d1.imp (j3 fun _ _ _ _ _=>RM.whole)
 split at hy
 ·rename_i e;subst e;cases hy;exact DefA.up (d2.imp (j3 fun _ _ _ _ _=>RM.halves)) (by decide)
 split at hy
 ·rename_i e;subst e;cases hy;exact DefA.up (d3.imp (j3 fun _ _ _ _ _=>RM.splits)) (by decide)
 split at hy
 ·rename_i e;subst e;cases hy;exact d4.imp (j3 fun _ _ _ _ _=>RM.one)
 ·cases hy
end
theorem mO (f0 f1 f2 f3 f4:Addr)(y:Str):(dR [("none",f0),("whole",f1),("halves",f2),("splits",f3),("one",f4)] y).isSome=decide (y∈manners):=by
 rw[Bool.eq_iff_iff,decide_eq_true_iff]
 unfold dR manners
 rw[Option.isSome_map,List.find?_isSome]
 simp[eq_comm]
theorem tj {P:Program}{w:World}{K:PySem.W.Frag}{mg:Str->Option Value}{base:Heap}{kvs:List (Str×Addr)}(hk:∀y,(dR kvs y).isSome=decide (y∈manners))(d:Def P w K mg base 1 "is_short" ["thing"] (fun vs H Q _=>∃x:Str,vs=[.str x]/\Q (.bl (dR kvs x).isSome) H)):Def P w K mg base 1 "is_short" ["thing"] (cv K oy):=Pu.Def.imp d fun vs H Q E ⟨F,ps,Qp,sF,rs,hW,k⟩=>by
 obtain⟨y,rfl,hq⟩:=hW
 obtain⟨v1,t1,rfl,r1,e⟩:=rs
 cases (show t1=[] from e)
 cases (show v1=.str y from r1)
 exact⟨y,rfl,by rw[hk];exact k (.v (.bl _)) _ F H hq (.refl sF) rfl⟩
theorem vj {P:Program}{w:World}{K:PySem.W.Frag}{mg:Str->Option Value}{base:Heap}{kvs:List (Str×Addr)}(hk:∀y,(dR kvs y).isSome=decide (y∈manners))(d:Def P w K mg base 3 "find_in" ["ups","short","x"] (wg kvs)):Def P w K mg base 3 "find_in" ["ups","short","x"] (cv K qm):=Pu.Def.imp d fun vs H Q E ⟨F,ps,Qp,sF,rs,hW,k⟩=>by
 obtain⟨us,y,x,rfl,f,hy,hx,hq⟩:=hW
 obtain⟨v1,t1,rfl,r1,v2,t2,e2,r2,v3,t3,e3,r3,e4⟩:=rs
 subst e2
 subst e3
 cases (show t3=[] from e4)
 obtain⟨a,ws,rfl,hF,rw1⟩:=r1
 cases (show v2=.str y from r2)
 cases (show v3=.int x from r3)
 have ew:=lD rw1
 subst ew
 refine⟨a,us,y,x,rfl,⟨sF _ _ hF,f.one,f.most,f.fst⟩,by rw[hk];exact decide_eq_true hy,hx,fun h us' n p b H' r s hp hb=>?_⟩
 have g0:Grow F H F H':=⟨s,Same.refl _,sF.trans s,fun _ _ e=>.inl e⟩
 obtain⟨g1,s1⟩:=g0.tup hb
 obtain⟨g2,s2⟩:=g1.tup hp
 exact k (.v (.tup [nI h,.tup (ak us'),nI n])) (.ref p) _ H' (hq h us' n r) g2 ⟨p,_,rfl,aw,_,_,rfl,rfl,_,_,rfl,⟨b,_,rfl,s2 _ _ aw,ql us'⟩,_,_,rfl,rfl,rfl⟩
end O17
end
end
section
namespace K17
open PySem L2 Fo Pu Dp
open O17 (Txt top Tabs)
structure Kon (w:World)(K:PySem.W.Frag)(mg:Str->Option Value):Prop where
 k_JOINS:∃a,mg "JOINS" = some (.ref a)/\KTup K a [.str "size",.str "rank",.str "told",.str "names"]
 k_LENGTHS:∃a,mg "LENGTHS" = some (.ref a)/\NumTab w K a [("find",2),("join",3)]
noncomputable abbrev dl:Stmt:=top 13
theorem sc_find_none:FnScope ["ups","x","at","steps"] ["ups","x"] (af dl):=⟨rfl,rfl,rfl,by decide +kernel,rfl,by decide +kernel,by decide +kernel⟩
noncomputable abbrev cI:Stmt:=top 14
theorem sc_find_whole:FnScope ["ups","x","head","steps","at","above"] ["ups","x"] (af cI):=⟨rfl,rfl,rfl,by decide +kernel,rfl,by decide +kernel,by decide +kernel⟩
noncomputable abbrev cj:Stmt:=top 15
theorem sc_find_halves:FnScope ["ups","x","at","steps"] ["ups","x"] (af cj):=⟨rfl,rfl,rfl,by decide +kernel,rfl,by decide +kernel,by decide +kernel⟩
noncomputable abbrev cc:Stmt:=top 16
theorem sc_find_splits:FnScope ["ups","x","at","steps","above"] ["ups","x"] (af cc):=⟨rfl,rfl,rfl,by decide +kernel,rfl,by decide +kernel,by decide +kernel⟩
noncomputable abbrev eg:Stmt:=top 17
theorem sc_find_one:FnScope ["ups","x","head","steps"] ["ups","x"] (af eg):=⟨rfl,rfl,rfl,by decide +kernel,rfl,by decide +kernel,by decide +kernel⟩
noncomputable abbrev cY:Stmt:=top 42
theorem sc__law_numbers:FnScope ["_law_cell_here","_law_many_here","_law_some","_law_state","_law_digits","_law_k"] ["_law_cell_here","_law_many_here"] (af cY):=⟨rfl,rfl,rfl,by decide +kernel,rfl,by decide +kernel,by decide +kernel⟩
noncomputable abbrev fv:Stmt:=top 43
theorem qA:FnScope ["_law_x"] ["_law_x"] (af fv):=⟨rfl,rfl,rfl,by decide +kernel,rfl,by decide +kernel,by decide +kernel⟩
noncomputable abbrev fE:Stmt:=top 41
theorem sc__law_cell:FnScope ["_law_script","_law_k","_law_state","_law_cell_here"] ["_law_script","_law_k"] (af fE):=⟨rfl,rfl,rfl,by decide +kernel,rfl,by decide +kernel,by decide +kernel⟩
noncomputable abbrev eJ:Stmt:=top 44
theorem sc__law_joins:FnScope ["_law_script","_law_at","_law_many_here","_law_most","_law_head","_law_row","_law_k","_law_xs","_law_x","_law_y"] ["_law_script","_law_at","_law_many_here","_law_most"] (af eJ):=⟨rfl,rfl,rfl,by decide +kernel,rfl,by decide +kernel,by decide +kernel⟩
noncomputable abbrev eO:Stmt:=top 45
theorem sc__law_deeds:FnScope ["_law_script","_law_at","_law_many_here","_law_most","_law_row","_law_k","_law_x","_law_y","_law_xs"] ["_law_script","_law_at","_law_many_here","_law_most"] (af eO):=⟨rfl,rfl,rfl,by decide +kernel,rfl,by decide +kernel,by decide +kernel⟩
noncomputable abbrev gt:Stmt:=top 8
theorem sA:FnScope ["thing"] ["thing"] (af gt):=⟨rfl,rfl,rfl,by decide +kernel,rfl,by decide +kernel,by decide +kernel⟩
noncomputable abbrev ig:Stmt:=top 9
theorem uY:FnScope ["thing"] ["thing"] (af ig):=⟨rfl,rfl,rfl,by decide +kernel,rfl,by decide +kernel,by decide +kernel⟩
noncomputable abbrev eH:Stmt:=top 11
theorem pK:FnScope ["many"] ["many"] (af eH):=⟨rfl,rfl,rfl,by decide +kernel,rfl,by decide +kernel,by decide +kernel⟩
noncomputable abbrev bD:Stmt:=top 37
theorem jH:FnScope ["thing"] ["thing"] (af bD):=⟨rfl,rfl,rfl,by decide +kernel,rfl,by decide +kernel,by decide +kernel⟩
noncomputable abbrev eM:Stmt:=top 38
theorem o9:FnScope ["join"] ["join"] (af eM):=⟨rfl,rfl,rfl,by decide +kernel,rfl,by decide +kernel,by decide +kernel⟩
noncomputable abbrev eA:Stmt:=top 19
theorem mM:FnScope ["thing"] ["thing"] (af eA):=⟨rfl,rfl,rfl,by decide +kernel,rfl,by decide +kernel,by decide +kernel⟩
noncomputable abbrev dE:Stmt:=top 20
theorem oi:FnScope ["short"] ["short"] (af dE):=⟨rfl,rfl,rfl,by decide +kernel,rfl,by decide +kernel,by decide +kernel⟩
noncomputable abbrev fD:Stmt:=top 39
theorem sc_new_store:FnScope ["many","join","short","mark"] ["many","join","short"] (af fD):=⟨rfl,rfl,rfl,by decide +kernel,rfl,by decide +kernel,by decide +kernel⟩
noncomputable abbrev fL:Stmt:=top 21
theorem sc_find_in:FnScope ["ups","short","x","behind","manner","head","steps"] ["ups","short","x"] (af fL):=⟨rfl,rfl,rfl,by decide +kernel,rfl,by decide +kernel,by decide +kernel⟩
noncomputable abbrev i4:Stmt:=top 29
theorem xc:FnScope ["numbers"] ["numbers"] (af i4):=⟨rfl,rfl,rfl,by decide +kernel,rfl,by decide +kernel,by decide +kernel⟩
noncomputable abbrev fF:Stmt:=top 30
theorem sc_find_done:FnScope ["store","x","join","short","ups","marks","head","behind","steps"] ["store","x"] (af fF):=⟨rfl,rfl,rfl,by decide +kernel,rfl,by decide +kernel,by decide +kernel⟩
noncomputable abbrev dI:Stmt:=top 26
theorem oN:FnScope ["join","marks","first","second"] ["join","marks","first","second"] (af dI):=⟨rfl,rfl,rfl,by decide +kernel,rfl,by decide +kernel,by decide +kernel⟩
noncomputable abbrev dJ:Stmt:=top 27
theorem nK:FnScope ["join","top","under"] ["join","top","under"] (af dJ):=⟨rfl,rfl,rfl,by decide +kernel,rfl,by decide +kernel,by decide +kernel⟩
noncomputable abbrev bw:Stmt:=top 28
theorem sc_with_heads_joined:FnScope ["store","first","second","join","short","ups","marks","stays","top","under","new_ups","new_marks"] ["store","first","second"] (af bw):=⟨rfl,rfl,rfl,by decide +kernel,rfl,by decide +kernel,by decide +kernel⟩
noncomputable abbrev fK:Stmt:=top 31
theorem sc_join_done:FnScope ["store","x","y","after_x","first","steps_x","after_y","second","steps_y","steps"] ["store","x","y"] (af fK):=⟨rfl,rfl,rfl,by decide +kernel,rfl,by decide +kernel,by decide +kernel⟩
noncomputable abbrev fA:Stmt:=top 32
theorem qE:FnScope ["store","deed"] ["store","deed"] (af fA):=⟨rfl,rfl,rfl,by decide +kernel,rfl,by decide +kernel,by decide +kernel⟩
noncomputable abbrev gO:Stmt:=top 10
theorem sR:FnScope ["many","thing"] ["many","thing"] (af gO):=⟨rfl,rfl,rfl,by decide +kernel,rfl,by decide +kernel,by decide +kernel⟩
noncomputable abbrev ib:Stmt:=top 24
theorem sc_is_deed:FnScope ["many","thing","word"] ["many","thing"] (af ib):=⟨rfl,rfl,rfl,by decide +kernel,rfl,by decide +kernel,by decide +kernel⟩
noncomputable abbrev mh:Stmt:=top 33
theorem B0:FnScope ["store","deed"] ["store","deed"] (af mh):=⟨rfl,rfl,rfl,by decide +kernel,rfl,by decide +kernel,by decide +kernel⟩
noncomputable abbrev fI:Stmt:=top 25
theorem sc_check_row:FnScope ["many","row","is_right","number","place"] ["many","row","is_right"] (af fI):=⟨rfl,rfl,rfl,by decide +kernel,rfl,by decide +kernel,by decide +kernel⟩
noncomputable abbrev qe:Stmt:=top 34
theorem sc_run:FnScope ["store","row","join","short","ups","marks","behind","answers","steps","deed","answer","count"] ["store","row"] (af qe):=⟨rfl,rfl,rfl,by decide +kernel,rfl,by decide +kernel,by decide +kernel⟩
noncomputable abbrev bm:Stmt:=top 49
theorem sc__law_renamed_right:FnScope ["_law_many_here","_law_join","_law_short","_law_row","_law_xs","_law_new","_law_turned","_law_store","_law_here","_law_there","_law_k","_law_ups","_law_marks"] ["_law_many_here","_law_join","_law_short","_law_row","_law_xs"] (af bm):=⟨rfl,rfl,rfl,by decide +kernel,rfl,by decide +kernel,by decide +kernel⟩
noncomputable abbrev gH:Stmt:=top 46
theorem sc__law_way:FnScope ["_law_ups","_law_x","_law_way_here"] ["_law_ups","_law_x"] (af gH):=⟨rfl,rfl,rfl,by decide +kernel,rfl,by decide +kernel,by decide +kernel⟩
noncomputable abbrev bG:Stmt:=top 48
theorem sc__law_again_right:FnScope ["_law_store","_law_x","_law_behind","_law_head","_law_steps","_law_later","_law_same","_law_more"] ["_law_store","_law_x"] (af bG):=⟨rfl,rfl,rfl,by decide +kernel,rfl,by decide +kernel,by decide +kernel⟩
noncomputable abbrev bz:Stmt:=top 47
theorem sc__law_beside_right:FnScope ["_law_deep","_law_other","_law_told","_law_more","_law_x","_law_way_here"] ["_law_deep","_law_other","_law_told","_law_more"] (af bz):=⟨rfl,rfl,rfl,by decide +kernel,rfl,by decide +kernel,by decide +kernel⟩
noncomputable abbrev lr:Stmt:=top 50
theorem sc_law:FnScope ["_law_script","_law_words","_law_at","_law_head","_law_many_here","_law_join","_law_row","_law_stores","_law_deed","_law_told","_law_short"] ["_law_script"] (af lr):=⟨rfl,rfl,rfl,by decide +kernel,rfl,by decide +kernel,by decide +kernel⟩
end K17
end
section
namespace K17
open PySem L2 Fo Pu Dp
open O17 (Txt top Tabs)
section
variable {P:Program}{w:World}{K:PySem.W.Frag}{mg:Str->Option Value}{base:Heap}
theorem mU (T:Txt mg)(F:FunD K mg "_law_numbers" cY ["_law_cell_here","_law_many_here"]):Def P w K mg base 1 "_law_numbers" ["_law_cell_here","_law_many_here"] (cv K (dz aD)):=
 cQ F sc__law_numbers (fun f cdv A outer s H E hr=>(ao (jN (iE ai) sc__law_numbers.nd rfl (by first|exact Or.inl rfl|exact Or.inr rfl))
  (ao (cy (aN (i:=3) sc__law_numbers.nd rfl (by first|exact Or.inl rfl|exact Or.inr rfl) (DE.ee (cL (kE (eX (cL (aq (pv 0)) aj) aj) aj) aj))))
  (ao (cy (aN (i:=4) sc__law_numbers.nd rfl (by first|exact Or.inl rfl|exact Or.inr rfl) (DE.ee aj)))
  (ao (fM (zJ (qO (bQ Cw (aq (pv 0)) aj (aI _)) (qk (bQ Ko (aq (pv 0)) (JU aj aj) (aI _))))) (aE (cy (aN (i:=4) sc__law_numbers.nd rfl (by first|exact Or.inl rfl|exact Or.inr rfl) (DE.ee (dh Hz Dm (aP Au rfl T.n_abs Fu (DA.t (ae ad (aq (pv 0)) ai)) (he:=ad _ _))))))) cx)
  (ao (kI ax (iP PassesOwn.never rfl (jZ (fJ rfl T.n_range (DA.t (ae ad (aq (pv 1)) ai)))) (am (i:=5) sc__law_numbers.nd rfl (by first|exact Or.inl rfl|exact Or.inr rfl)) (ao (cy (aN (i:=3) sc__law_numbers.nd rfl (by first|exact Or.inl rfl|exact Or.inr rfl) (DE.ee (cL (eX (eX (kE (aq (pv 3)) (eX (cL (aq (pv 3)) aj) aj)) (kE aj (aq (pv 5)))) aj) aj))))
  (ao (qh (gS (p8 PySem.F.plainAttrs_list PySem.F.slot_list_append PySem.F.type_list_append ic (pv 2) (DA.f (ae ap (aS (iE (ae ad (aq (pv 3)) (ae bT (cL (aq (pv 4)) aj) ai))) (dh uN qD (bB mJ rfl T.n_int qQ (DA.t (ae gL (i9 xT (aq (pv 4)) aj (aI _)) ai)) (he:=gL _ _))) (fun _ _=>rfl)) ai)))))
  (aE (cy (aN (i:=4) sc__law_numbers.nd rfl (by first|exact Or.inl rfl|exact Or.inr rfl) (DE.ee (nt (aq (pv 4)) aj)))))))))
  (aE (rH (pv 2)))))))))
theorem ot (T:Txt mg)(F:FunD K mg "mark_behind" dJ ["join","top","under"]):Def P w K mg base 1 "mark_behind" ["join","top","under"] (cv K (dz ci)):=
 cQ F nK (fun f cdv A outer s H E hr=>(ao (fM (bQ (iK hr.units) (aq (pv 0)) d6 (aI _)) (aE (bo (eX (aq (pv 1)) (aq (pv 2))))) cx)
  (ao (fM (zJ (tx (bQ (iK hr.units) (aq (pv 0)) d6 (aI _)) (nO (bQ (iK hr.units) (aq (pv 1)) (aq (pv 2)) (aI _))))) (aE (bo (eX (aq (pv 1)) aj))) cx)
  (aE (rH (pv 1))))))
theorem qX (T:Txt mg)(F:FunD K mg "deed_done" fA ["store","deed"])(d_join_done:Def P w K mg base 5 "join_done" ["store","x","y"] (cv K (dz dk)))(d_find_done:Def P w K mg base 4 "find_done" ["store","x"] (cv K (dz bp))):Def P w K mg base 6 "deed_done" ["store","deed"] (cv K (dz bS)):=
 cQ F qE (fun f cdv A outer s H E hr=>(ao (fM (bQ (iK hr.units) (aS (aq (pv 1)) aj (fun _ _=>rfl)) d6 (aI _)) (aE (bo (az d_find_done hr (ae ad (aq (pv 0)) (ae ap (aS (aq (pv 1)) aj (fun _ _=>rfl)) ai)) (he:=ad _ _)))) cx)
  (aE (bo (az d_join_done hr (ae ad (aq (pv 0)) (ae ap (aS (aq (pv 1)) aj (fun _ _=>rfl)) (ae ap (aS (aq (pv 1)) aj (fun _ _=>rfl)) ai))) (he:=ad _ _))))))
theorem qM (T:Txt mg)(F:FunD K mg "check_row" fI ["many","row","is_right"]){t:my}(hd:∀a G,look t a=some G->DefA P w K mg base 3 a ["many","thing"] (cv K (dz G))):Def P w K mg base 4 "check_row" ["many","row","is_right"] (cv K (dz (dr t))):=
 cQ F sc_check_row (fun f cdv A outer s H E hr=>(ao (fM (jY (jq (dh lQ ma (aP ez rfl T.n_isinstance cO (DA.t (ae ad (aq (pv 1)) (ae ad (yr (oM (p:=.ty "tuple") (nX T.n_tuple d8))) ai))) (he:=ad _ _))))) (aE qa) cx)
  (aE (kI (hZ (aR ax (aR ax hX))) (iP PassesOwn.never rfl (wA (t7 rfl T.n_enumerate (DA.f (ae ad (aq (pv 1)) ai)))) (dv (K:=K) (n:=2) rfl rfl (av (am (i:=3) sc_check_row.nd rfl (by first|exact Or.inl rfl|exact Or.inr rfl)) (av (am (i:=4) sc_check_row.nd rfl (by first|exact Or.inl rfl|exact Or.inr rfl)) cb))) (aE (fM (jY (jq (DQ (i:=2) hd hr rfl (ae ad (aq (pv 0)) (ae ad (aq (pv 4)) ai)) (he:=ad _ _)))) (aE qa) cx)))))))
theorem ky (T:Txt mg)(F:FunD K mg "_law_again_right" bG ["_law_store","_law_x"])(d_done:Def P w K mg base 7 "done" ["store","deed"] (cv K (dz gF)))(d__law_way:Def P w K mg base 1 "_law_way" ["_law_ups","_law_x"] (cv K (dz bI))):Def P w K mg base 8 "_law_again_right" ["_law_store","_law_x"] (cv K (dz bK)):=
 cQ F sc__law_again_right (fun f cdv A outer s H E hr=>(ao (i7 (hZ (aR ax (aR ax (aR ax hX)))) (cA (DE.ee (az d_done hr (ae ad (aq (pv 0)) (ae gU (eW (ae aB d6 (ae ad (aq (pv 1)) ai))) ai)) (he:=ad _ _))) (dv (K:=K) (n:=3) rfl rfl (av (am (i:=2) sc__law_again_right.nd rfl (by first|exact Or.inl rfl|exact Or.inr rfl)) (av (am (i:=3) sc__law_again_right.nd rfl (by first|exact Or.inl rfl|exact Or.inr rfl)) (av (am (i:=4) sc__law_again_right.nd rfl (by first|exact Or.inl rfl|exact Or.inr rfl)) cb))))))
  (ao (i7 (hZ (aR ax (aR ax (aR ax hX)))) (cA (DE.ee (az d_done hr (ae ad (aq (pv 2)) (ae gU (eW (ae aB d6 (ae ad (aq (pv 1)) ai))) ai)) (he:=ad _ _))) (dv (K:=K) (n:=3) rfl rfl (av (am (i:=5) sc__law_again_right.nd rfl (by first|exact Or.inl rfl|exact Or.inr rfl)) (av (am (i:=6) sc__law_again_right.nd rfl (by first|exact Or.inl rfl|exact Or.inr rfl)) (av (am (i:=7) sc__law_again_right.nd rfl (by first|exact Or.inl rfl|exact Or.inr rfl)) cb))))))
  (ao (fM (zJ (qO (bQ (mD hr.units) (aq (pv 6)) (aq (pv 3)) (aI _)) (qO (bQ xT (aq (pv 4)) (EL (dh fY d5 (aP cH rfl T.n_len gb (DA.t (ae aO (az d__law_way hr (ae ap (aS (aq (pv 0)) aj (fun _ _=>rfl)) (ae ad (aq (pv 1)) ai)) (he:=ap _ _)) ai)) (he:=aO _ _))) aj) (aI _)) (qO (bQ xT (aq (pv 7)) (aq (pv 4)) (aI _)) (qk (bQ (mD hr.units) (aS (aq (pv 5)) aj (fun _ _=>rfl)) (aS (aq (pv 0)) aj (fun _ _=>rfl)) (aI _))))))) (aE (bo jP)) cx)
  (ao (fM (bQ (iK hr.units) (aS (aq (pv 0)) aj (fun _ _=>rfl)) d6 (aI _)) (aE (bo (ua (i9 (iK hr.units) (aq (pv 2)) (aq (pv 0)) (aI _)) (qj (i9 (iK hr.units) (aq (pv 7)) (aq (pv 4)) (aI _)))))) cx)
  (aE (bo (LP (i9 (mD hr.units) (aS (aq (pv 0)) aj (fun _ _=>rfl)) d6 (aI _)) (qj (i9 (iK hr.units) (aq (pv 7)) (dh qS nM (aP (mB rfl) rfl T.n_min uF (DA.t (ae ad (aq (pv 4)) (ae aB aj ai))) (he:=ad _ _))) (aI _)))))))))))
end
end K17
end
section
namespace K17
open PySem L2 Fo Pu Dp
open O17 (Txt top Tabs)
section
variable {P:Program}{w:World}{K:PySem.W.Frag}{mg:Str->Option Value}{base:Heap}
theorem qJ (T:Txt mg)(F:FunD K mg "_law_many" fv ["_law_x"]):Def P w K mg base 1 "_law_many" ["_law_x"] (cv K (dz dm)):=
 cQ F qA (fun f cdv A outer s H E hr=>(aE (bo (aS (iE (ae bT (eX aj (cL (nt (aq (pv 0)) aj) aj)) (ae bT (eX aj (cL (nt (aq (pv 0)) aj) aj)) ai))) (dh uN qD (bB mJ rfl T.n_int qQ (DA.t (ae gL (i9 (iK hr.units) (cL (aq (pv 0)) aj) aj (aI _)) ai)) (he:=gL _ _))) (fun _ _=>rfl)))))
theorem ur (T:Txt mg)(F:FunD K mg "is_many" ig ["thing"])(d_is_whole:Def P w K mg base 1 "is_whole" ["thing"] (cv K (dz cn))):Def P w K mg base 2 "is_many" ["thing"] (cv K (dz eI)):=
 cQ F uY (fun f cdv A outer s H E hr=>(aE (bo (ua (az d_is_whole hr (ae ad (aq (pv 0)) ai) (he:=ad _ _)) (qj (Js CA CA aj (aq (pv 0)) (yr (oM (p:=.int 40) (FL T.c_MOST_THINGS))) (by with_unfolding_all rfl)))))))
theorem pi (T:Txt mg)(F:FunD K mg "check_join" eM ["join"])(d_is_way_of_joining:Def P w K mg base 1 "is_way_of_joining" ["thing"] (cv K (dz aY))):Def P w K mg base 2 "check_join" ["join"] (cv K (dz dy)):=
 cQ F o9 (fun f cdv A outer s H E hr=>(aE (fM (jY (jq (az d_is_way_of_joining hr (ae ad (aq (pv 0)) ai) (he:=ad _ _)))) (aE qa) cx)))
theorem xb (T:Txt mg)(F:FunD K mg "copied" i4 ["numbers"]):Def P w K mg base 1 "copied" ["numbers"] (cv K (dz de)):=
 cQ F xc (fun f cdv A outer s H E hr=>(aE (bo (dh kX jl (bB cf rfl T.n_tuple d8 (DA.t (ae aO (nh T.n_list (ae ad (aq (pv 0)) ai) (he:=ad _ _)) ai)) (he:=aO _ _))))))
theorem oU (T:Txt mg)(F:FunD K mg "first_stays" dI ["join","marks","first","second"]):Def P w K mg base 1 "first_stays" ["join","marks","first","second"] (cv K (dz cg)):=
 cQ F oN (fun f cdv A outer s H E hr=>(ao (fM (bQ (iK hr.units) (aq (pv 0)) d6 (aI _)) (aE (bo jP)) cx)
  (ao (fM (bQ (iK hr.units) (aq (pv 0)) d6 (aI _)) (aE (bo (i9 Cw (aq (pv 2)) (aq (pv 3)) (aI _)))) cx)
  (aE (bo (i9 Ko (aS (aq (pv 1)) (aq (pv 2)) (fun _ _=>rfl)) (aS (aq (pv 1)) (aq (pv 3)) (fun _ _=>rfl)) (aI _)))))))
theorem jJ (T:Txt mg)(F:FunD K mg "with_heads_joined" bw ["store","first","second"])(d_first_stays:Def P w K mg base 1 "first_stays" ["join","marks","first","second"] (cv K (dz cg)))(d_mark_behind:Def P w K mg base 1 "mark_behind" ["join","top","under"] (cv K (dz ci))):Def P w K mg base 2 "with_heads_joined" ["store","first","second"] (cv K (dz aX)):=
 cQ F sc_with_heads_joined (fun f cdv A outer s H E hr=>(ao (i7 (hZ (aR ax (aR ax (aR ax (aR ax hX))))) (cA (DE.ee (aq (pv 0))) (dv (K:=K) (n:=4) rfl rfl (av (am (i:=3) sc_with_heads_joined.nd rfl (by first|exact Or.inl rfl|exact Or.inr rfl)) (av (am (i:=4) sc_with_heads_joined.nd rfl (by first|exact Or.inl rfl|exact Or.inr rfl)) (av (am (i:=5) sc_with_heads_joined.nd rfl (by first|exact Or.inl rfl|exact Or.inr rfl)) (av (am (i:=6) sc_with_heads_joined.nd rfl (by first|exact Or.inl rfl|exact Or.inr rfl)) cb)))))))
  (ao (cy (aN (i:=7) sc_with_heads_joined.nd rfl (by first|exact Or.inl rfl|exact Or.inr rfl) (DE.ee (az d_first_stays hr (ae ad (aq (pv 3)) (ae ad (aq (pv 6)) (ae ad (aq (pv 1)) (ae ad (aq (pv 2)) ai)))) (he:=ad _ _)))))
  (ao (i7 (hZ (aR ax (aR ax hX))) (cA (DE.ee (J0 (jq (aq (pv 7))) (eW (ae ad (aq (pv 1)) (ae ad (aq (pv 2)) ai))) (eW (ae ad (aq (pv 2)) (ae ad (aq (pv 1)) ai))))) (dv (K:=K) (n:=2) rfl rfl (av (am (i:=8) sc_with_heads_joined.nd rfl (by first|exact Or.inl rfl|exact Or.inr rfl)) (av (am (i:=9) sc_with_heads_joined.nd rfl (by first|exact Or.inl rfl|exact Or.inr rfl)) cb)))))
  (ao (jN (nh T.n_list (ae ad (aq (pv 5)) ai) (he:=ad _ _)) sc_with_heads_joined.nd rfl (by first|exact Or.inl rfl|exact Or.inr rfl))
  (ao (Ev (cA (DE.ee (aq (pv 8))) (mG (pv 10) (DE.ee (aq (pv 9))) i5)))
  (ao (jN (nh T.n_list (ae ad (aq (pv 6)) ai) (he:=ad _ _)) sc_with_heads_joined.nd rfl (by first|exact Or.inl rfl|exact Or.inr rfl))
  (ao (Ev (cA (DE.ee (az d_mark_behind hr (ae ad (aq (pv 3)) (ae ap (aS (aq (pv 6)) (aq (pv 8)) (fun _ _=>rfl)) (ae ap (aS (aq (pv 6)) (aq (pv 9)) (fun _ _=>rfl)) ai))) (he:=ad _ _))) (mG (pv 11) (DE.ee (aq (pv 8))) i5)))
  (aE (bo (eW (ae ad (aq (pv 3)) (ae ad (aq (pv 4)) (ae aO (dh kX jl (bB cf rfl T.n_tuple d8 (DA.t (ae ad (aq (pv 10)) ai)) (he:=ad _ _))) (ae aO (dh kX jl (bB cf rfl T.n_tuple d8 (DA.t (ae ad (aq (pv 11)) ai)) (he:=ad _ _))) ai)))))))))))))))
end
end K17
end
section
namespace K17
open PySem L2 Fo Pu Dp
open O17 (Txt top Tabs)
section
variable {P:Program}{w:World}{K:PySem.W.Frag}{mg:Str->Option Value}{base:Heap}
theorem rD (T:Txt mg)(F:FunD K mg "_law_cell" fE ["_law_script","_law_k"]):Def P w K mg base 1 "_law_cell" ["_law_script","_law_k"] (cv K (dz aV)):=
 cQ F sc__law_cell (fun f cdv A outer s H E hr=>(ao (fM (bQ Cw (aq (pv 1)) (dh fY d5 (aP cH rfl T.n_len gb (DA.t (ae ad (aq (pv 0)) ai)) (he:=ad _ _))) (aI _)) (aE (bo (aS (aq (pv 0)) (aq (pv 1)) (fun _ _=>rfl)))) cx)
  (ao (cy (aN (i:=2) sc__law_cell.nd rfl (by first|exact Or.inl rfl|exact Or.inr rfl) (DE.ee (cL (kE aj (eX (eX (kE (aq (pv 1)) (aq (pv 1))) (kE aj (aq (pv 1)))) aj)) aj))))
  (ao (kI ax (iP PassesOwn.never rfl (iZ (sE (aq (pv 0)) sK (ud aj))) (am (i:=3) sc__law_cell.nd rfl (by first|exact Or.inl rfl|exact Or.inr rfl)) (aE (cy (aN (i:=2) sc__law_cell.nd rfl (by first|exact Or.inl rfl|exact Or.inr rfl) (DE.ee (cL (eX (kE (aq (pv 2)) aj) (aq (pv 3))) aj)))))))
  (aE (rH (pv 2)))))))
theorem oJ (T:Txt mg)(F:FunD K mg "check_short" dE ["short"])(d_is_short:Def P w K mg base 1 "is_short" ["thing"] (cv K (dz eC))):Def P w K mg base 2 "check_short" ["short"] (cv K (dz ck)):=
 cQ F oi (fun f cdv A outer s H E hr=>(aE (fM (jY (jq (az d_is_short hr (ae ad (aq (pv 0)) ai) (he:=ad _ _)))) (aE qa) cx)))
theorem qH (T:Txt mg)(F:FunD K mg "new_store" fD ["many","join","short"])(d_check_many:Def P w K mg base 3 "check_many" ["many"] (cv K (dz du)))(d_check_join:Def P w K mg base 2 "check_join" ["join"] (cv K (dz dy)))(d_check_short:Def P w K mg base 2 "check_short" ["short"] (cv K (dz ck))):Def P w K mg base 4 "new_store" ["many","join","short"] (cv K (dz bU)):=
 cQ F sc_new_store (fun f cdv A outer s H E hr=>(ao (qY (gS (DE.ee (az d_check_many hr (ae ad (aq (pv 0)) ai) (he:=ad _ _)))))
  (ao (qY (gS (DE.ee (az d_check_join hr (ae ad (aq (pv 1)) ai) (he:=ad _ _)))))
  (ao (qY (gS (DE.ee (az d_check_short hr (ae ad (aq (pv 2)) ai) (he:=ad _ _)))))
  (ao (cy (aN (i:=3) sc_new_store.nd rfl (by first|exact Or.inl rfl|exact Or.inr rfl) (DE.ee (J0 (bQ (iK hr.units) (aq (pv 1)) d6 (aI _)) aj aj))))
  (aE (bo (eW (ae ad (aq (pv 1)) (ae ad (aq (pv 2)) (ae aO (Ic T.n_tuple (ae aO (dh Fq DX (bB tJ rfl T.n_range zo (DA.t (ae ad (aq (pv 0)) ai)) (he:=ad _ _))) ai) (he:=aO _ _)) (ae bT (kE (eW (ae ad (aq (pv 3)) ai)) (aq (pv 0))) ai))))))))))))
theorem sZ (T:Txt mg)(F:FunD K mg "is_thing" gO ["many","thing"])(d_is_whole:Def P w K mg base 1 "is_whole" ["thing"] (cv K (dz cn))):Def P w K mg base 2 "is_thing" ["many","thing"] (cv K (dz d9)):=
 cQ F sR (fun f cdv A outer s H E hr=>(aE (bo (ua (az d_is_whole hr (ae ad (aq (pv 1)) ai) (he:=ad _ _)) (qj (Js CA Cw aj (aq (pv 1)) (aq (pv 0)) (by with_unfolding_all rfl)))))))
theorem uX (T:Txt mg)(TK:Kon w K mg)(F:FunD K mg "is_deed" ib ["many","thing"])(d_is_thing:Def P w K mg base 2 "is_thing" ["many","thing"] (cv K (dz d9))):Def P w K mg base 3 "is_deed" ["many","thing"] (cv K (dz bZ)):=
 cQ F sc_is_deed (fun f cdv A outer s H E hr=>(ao (fM (zJ (qO (jY (jq (dh lQ ma (aP ez rfl T.n_isinstance cO (DA.t (ae ad (aq (pv 1)) (ae ad (yr (oM (p:=.ty "tuple") (nX T.n_tuple d8))) ai))) (he:=ad _ _))))) (qk (bQ (iK hr.units) (dh fY d5 (aP cH rfl T.n_len gb (DA.t (ae ad (aq (pv 1)) ai)) (he:=ad _ _))) aj (aI _))))) (aE (bo jP)) cx)
  (ao (cy (aN (i:=2) sc_is_deed.nd rfl (by first|exact Or.inl rfl|exact Or.inr rfl) (DE.ee (aS (aq (pv 1)) aj (fun _ _=>rfl)))))
  (ao (fM (zJ (qO (jY (jq (dh lQ ma (aP ez rfl T.n_isinstance cO (DA.t (ae ad (aq (pv 2)) (ae ad (yr (oM (p:=.ty "str") (nX T.n_str vH))) ai))) (he:=ad _ _))))) (qk (bQ (mD hr.units) (zL TK.k_LENGTHS (aq (pv 2)) ⟨rfl,rfl,rfl,rfl⟩) (dh fY d5 (aP cH rfl T.n_len gb (DA.t (ae ad (aq (pv 1)) ai)) (he:=ad _ _))) (aI _))))) (aE (bo jP)) cx)
  (aE (bo (dh vi qB (aP (oG rfl) rfl T.n_all vO (DA.t (ae bE (gq ax (eN ["x","many"] [none,some 0] (iZ (sE (aq (pv 1)) (ud aj) sK)) (fun bC bs bH bx=>(am (i:=0) (show List.Nodup (["x","many"]:List Str) by decide +kernel) rfl (by first|exact Or.inl rfl|exact Or.inr rfl))) (fun bC bs bH bx=>gG) (fun bC bs bH bx=>DE.ee (az d_is_thing hr (ae ad (aq (pv 1)) (ae ad (aq (pv 0)) ai)) (he:=ad _ _))) (bJ rfl))) ai)) (he:=bE _ _)))))))))
theorem jF (T:Txt mg)(F:FunD K mg "_law_beside_right" bz ["_law_deep","_law_other","_law_told","_law_more"])(d__law_way:Def P w K mg base 1 "_law_way" ["_law_ups","_law_x"] (cv K (dz bI))):Def P w K mg base 2 "_law_beside_right" ["_law_deep","_law_other","_law_told","_law_more"] (cv K (dz bA)):=
 cQ F sc__law_beside_right (fun f cdv A outer s H E hr=>(ao (fM (zJ (qO (bQ (mD hr.units) (aS (aq (pv 0)) aj (fun _ _=>rfl)) (aS (aq (pv 1)) aj (fun _ _=>rfl)) (aI _)) (qO (bQ (mD hr.units) (aS (aq (pv 2)) aj (fun _ _=>rfl)) (aS (aq (pv 3)) aj (fun _ _=>rfl)) (aI _)) (qk (bQ xT (aS (aq (pv 3)) aj (fun _ _=>rfl)) (aS (aq (pv 2)) aj (fun _ _=>rfl)) (aI _)))))) (aE (bo jP)) cx)
  (ao (kI ax (iP PassesOwn.never rfl (jZ (fJ rfl T.n_range (DA.t (ae aO (dh fY d5 (aP cH rfl T.n_len gb (DA.t (ae ap (aS (aq (pv 0)) aj (fun _ _=>rfl)) ai)) (he:=ap _ _))) ai)))) (am (i:=4) sc__law_beside_right.nd rfl (by first|exact Or.inl rfl|exact Or.inr rfl)) (ao (cy (aN (i:=5) sc__law_beside_right.nd rfl (by first|exact Or.inl rfl|exact Or.inr rfl) (DE.ee (az d__law_way hr (ae ap (aS (aq (pv 0)) aj (fun _ _=>rfl)) (ae ad (aq (pv 4)) ai)) (he:=ap _ _)))))
  (ao (fM (zJ (qO (bQ (Cn hr.units) (aS (aS (aq (pv 1)) aj (fun _ _=>rfl)) (aq (pv 4)) (fun _ _=>rfl)) (aq (pv 5)) (by with_unfolding_all rfl)) (qk (bQ xT (dh fY d5 (aP cH rfl T.n_len gb (DA.t (ae aO (az d__law_way hr (ae ap (aS (aq (pv 1)) aj (fun _ _=>rfl)) (ae ad (aq (pv 4)) ai)) (he:=ap _ _)) ai)) (he:=aO _ _))) (dh fY d5 (aP cH rfl T.n_len gb (DA.t (ae ad (aq (pv 5)) ai)) (he:=ad _ _))) (aI _))))) (aE (bo jP)) cx)
  (aE (fM (bQ (mD hr.units) (i9 (iK hr.units) (aS (aS (aq (pv 0)) aj (fun _ _=>rfl)) (aq (pv 4)) (fun _ _=>rfl)) (aq (pv 4)) (aI _)) (i9 (iK hr.units) (aS (aS (aq (pv 1)) aj (fun _ _=>rfl)) (aq (pv 4)) (fun _ _=>rfl)) (aq (pv 4)) (aI _)) (aI _)) (aE (bo jP)) cx))))))
  (aE (bo jP)))))
end
end K17
end
section
namespace K17
open PySem L2 Fo Pu Dp
open O17 (Txt top Tabs)
section
variable {P:Program}{w:World}{K:PySem.W.Frag}{mg:Str->Option Value}{base:Heap}
theorem pj (T:Txt mg)(F:FunD K mg "_law_joins" eJ ["_law_script","_law_at","_law_many_here","_law_most"])(d__law_numbers:Def P w K mg base 1 "_law_numbers" ["_law_cell_here","_law_many_here"] (cv K (dz aD)))(d__law_cell:Def P w K mg base 1 "_law_cell" ["_law_script","_law_k"] (cv K (dz aV))):Def P w K mg base 2 "_law_joins" ["_law_script","_law_at","_law_many_here","_law_most"] (cv K (dz cF)):=
 cQ F sc__law_joins (fun f cdv A outer s H E hr=>(ao (cy (aN (i:=4) sc__law_joins.nd rfl (by first|exact Or.inl rfl|exact Or.inr rfl) (DE.ee (az d__law_numbers hr (ae aO (az d__law_cell hr (ae ad (aq (pv 0)) (ae ad (aq (pv 1)) ai)) (he:=ad _ _)) (ae aB aj ai)) (he:=aO _ _)))))
  (ao (jN (iE ai) sc__law_joins.nd rfl (by first|exact Or.inl rfl|exact Or.inr rfl))
  (ao (kI ax (iP PassesOwn.never rfl (jZ (fJ rfl T.n_range (DA.t (ae bT (cL (aS (aq (pv 4)) aj (fun _ _=>rfl)) (eX (aq (pv 3)) aj)) ai)))) (am (i:=6) sc__law_joins.nd rfl (by first|exact Or.inl rfl|exact Or.inr rfl)) (ao (cy (aN (i:=7) sc__law_joins.nd rfl (by first|exact Or.inl rfl|exact Or.inr rfl) (DE.ee (sE (az d__law_numbers hr (ae aO (az d__law_cell hr (ae ad (aq (pv 0)) (ae bT (eX (eX (aq (pv 1)) aj) (nt (aq (pv 6)) aj)) ai)) (he:=ad _ _)) (ae aB aj ai)) (he:=aO _ _)) (ud (kE aj (cL (aq (pv 6)) aj))) sK))))
  (ao (Et (yQ (i:=8) (j:=9) rfl sc__law_joins.nd rfl rfl (by decide) rfl rfl (DA.f (ae bT (cL (aS (aq (pv 7)) aj (fun _ _=>rfl)) (aq (pv 2))) (ae bT (cL (aS (aq (pv 7)) aj (fun _ _=>rfl)) (aq (pv 2))) ai))) (by rfl)))
  (ao (fM (bQ (iK hr.units) (cL (aS (aq (pv 4)) aj (fun _ _=>rfl)) aj) aj (aI _)) (aE (Et (yQ (i:=8) (j:=9) rfl sc__law_joins.nd rfl rfl (by decide) rfl rfl (DA.f (ae bT (cL (aq (pv 6)) (aq (pv 2))) (ae bT (cL (eX (aq (pv 6)) aj) (aq (pv 2))) ai))) (by rfl)))) cx)
  (ao (fM (zJ (tx (bQ (iK hr.units) (cL (aS (aq (pv 4)) aj (fun _ _=>rfl)) aj) aj (aI _)) (nO (bQ xT (cL (aS (aq (pv 7)) aj (fun _ _=>rfl)) aj) aj (aI _))))) (ao (cy (aN (i:=8) sc__law_joins.nd rfl (by first|exact Or.inl rfl|exact Or.inr rfl) (DE.ee (cL (kE (nt (aq (pv 8)) aj) aj) (aq (pv 2))))))
  (aE (cy (aN (i:=9) sc__law_joins.nd rfl (by first|exact Or.inl rfl|exact Or.inr rfl) (DE.ee (dh qS nM (aP (mB rfl) rfl T.n_min uF (DA.t (ae bT (EL (aq (pv 2)) aj) (ae bT (eX (aq (pv 8)) aj) ai))) (he:=bT _ _)))))))) cx)
  (ao (fM (zJ (tx (bQ (mD hr.units) (aq (pv 5)) (iE ai) (aI _)) (nO (bQ (iK hr.units) (cL (aS (aq (pv 7)) aj (fun _ _=>rfl)) aj) aj (aI _))))) (aE (i7 (hZ (aR ax (aR ax hX))) (cA (DE.ee (aS (aq (pv 5)) (cL (aS (aq (pv 7)) aj (fun _ _=>rfl)) (dh fY d5 (aP cH rfl T.n_len gb (DA.t (ae ad (aq (pv 5)) ai)) (he:=ad _ _)))) (fun _ _=>rfl))) (dv (K:=K) (n:=2) rfl rfl (av (am (i:=8) sc__law_joins.nd rfl (by first|exact Or.inl rfl|exact Or.inr rfl)) (av (am (i:=9) sc__law_joins.nd rfl (by first|exact Or.inl rfl|exact Or.inr rfl)) cb)))))) cx)
  (aE (qh (gS (p8 PySem.F.plainAttrs_list PySem.F.slot_list_append PySem.F.type_list_append ic (pv 5) (DA.f (ae ap (aS (iE (ae gU (eW (ae ad (aq (pv 8)) (ae ad (aq (pv 9)) ai))) (ae gU (eW (ae ad (aq (pv 9)) (ae ad (aq (pv 8)) ai))) ai))) (cL (nt (aS (aq (pv 7)) aj (fun _ _=>rfl)) aj) aj) (fun _ _=>rfl)) ai)))))))))))))
  (aE (bo (dh kX jl (bB cf rfl T.n_tuple d8 (DA.t (ae ad (aq (pv 5)) ai)) (he:=ad _ _)))))))))
theorem jA (T:Txt mg)(F:FunD K mg "_law_renamed_right" bm ["_law_many_here","_law_join","_law_short","_law_row","_law_xs"]){a_is_deed:Addr}(d_new_store:Def P w K mg base 4 "new_store" ["many","join","short"] (cv K (dz bU)))(d_run:Def P w K mg base 7 "run" ["store","row"] (cv K (dz (kG a_is_deed)))):Def P w K mg base 8 "_law_renamed_right" ["_law_many_here","_law_join","_law_short","_law_row","_law_xs"] (cv K (dz (bq a_is_deed))):=
 cQ F sc__law_renamed_right (fun f cdv A outer s H E hr=>(ao (cy (aN (i:=5) sc__law_renamed_right.nd rfl (by first|exact Or.inl rfl|exact Or.inr rfl) (DE.ee (gq ax (eN ["_law_pair"] [none] (iZ (Lj vb uM (aP r9 rfl T.n_sorted yn (DA.t (ae bE (gq ax (eN ["_law_k","_law_xs"] [none,some 4] (jZ (fJ rfl T.n_range (DA.t (ae ad (aq (pv 0)) ai)))) (fun bC bs bH bx=>(am (i:=0) (show List.Nodup (["_law_k","_law_xs"]:List Str) by decide +kernel) rfl (by first|exact Or.inl rfl|exact Or.inr rfl))) (fun bC bs bH bx=>gG) (fun bC bs bH bx=>DE.ee (eW (ae bT (cL (aS (aq (pv 1)) (aq (pv 0)) (fun _ _=>rfl)) aj) (ae ad (aq (pv 0)) ai)))) (bJ rfl))) ai)) (he:=bE _ _)))) (fun bC bs bH bx=>(am (i:=0) (show List.Nodup (["_law_pair"]:List Str) by decide +kernel) rfl (by first|exact Or.inl rfl|exact Or.inr rfl))) (fun bC bs bH bx=>gG) (fun bC bs bH bx=>DE.ee (aS (aq (pv 0)) aj (fun _ _=>rfl))) (bJ rfl))))))
  (ao (cy (aN (i:=6) sc__law_renamed_right.nd rfl (by first|exact Or.inl rfl|exact Or.inr rfl) (DE.ee (dh kX jl (bB cf rfl T.n_tuple d8 (DA.t (ae bE (gq ax (eN ["_law_deed","_law_new"] [none,some 5] (iZ (aq (pv 3))) (fun bC bs bH bx=>(am (i:=0) (show List.Nodup (["_law_deed","_law_new"]:List Str) by decide +kernel) rfl (by first|exact Or.inl rfl|exact Or.inr rfl))) (fun bC bs bH bx=>gG) (fun bC bs bH bx=>DE.ee (eX (eW (ae ap (aS (aq (pv 0)) aj (fun _ _=>rfl)) ai)) (dh kX jl (bB cf rfl T.n_tuple d8 (DA.t (ae bE (gq ax (eN ["_law_x","_law_new"] [none,some 1] (iZ (sE (aq (pv 0)) (ud aj) sK)) (fun bC bs bH bx=>(am (i:=0) (show List.Nodup (["_law_x","_law_new"]:List Str) by decide +kernel) rfl (by first|exact Or.inl rfl|exact Or.inr rfl))) (fun bC bs bH bx=>gG) (fun bC bs bH bx=>DE.ee (aS (aq (pv 1)) (aq (pv 0)) (fun _ _=>rfl))) (bJ rfl))) ai)) (he:=bE _ _))))) (bJ rfl))) ai)) (he:=bE _ _))))))
  (ao (cy (aN (i:=7) sc__law_renamed_right.nd rfl (by first|exact Or.inl rfl|exact Or.inr rfl) (DE.ee (az d_new_store hr (ae ad (aq (pv 0)) (ae ad (aq (pv 1)) (ae ad (aq (pv 2)) ai))) (he:=ad _ _)))))
  (ao (i7 (hZ (aR ax (aR ax hX))) (cA (DE.ee (eW (ae aO (az d_run hr (ae ad (aq (pv 7)) (ae ad (aq (pv 3)) ai)) (he:=ad _ _)) (ae aO (az d_run hr (ae ad (aq (pv 7)) (ae ad (aq (pv 6)) ai)) (he:=ad _ _)) ai)))) (dv (K:=K) (n:=2) rfl rfl (av (am (i:=8) sc__law_renamed_right.nd rfl (by first|exact Or.inl rfl|exact Or.inr rfl)) (av (am (i:=9) sc__law_renamed_right.nd rfl (by first|exact Or.inl rfl|exact Or.inr rfl)) cb)))))
  (ao (fM (bQ (mD hr.units) (aS (aq (pv 8)) aj (fun _ _=>rfl)) (aS (aq (pv 9)) aj (fun _ _=>rfl)) (aI _)) (aE (bo jP)) cx)
  (ao (kI ax (iP PassesOwn.never rfl (jZ (fJ rfl T.n_range (DA.t (ae aO (dh fY d5 (aP cH rfl T.n_len gb (DA.t (ae ad (aq (pv 3)) ai)) (he:=ad _ _))) ai)))) (am (i:=10) sc__law_renamed_right.nd rfl (by first|exact Or.inl rfl|exact Or.inr rfl)) (aE (fM (bQ (mD hr.units) (aS (aS (aq (pv 9)) aj (fun _ _=>rfl)) (aq (pv 10)) (fun _ _=>rfl)) (aS (iE (ae ap (aS (aS (aq (pv 8)) aj (fun _ _=>rfl)) (aq (pv 10)) (fun _ _=>rfl)) (ae ap (Jm (aq (pv 5)) (aS (aS (aq (pv 8)) aj (fun _ _=>rfl)) (aq (pv 10)) (fun _ _=>rfl)) (fun _ _=>rfl)) ai))) (dh uN qD (bB mJ rfl T.n_int qQ (DA.t (ae gL (i9 (iK hr.units) (aS (aS (aq (pv 3)) (aq (pv 10)) (fun _ _=>rfl)) aj (fun _ _=>rfl)) d6 (aI _)) ai)) (he:=gL _ _))) (fun _ _=>rfl)) (aI _)) (aE (bo jP)) cx))))
  (ao (i7 (hZ (aR ax (aR ax hX))) (cA (DE.ee (sE (aS (aq (pv 8)) aj (fun _ _=>rfl)) (ud aj) sK)) (dv (K:=K) (n:=2) rfl rfl (av (am (i:=11) sc__law_renamed_right.nd rfl (by first|exact Or.inl rfl|exact Or.inr rfl)) (av (am (i:=12) sc__law_renamed_right.nd rfl (by first|exact Or.inl rfl|exact Or.inr rfl)) cb)))))
  (ao (fM (bQ (mD hr.units) (gq ax (eN ["_law_x","_law_there","_law_new"] [none,some 9,some 5] (jZ (fJ rfl T.n_range (DA.t (ae ad (aq (pv 0)) ai)))) (fun bC bs bH bx=>(am (i:=0) (show List.Nodup (["_law_x","_law_there","_law_new"]:List Str) by decide +kernel) rfl (by first|exact Or.inl rfl|exact Or.inr rfl))) (fun bC bs bH bx=>gG) (fun bC bs bH bx=>DE.ee (aS (aS (aS (aq (pv 1)) aj (fun _ _=>rfl)) aj (fun _ _=>rfl)) (aS (aq (pv 2)) (aq (pv 0)) (fun _ _=>rfl)) (fun _ _=>rfl))) (bJ rfl))) (gq ax (eN ["_law_up","_law_new"] [none,some 5] (iZ (aq (pv 11))) (fun bC bs bH bx=>(am (i:=0) (show List.Nodup (["_law_up","_law_new"]:List Str) by decide +kernel) rfl (by first|exact Or.inl rfl|exact Or.inr rfl))) (fun bC bs bH bx=>gG) (fun bC bs bH bx=>DE.ee (aS (aq (pv 1)) (aq (pv 0)) (fun _ _=>rfl))) (bJ rfl))) (aI _)) (aE (bo jP)) cx)
  (aE (bo (i9 (iK hr.units) (gq ax (eN ["_law_x","_law_there","_law_new"] [none,some 9,some 5] (jZ (fJ rfl T.n_range (DA.t (ae ad (aq (pv 0)) ai)))) (fun bC bs bH bx=>(am (i:=0) (show List.Nodup (["_law_x","_law_there","_law_new"]:List Str) by decide +kernel) rfl (by first|exact Or.inl rfl|exact Or.inr rfl))) (fun bC bs bH bx=>gG) (fun bC bs bH bx=>DE.ee (aS (aS (aS (aq (pv 1)) aj (fun _ _=>rfl)) aj (fun _ _=>rfl)) (aS (aq (pv 2)) (aq (pv 0)) (fun _ _=>rfl)) (fun _ _=>rfl))) (bJ rfl))) (nh T.n_list (ae ad (aq (pv 12)) ai) (he:=ad _ _)) (aI _)))))))))))))
end
end K17
end
section
namespace K17
open PySem L2 Fo Pu Dp
open O17 (Txt top Tabs)
section
variable {P:Program}{w:World}{K:PySem.W.Frag}{mg:Str->Option Value}{base:Heap}
theorem pk (T:Txt mg)(F:FunD K mg "_law_deeds" eO ["_law_script","_law_at","_law_many_here","_law_most"])(d__law_joins:Def P w K mg base 2 "_law_joins" ["_law_script","_law_at","_law_many_here","_law_most"] (cv K (dz cF)))(d__law_numbers:Def P w K mg base 1 "_law_numbers" ["_law_cell_here","_law_many_here"] (cv K (dz aD)))(d__law_cell:Def P w K mg base 1 "_law_cell" ["_law_script","_law_k"] (cv K (dz aV))):Def P w K mg base 3 "_law_deeds" ["_law_script","_law_at","_law_many_here","_law_most"] (cv K (dz ca)):=
 cQ F sc__law_deeds (fun f cdv A outer s H E hr=>(ao (jN (iE ai) sc__law_deeds.nd rfl (by first|exact Or.inl rfl|exact Or.inr rfl))
  (ao (kI (hZ (aR ax (aR (hZ (aR ax (aR ax hX))) hX))) (iP PassesOwn.never rfl (wA (t7 rfl T.n_enumerate (DA.f (ae aO (az d__law_joins hr (ae ad (aq (pv 0)) (ae ad (aq (pv 1)) (ae ad (aq (pv 2)) (ae ad (aq (pv 3)) ai)))) (he:=ad _ _)) ai)))) (dv (K:=K) (n:=2) rfl rfl (av (am (i:=5) sc__law_deeds.nd rfl (by first|exact Or.inl rfl|exact Or.inr rfl)) (av (dv (K:=K) (n:=2) rfl rfl (av (am (i:=6) sc__law_deeds.nd rfl (by first|exact Or.inl rfl|exact Or.inr rfl)) (av (am (i:=7) sc__law_deeds.nd rfl (by first|exact Or.inl rfl|exact Or.inr rfl)) cb))) cb))) (ao (cy (aN (i:=8) sc__law_deeds.nd rfl (by first|exact Or.inl rfl|exact Or.inr rfl) (DE.ee (az d__law_numbers hr (ae aO (az d__law_cell hr (ae ad (aq (pv 0)) (ae bT (eX (eX (aq (pv 1)) aj) (nt (aq (pv 5)) aj)) ai)) (he:=ad _ _)) (ae aB aj ai)) (he:=aO _ _)))))
  (aE (qh (gS (p8 PySem.F.plainAttrs_list PySem.F.slot_list_append PySem.F.type_list_append ic (pv 4) (DA.f (ae ap (aS (iE (ae gU (eW (ae aB d6 (ae ad (aq (pv 6)) (ae ad (aq (pv 7)) ai)))) (ae gU (eW (ae aB d6 (ae ad (aq (pv 6)) (ae ad (aq (pv 7)) ai)))) (ae gU (eW (ae aB d6 (ae ad (aq (pv 6)) ai))) ai)))) (cL (aS (aq (pv 8)) (cL (aq (pv 5)) aj) (fun _ _=>rfl)) aj) (fun _ _=>rfl)) ai)))))))))
  (aE (bo (dh kX jl (bB cf rfl T.n_tuple d8 (DA.t (ae ad (aq (pv 4)) ai)) (he:=ad _ _))))))))
theorem rO (T:Txt mg)(F:FunD K mg "join_done" fK ["store","x","y"])(d_find_done:Def P w K mg base 4 "find_done" ["store","x"] (cv K (dz bp)))(d_with_heads_joined:Def P w K mg base 2 "with_heads_joined" ["store","first","second"] (cv K (dz aX))):Def P w K mg base 5 "join_done" ["store","x","y"] (cv K (dz dk)):=
 cQ F sc_join_done (fun f cdv A outer s H E hr=>(ao (i7 (hZ (aR ax (aR ax (aR ax hX)))) (cA (DE.ee (az d_find_done hr (ae ad (aq (pv 0)) (ae ad (aq (pv 1)) ai)) (he:=ad _ _))) (dv (K:=K) (n:=3) rfl rfl (av (am (i:=3) sc_join_done.nd rfl (by first|exact Or.inl rfl|exact Or.inr rfl)) (av (am (i:=4) sc_join_done.nd rfl (by first|exact Or.inl rfl|exact Or.inr rfl)) (av (am (i:=5) sc_join_done.nd rfl (by first|exact Or.inl rfl|exact Or.inr rfl)) cb))))))
  (ao (i7 (hZ (aR ax (aR ax (aR ax hX)))) (cA (DE.ee (az d_find_done hr (ae ad (aq (pv 3)) (ae ad (aq (pv 2)) ai)) (he:=ad _ _))) (dv (K:=K) (n:=3) rfl rfl (av (am (i:=6) sc_join_done.nd rfl (by first|exact Or.inl rfl|exact Or.inr rfl)) (av (am (i:=7) sc_join_done.nd rfl (by first|exact Or.inl rfl|exact Or.inr rfl)) (av (am (i:=8) sc_join_done.nd rfl (by first|exact Or.inl rfl|exact Or.inr rfl)) cb))))))
  (ao (cy (aN (i:=9) sc_join_done.nd rfl (by first|exact Or.inl rfl|exact Or.inr rfl) (DE.ee (eX (aq (pv 5)) (aq (pv 8))))))
  (ao (fM (bQ (iK hr.units) (aq (pv 4)) (aq (pv 7)) (aI _)) (aE (bo (eW (ae ad (aq (pv 6)) (ae aB jP (ae ad (aq (pv 9)) ai)))))) cx)
  (aE (bo (eW (ae aO (az d_with_heads_joined hr (ae ad (aq (pv 6)) (ae ad (aq (pv 4)) (ae ad (aq (pv 7)) ai))) (he:=ad _ _)) (ae aB jP (ae ad (aq (pv 9)) ai)))))))))))
theorem sY (T:Txt mg)(F:FunD K mg "_law_way" gH ["_law_ups","_law_x"]):Def P w K mg base 1 "_law_way" ["_law_ups","_law_x"] (cv K (dz bI)):=
 cQ F sc__law_way (fun f cdv A outer s H E hr=>(ao (jN (iE (ae ad (aq (pv 1)) ai)) sc__law_way.nd rfl (by first|exact Or.inl rfl|exact Or.inr rfl))
  (ao (CF (ka PassesOwn.never (zJ (tx (bQ (mD hr.units) (aS (aq (pv 0)) (aS (aq (pv 2)) (AD aj) (fun _ _=>rfl)) (fun _ _=>rfl)) (aS (aq (pv 2)) (AD aj) (fun _ _=>rfl)) (aI _)) (nO (bQ CA (dh fY d5 (aP cH rfl T.n_len gb (DA.t (ae ad (aq (pv 2)) ai)) (he:=ad _ _))) (dh fY d5 (aP cH rfl T.n_len gb (DA.t (ae ad (aq (pv 0)) ai)) (he:=ad _ _))) (aI _))))) (aE (qh (gS (p8 PySem.F.plainAttrs_list PySem.F.slot_list_append PySem.F.type_list_append ic (pv 2) (DA.f (ae ap (aS (aq (pv 0)) (aS (aq (pv 2)) (AD aj) (fun _ _=>rfl)) (fun _ _=>rfl)) ai))))))))
  (aE (rH (pv 2))))))
end
end K17
end
section
namespace K17
open PySem L2 Fo Pu Dp
open O17 (Txt top Tabs)
section
variable {P:Program}{w:World}{K:PySem.W.Frag}{mg:Str->Option Value}{base:Heap}
theorem uc (T:Txt mg)(F:FunD K mg "is_whole" gt ["thing"]):Def P w K mg base 1 "is_whole" ["thing"] (cv K (dz cn)):=
 cQ F sA (fun f cdv A outer s H E hr=>(aE (bo (ua (dh lQ ma (aP ez rfl T.n_isinstance cO (DA.t (ae ad (aq (pv 0)) (ae ad (yr (oM (p:=.ty "int") (nX T.n_int qQ))) ai))) (he:=ad _ _))) (qj (Ka (dh lQ ma (aP ez rfl T.n_isinstance cO (DA.t (ae ad (aq (pv 0)) (ae ad (yr (oM (p:=.ty "bool") (nX T.n_bool Bv))) ai))) (he:=ad _ _)))))))))
theorem pJ (T:Txt mg)(F:FunD K mg "check_many" eH ["many"])(d_is_many:Def P w K mg base 2 "is_many" ["thing"] (cv K (dz eI))):Def P w K mg base 3 "check_many" ["many"] (cv K (dz du)):=
 cQ F pK (fun f cdv A outer s H E hr=>(aE (fM (jY (jq (az d_is_many hr (ae ad (aq (pv 0)) ai) (he:=ad _ _)))) (aE qa) cx)))
theorem jI (T:Txt mg)(TK:Kon w K mg)(F:FunD K mg "is_way_of_joining" bD ["thing"]):Def P w K mg base 1 "is_way_of_joining" ["thing"] (cv K (dz aY)):=
 cQ F jH (fun f cdv A outer s H E hr=>(aE (bo (ua (dh lQ ma (aP ez rfl T.n_isinstance cO (DA.t (ae ad (aq (pv 0)) (ae ad (yr (oM (p:=.ty "str") (nX T.n_str vH))) ai))) (he:=ad _ _))) (qj (i9 (Lw hr.units) (aq (pv 0)) (J7 TK.k_JOINS) (by with_unfolding_all rfl)))))))
theorem r0 (T:Txt mg)(F:FunD K mg "find_done" fF ["store","x"])(d_find_in:Def P w K mg base 3 "find_in" ["ups","short","x"] (cv K (dz fw)))(d_copied:Def P w K mg base 1 "copied" ["numbers"] (cv K (dz de))):Def P w K mg base 4 "find_done" ["store","x"] (cv K (dz bp)):=
 cQ F sc_find_done (fun f cdv A outer s H E hr=>(ao (i7 (hZ (aR ax (aR ax (aR ax (aR ax hX))))) (cA (DE.ee (aq (pv 0))) (dv (K:=K) (n:=4) rfl rfl (av (am (i:=2) sc_find_done.nd rfl (by first|exact Or.inl rfl|exact Or.inr rfl)) (av (am (i:=3) sc_find_done.nd rfl (by first|exact Or.inl rfl|exact Or.inr rfl)) (av (am (i:=4) sc_find_done.nd rfl (by first|exact Or.inl rfl|exact Or.inr rfl)) (av (am (i:=5) sc_find_done.nd rfl (by first|exact Or.inl rfl|exact Or.inr rfl)) cb)))))))
  (ao (i7 (hZ (aR ax (aR ax (aR ax hX)))) (cA (DE.ee (az d_find_in hr (ae ad (aq (pv 4)) (ae ad (aq (pv 3)) (ae ad (aq (pv 1)) ai))) (he:=ad _ _))) (dv (K:=K) (n:=3) rfl rfl (av (am (i:=6) sc_find_done.nd rfl (by first|exact Or.inl rfl|exact Or.inr rfl)) (av (am (i:=7) sc_find_done.nd rfl (by first|exact Or.inl rfl|exact Or.inr rfl)) (av (am (i:=8) sc_find_done.nd rfl (by first|exact Or.inl rfl|exact Or.inr rfl)) cb))))))
  (aE (bo (eW (ae gU (eW (ae ad (aq (pv 2)) (ae ad (aq (pv 3)) (ae ad (aq (pv 7)) (ae aO (az d_copied hr (ae ad (aq (pv 5)) ai) (he:=ad _ _)) ai))))) (ae ad (aq (pv 6)) (ae ad (aq (pv 8)) ai)))))))))
theorem Ds (T:Txt mg)(F:FunD K mg "done" mh ["store","deed"])(d_deed_done:Def P w K mg base 6 "deed_done" ["store","deed"] (cv K (dz bS)))(d_is_deed:Def P w K mg base 3 "is_deed" ["many","thing"] (cv K (dz bZ))):Def P w K mg base 7 "done" ["store","deed"] (cv K (dz gF)):=
 cQ F B0 (fun f cdv A outer s H E hr=>(ao (fM (jY (jq (az d_is_deed hr (ae aO (dh fY d5 (aP cH rfl T.n_len gb (DA.t (ae ap (aS (aq (pv 0)) aj (fun _ _=>rfl)) ai)) (he:=ap _ _))) (ae ad (aq (pv 1)) ai)) (he:=aO _ _)))) (aE qa) cx)
  (aE (bo (az d_deed_done hr (ae ad (aq (pv 0)) (ae ad (aq (pv 1)) ai)) (he:=ad _ _))))))
theorem GX (T:Txt mg)(F:FunD K mg "run" qe ["store","row"]){a_is_deed:Addr}(m_is_deed:mg "is_deed" = some (.ref a_is_deed))(d_check_row_OF_is_deed:Def P w K mg base 4 "check_row" ["many","row","is_right"] (cv K (dz (dr [(a_is_deed,bZ)]))))(d_copied:Def P w K mg base 1 "copied" ["numbers"] (cv K (dz de)))(d_deed_done:Def P w K mg base 6 "deed_done" ["store","deed"] (cv K (dz bS))):Def P w K mg base 7 "run" ["store","row"] (cv K (dz (kG a_is_deed))):=
 cQ F sc_run (fun f cdv A outer s H E hr=>(ao (qY (gS (DE.ee (az d_check_row_OF_is_deed hr (ae aO (dh fY d5 (aP cH rfl T.n_len gb (DA.t (ae ap (aS (aq (pv 0)) aj (fun _ _=>rfl)) ai)) (he:=ap _ _))) (ae ad (aq (pv 1)) (ae ad (Ls m_is_deed) ai))) (he:=aO _ _)))))
  (ao (i7 (hZ (aR ax (aR ax (aR ax (aR ax hX))))) (cA (DE.ee (aq (pv 0))) (dv (K:=K) (n:=4) rfl rfl (av (am (i:=2) sc_run.nd rfl (by first|exact Or.inl rfl|exact Or.inr rfl)) (av (am (i:=3) sc_run.nd rfl (by first|exact Or.inl rfl|exact Or.inr rfl)) (av (am (i:=4) sc_run.nd rfl (by first|exact Or.inl rfl|exact Or.inr rfl)) (av (am (i:=5) sc_run.nd rfl (by first|exact Or.inl rfl|exact Or.inr rfl)) cb)))))))
  (ao (cy (aN (i:=6) sc_run.nd rfl (by first|exact Or.inl rfl|exact Or.inr rfl) (DE.ee (eW (ae ad (aq (pv 2)) (ae ad (aq (pv 3)) (ae aO (az d_copied hr (ae ad (aq (pv 4)) ai) (he:=ad _ _)) (ae aO (az d_copied hr (ae ad (aq (pv 5)) ai) (he:=ad _ _)) ai))))))))
  (ao (jN (iE ai) sc_run.nd rfl (by first|exact Or.inl rfl|exact Or.inr rfl))
  (ao (jN (iE ai) sc_run.nd rfl (by first|exact Or.inl rfl|exact Or.inr rfl))
  (ao (kI ax (iP PassesOwn.never rfl (iZ (aq (pv 1))) (am (i:=9) sc_run.nd rfl (by first|exact Or.inl rfl|exact Or.inr rfl)) (ao (i7 (hZ (aR ax (aR ax (aR ax hX)))) (cA (DE.ee (az d_deed_done hr (ae ad (aq (pv 6)) (ae ad (aq (pv 9)) ai)) (he:=ad _ _))) (dv (K:=K) (n:=3) rfl rfl (av (am (i:=6) sc_run.nd rfl (by first|exact Or.inl rfl|exact Or.inr rfl)) (av (am (i:=10) sc_run.nd rfl (by first|exact Or.inl rfl|exact Or.inr rfl)) (av (am (i:=11) sc_run.nd rfl (by first|exact Or.inl rfl|exact Or.inr rfl)) cb))))))
  (ao (qh (gS (p8 PySem.F.plainAttrs_list PySem.F.slot_list_append PySem.F.type_list_append ic (pv 7) (DA.f (ae ad (aq (pv 10)) ai)))))
  (aE (qh (gS (p8 PySem.F.plainAttrs_list PySem.F.slot_list_append PySem.F.type_list_append ic (pv 8) (DA.f (ae ad (aq (pv 11)) ai))))))))))
  (aE (Ez 8 (Ez 7 (bo (eW (ae ad (aq (pv 6)) (ae ad (aq (pv 7)) (ae ad (aq (pv 8)) ai)))))))))))))))
end
end K17
end
section
namespace K17
open PySem L2 Fo Pu Dp
open O17 (Txt top Tabs)
section
variable {P:Program}{w:World}{K:PySem.W.Frag}{mg:Str->Option Value}{base:Heap}
theorem zK (T:Txt mg){f:Addr}{cdv:Value}{A:Around}{outer:List Env}{s:Shared}{H:Hp}{vs:List V}{Q:VK}{E:XK}(hr:Room 8 (A.deeper (PyProof.Rows.envOfC "law" (af lr) s.heap.objs.size f cdv)))(h:p5 K vs H Q E){a_is_deed:Addr}(d__law_numbers:Def P w K mg base 1 "_law_numbers" ["_law_cell_here","_law_many_here"] (cv K (dz aD)))(d__law_many:Def P w K mg base 1 "_law_many" ["_law_x"] (cv K (dz dm)))(d__law_deeds:Def P w K mg base 3 "_law_deeds" ["_law_script","_law_at","_law_many_here","_law_most"] (cv K (dz ca)))(d__law_cell:Def P w K mg base 1 "_law_cell" ["_law_script","_law_k"] (cv K (dz aV)))(d_new_store:Def P w K mg base 4 "new_store" ["many","join","short"] (cv K (dz bU)))(d_done:Def P w K mg base 7 "done" ["store","deed"] (cv K (dz gF)))(d__law_renamed_right:Def P w K mg base 8 "_law_renamed_right" ["_law_many_here","_law_join","_law_short","_law_row","_law_xs"] (cv K (dz (bq a_is_deed))))(d__law_again_right:Def P w K mg base 8 "_law_again_right" ["_law_store","_law_x"] (cv K (dz bK)))(d__law_beside_right:Def P w K mg base 2 "_law_beside_right" ["_law_deep","_law_other","_law_told","_law_more"] (cv K (dz bA))) :
  ∃t,PSs (lV uQ P w K mg base ["_law_script","_law_words","_law_at","_law_head","_law_many_here","_law_join","_law_row","_law_stores","_law_deed","_law_told","_law_short"] "law" (af lr) f cdv A outer s H E).nox (aA lr) t/\t { nx:=fun _ H'=>Q .non H',rt:=Q } (L2.be ["_law_script","_law_words","_law_at","_law_head","_law_many_here","_law_join","_law_row","_law_stores","_law_deed","_law_told","_law_short"] vs) H:=
 Hd (N:=["_law_script","_law_words","_law_at","_law_head","_law_many_here","_law_join","_law_row","_law_stores","_law_deed","_law_told","_law_short"]) (X:=(lV uQ P w K mg base ["_law_script","_law_words","_law_at","_law_head","_law_many_here","_law_join","_law_row","_law_stores","_law_deed","_law_told","_law_short"] "law" (af lr) f cdv A outer s H E).nox) (ao (cy (aN (i:=1) sc_law.nd rfl (by first|exact Or.inl rfl|exact Or.inr rfl) (DE.ee (iE (ae aB d6 (ae aB d6 (ae aB d6 (ae aB d6 (ae aB d6 ai)))))))))
  (ao (kI ax (iP PassesOwn.never rfl (jZ (fJ rfl T.n_range (DA.t (ae aO (dh D4 zc (aP (x6 rfl) rfl T.n_max Gi (DA.t (ae aB aj (ae aO (dh qS nM (aP (mB rfl) rfl T.n_min uF (DA.t (ae aO (dh fY d5 (aP cH rfl T.n_len gb (DA.t (ae ad (aq (pv 0)) ai)) (he:=ad _ _))) (ae aB aj ai))) (he:=aO _ _))) ai))) (he:=aB _ _))) ai)))) (am (i:=2) sc_law.nd rfl (by first|exact Or.inl rfl|exact Or.inr rfl)) (ao (cy (aN (i:=3) sc_law.nd rfl (by first|exact Or.inl rfl|exact Or.inr rfl) (DE.ee (az d__law_numbers hr (ae aO (az d__law_cell hr (ae ad (aq (pv 0)) (ae bT (eX aj (aq (pv 2))) ai)) (he:=ad _ _)) (ae aB aj ai)) (he:=aO _ _)))))
  (ao (cy (aN (i:=4) sc_law.nd rfl (by first|exact Or.inl rfl|exact Or.inr rfl) (DE.ee (az d__law_many hr (ae ap (aS (aq (pv 3)) aj (fun _ _=>rfl)) ai) (he:=ap _ _)))))
  (ao (cy (aN (i:=5) sc_law.nd rfl (by first|exact Or.inl rfl|exact Or.inr rfl) (DE.ee (aS (iE (ae aB d6 (ae aB d6 (ae aB d6 (ae aB d6 ai))))) (cL (aS (aq (pv 3)) aj (fun _ _=>rfl)) aj) (fun _ _=>rfl)))))
  (ao (cy (aN (i:=6) sc_law.nd rfl (by first|exact Or.inl rfl|exact Or.inr rfl) (DE.ee (az d__law_deeds hr (ae ad (aq (pv 0)) (ae ad (aq (pv 2)) (ae ad (aq (pv 4)) (ae aB aj ai)))) (he:=ad _ _)))))
  (ao (cy (aN (i:=7) sc_law.nd rfl (by first|exact Or.inl rfl|exact Or.inr rfl) (DE.ee (gq ax (eN ["_law_short","_law_many_here","_law_join"] [none,some 4,some 5] (iZ (aq (pv 1))) (fun bC bs bH bx=>(am (i:=0) (show List.Nodup (["_law_short","_law_many_here","_law_join"]:List Str) by decide +kernel) rfl (by first|exact Or.inl rfl|exact Or.inr rfl))) (fun bC bs bH bx=>gG) (fun bC bs bH bx=>DE.ee (az d_new_store hr (ae ad (aq (pv 1)) (ae ad (aq (pv 2)) (ae ad (aq (pv 0)) ai))) (he:=ad _ _))) (bJ rfl))))))
  (ao (kI ax (iP PassesOwn.never rfl (iZ (aq (pv 6))) (am (i:=8) sc_law.nd rfl (by first|exact Or.inl rfl|exact Or.inr rfl)) (ao (cy (aN (i:=9) sc_law.nd rfl (by first|exact Or.inl rfl|exact Or.inr rfl) (DE.ee (gq ax (eN ["_law_store","_law_deed"] [none,some 8] (iZ (aq (pv 7))) (fun bC bs bH bx=>(am (i:=0) (show List.Nodup (["_law_store","_law_deed"]:List Str) by decide +kernel) rfl (by first|exact Or.inl rfl|exact Or.inr rfl))) (fun bC bs bH bx=>gG) (fun bC bs bH bx=>DE.ee (az d_done hr (ae ad (aq (pv 0)) (ae ad (aq (pv 1)) ai)) (he:=ad _ _))) (bJ rfl))))))
  (ao (cy (aN (i:=7) sc_law.nd rfl (by first|exact Or.inl rfl|exact Or.inr rfl) (DE.ee (gq ax (eN ["_law_one"] [none] (iZ (aq (pv 9))) (fun bC bs bH bx=>(am (i:=0) (show List.Nodup (["_law_one"]:List Str) by decide +kernel) rfl (by first|exact Or.inl rfl|exact Or.inr rfl))) (fun bC bs bH bx=>gG) (fun bC bs bH bx=>DE.ee (aS (aq (pv 0)) aj (fun _ _=>rfl))) (bJ rfl))))))
  (aE (fM (jY (jq (dh vi qB (aP (oG rfl) rfl T.n_all vO (DA.t (ae bE (gq ax (eN ["_law_one","_law_stores","_law_told"] [none,some 7,some 9] (iZ (aq (pv 9))) (fun bC bs bH bx=>(am (i:=0) (show List.Nodup (["_law_one","_law_stores","_law_told"]:List Str) by decide +kernel) rfl (by first|exact Or.inl rfl|exact Or.inr rfl))) (fun bC bs bH bx=>gG) (fun bC bs bH bx=>DE.ee (az d__law_beside_right hr (ae ap (aS (aq (pv 1)) aj (fun _ _=>rfl)) (ae ap (aS (aq (pv 0)) aj (fun _ _=>rfl)) (ae ap (sE (aS (aq (pv 2)) aj (fun _ _=>rfl)) (ud aj) sK) (ae ap (sE (aq (pv 0)) (ud aj) sK) ai)))) (he:=ap _ _))) (bJ rfl))) ai)) (he:=bE _ _))))) (aE (bo jP)) cx))))))
  (ao (fM (jY (jq (dh vi qB (aP (oG rfl) rfl T.n_all vO (DA.t (ae bE (gq ax (eN ["_law_store","_law_head","_law_many_here"] [none,some 3,some 4] (iZ (aq (pv 7))) (fun bC bs bH bx=>(am (i:=0) (show List.Nodup (["_law_store","_law_head","_law_many_here"]:List Str) by decide +kernel) rfl (by first|exact Or.inl rfl|exact Or.inr rfl))) (fun bC bs bH bx=>gG) (fun bC bs bH bx=>DE.ee (az d__law_again_right hr (ae ad (aq (pv 0)) (ae bT (cL (aS (aq (pv 1)) aj (fun _ _=>rfl)) (aq (pv 2))) ai)) (he:=ad _ _))) (bJ rfl))) ai)) (he:=bE _ _))))) (aE (bo jP)) cx)
  (ao (cy (aN (i:=10) sc_law.nd rfl (by first|exact Or.inl rfl|exact Or.inr rfl) (DE.ee (aS (aq (pv 1)) (cL (aS (aq (pv 3)) aj (fun _ _=>rfl)) aj) (fun _ _=>rfl)))))
  (aE (fM (zJ (tx (bQ (mD hr.units) (aq (pv 5)) d6 (aI _)) (nO (jY (jq (az d__law_renamed_right hr (ae ad (aq (pv 4)) (ae ad (aq (pv 5)) (ae ad (aq (pv 10)) (ae ad (aq (pv 6)) (ae ap (sE (aq (pv 3)) (ud aj) sK) ai))))) (he:=ad _ _))))))) (aE (bo jP)) cx))))))))))))
  (aE (bo jP)))) h y8
end
end K17
end
section
namespace K17
open PySem L2 Fo Pu Dp
open O17 (Txt top Tabs)
@[elab_as_elim] theorem oB {P:List Value->Prop}{us:List Value}(h:us.length=1)(k:∀a,P [a]):P us:=by
 obtain _|⟨_,us⟩:=us
 ·cases h
 obtain _|⟨_,us⟩:=us
 ·exact k _
 ·simp at h
@[elab_as_elim] theorem kQ {P:List Value->Prop}{us:List Value}(h:us.length=2)(k:∀a b,P [a,b]):P us:=by
 obtain _|⟨_,us⟩:=us
 ·cases h
 obtain _|⟨_,us⟩:=us
 ·cases h
 obtain _|⟨_,us⟩:=us
 ·exact k _ _
 ·simp at h
@[elab_as_elim] theorem xZ {P:List Value->Prop}{us:List Value}(h:us.length=3)(k:∀a b c,P [a,b,c]):P us:=by
 obtain _|⟨_,us⟩:=us
 ·cases h
 obtain _|⟨_,us⟩:=us
 ·cases h
 obtain _|⟨_,us⟩:=us
 ·cases h
 obtain _|⟨_,us⟩:=us
 ·exact k _ _ _
 ·simp at h
@[elab_as_elim] theorem A7 {P:List Value->Prop}{us:List Value}(h:us.length=4)(k:∀a b c d,P [a,b,c,d]):P us:=by
 obtain _|⟨_,us⟩:=us
 ·cases h
 obtain _|⟨_,us⟩:=us
 ·cases h
 obtain _|⟨_,us⟩:=us
 ·cases h
 obtain _|⟨_,us⟩:=us
 ·cases h
 obtain _|⟨_,us⟩:=us
 ·exact k _ _ _ _
 ·simp at h
@[elab_as_elim] theorem Lc {P:List Value->Prop}{us:List Value}(h:us.length=5)(k:∀a b c d e,P [a,b,c,d,e]):P us:=by
 obtain _|⟨_,us⟩:=us
 ·cases h
 obtain _|⟨_,us⟩:=us
 ·cases h
 obtain _|⟨_,us⟩:=us
 ·cases h
 obtain _|⟨_,us⟩:=us
 ·cases h
 obtain _|⟨_,us⟩:=us
 ·cases h
 obtain _|⟨_,us⟩:=us
 ·exact k _ _ _ _ _
 ·simp at h
theorem HH {l:PySem.W.OpenLaw}{w:World}{K:PySem.W.Frag}{h:Heap}{mg:Str->Option Value}{fa f0 f1 f2 f3 f4 f5 f6 f7 f8 f9 f10 f11 f12 f13 f14 f15 f16 f17 f18 f19 f20 f21 f22 f23 f24 f25 f26 f27 f28 f29 f30 f31 f32 f33 f34 f35:Addr}(X:K.In h)(G:h.Ns mainGlobals mg)(hfa:mg "law" = some (.ref fa))
  {od0 an0 od1 an1 od2 an2 od3 an3 od4 an4 od5 an5 od6 an6 od7 an7 od8 an8 od9 an9 od10 an10 od11 an11 od12 an12 od13 an13 od14 an14 od15 an15 od16 an16 od17 an17 od18 an18 od19 an19 od20 an20 od21 an21 od22 an22 od23 an23 od24 an24 od25 an25 od26 an26 od27 an27 od28 an28 od29 an29 od30 an30 od31 an31 od32 an32 od33 an33 od34 an34 od35 an35:Option Addr} {sl0 sl1 sl2 sl3 sl4 sl5 sl6 sl7 sl8 sl9 sl10 sl11 sl12 sl13 sl14 sl15 sl16 sl17 sl18 sl19 sl20 sl21 sl22 sl23 sl24 sl25 sl26 sl27 sl28 sl29 sl30 sl31 sl32 sl33 sl34 sl35:Array (Option Value)} {oc0 kV0 dc0 pm0 cd0 ct0 oc1 kV1 dc1 pm1 cd1 ct1 oc2 kV2 dc2 pm2 cd2 ct2 oc3 kV3 dc3 pm3 cd3 ct3 oc4 kV4 dc4 pm4 cd4 ct4 oc5 kV5 dc5 pm5 cd5 ct5 oc6 kV6 dc6 pm6 cd6 ct6 oc7 kV7 dc7 pm7 cd7 ct7 oc8 kV8 dc8 pm8 cd8 ct8 oc9 kV9 dc9 pm9 cd9 ct9 oc10 kV10 dc10 pm10 cd10 ct10 oc11 kV11 dc11 pm11 cd11 ct11 oc12 kV12 dc12 pm12 cd12 ct12 oc13 kV13 dc13 pm13 cd13 ct13 oc14 kV14 dc14 pm14 cd14 ct14 oc15 kV15 dc15 pm15 cd15 ct15 oc16 kV16 dc16 pm16 cd16 ct16 oc17 kV17 dc17 pm17 cd17 ct17 oc18 kV18 dc18 pm18 cd18 ct18 oc19 kV19 dc19 pm19 cd19 ct19 oc20 kV20 dc20 pm20 cd20 ct20 oc21 kV21 dc21 pm21 cd21 ct21 oc22 kV22 dc22 pm22 cd22 ct22 oc23 kV23 dc23 pm23 cd23 ct23 oc24 kV24 dc24 pm24 cd24 ct24 oc25 kV25 dc25 pm25 cd25 ct25 oc26 kV26 dc26 pm26 cd26 ct26 oc27 kV27 dc27 pm27 cd27 ct27 oc28 kV28 dc28 pm28 cd28 ct28 oc29 kV29 dc29 pm29 cd29 ct29 oc30 kV30 dc30 pm30 cd30 ct30 oc31 kV31 dc31 pm31 cd31 ct31 oc32 kV32 dc32 pm32 cd32 ct32 oc33 kV33 dc33 pm33 cd33 ct33 oc34 kV34 dc34 pm34 cd34 ct34 oc35 kV35 dc35 pm35 cd35 ct35:Value}
  (a0:PySem.W.nsIn K mainGlobals "find_none" = some (some (.ref f0))) (l0:K.lookup f0=some ⟨oc0,od0,.func (PySem.W.fnOf "find_none" "find_none" (aG dl) (aA dl) (af dl) .none kV0 dc0 pm0 an0 cd0 ct0),sl0⟩) (c0:PySem.W.codeIn K cd0 "find_none" = true) (k0:PySem.W.keepIn K (.ref f0)=true)
  (a1:PySem.W.nsIn K mainGlobals "find_whole" = some (some (.ref f1))) (l1:K.lookup f1=some ⟨oc1,od1,.func (PySem.W.fnOf "find_whole" "find_whole" (aG cI) (aA cI) (af cI) .none kV1 dc1 pm1 an1 cd1 ct1),sl1⟩) (c1:PySem.W.codeIn K cd1 "find_whole" = true) (k1:PySem.W.keepIn K (.ref f1)=true)
  (a2:PySem.W.nsIn K mainGlobals "find_halves" = some (some (.ref f2))) (l2:K.lookup f2=some ⟨oc2,od2,.func (PySem.W.fnOf "find_halves" "find_halves" (aG cj) (aA cj) (af cj) .none kV2 dc2 pm2 an2 cd2 ct2),sl2⟩) (c2:PySem.W.codeIn K cd2 "find_halves" = true) (k2:PySem.W.keepIn K (.ref f2)=true)
  (a3:PySem.W.nsIn K mainGlobals "find_splits" = some (some (.ref f3))) (l3:K.lookup f3=some ⟨oc3,od3,.func (PySem.W.fnOf "find_splits" "find_splits" (aG cc) (aA cc) (af cc) .none kV3 dc3 pm3 an3 cd3 ct3),sl3⟩) (c3:PySem.W.codeIn K cd3 "find_splits" = true) (k3:PySem.W.keepIn K (.ref f3)=true)
  (a4:PySem.W.nsIn K mainGlobals "find_one" = some (some (.ref f4))) (l4:K.lookup f4=some ⟨oc4,od4,.func (PySem.W.fnOf "find_one" "find_one" (aG eg) (aA eg) (af eg) .none kV4 dc4 pm4 an4 cd4 ct4),sl4⟩) (c4:PySem.W.codeIn K cd4 "find_one" = true) (k4:PySem.W.keepIn K (.ref f4)=true)
  (a5:PySem.W.nsIn K mainGlobals "_law_numbers" = some (some (.ref f5))) (l5:K.lookup f5=some ⟨oc5,od5,.func (PySem.W.fnOf "_law_numbers" "_law_numbers" (aG cY) (aA cY) (af cY) .none kV5 dc5 pm5 an5 cd5 ct5),sl5⟩) (c5:PySem.W.codeIn K cd5 "_law_numbers" = true) (k5:PySem.W.keepIn K (.ref f5)=true)
  (a6:PySem.W.nsIn K mainGlobals "_law_many" = some (some (.ref f6))) (l6:K.lookup f6=some ⟨oc6,od6,.func (PySem.W.fnOf "_law_many" "_law_many" (aG fv) (aA fv) (af fv) .none kV6 dc6 pm6 an6 cd6 ct6),sl6⟩) (c6:PySem.W.codeIn K cd6 "_law_many" = true) (k6:PySem.W.keepIn K (.ref f6)=true)
  (a7:PySem.W.nsIn K mainGlobals "_law_cell" = some (some (.ref f7))) (l7:K.lookup f7=some ⟨oc7,od7,.func (PySem.W.fnOf "_law_cell" "_law_cell" (aG fE) (aA fE) (af fE) .none kV7 dc7 pm7 an7 cd7 ct7),sl7⟩) (c7:PySem.W.codeIn K cd7 "_law_cell" = true) (k7:PySem.W.keepIn K (.ref f7)=true)
  (a8:PySem.W.nsIn K mainGlobals "_law_joins" = some (some (.ref f8))) (l8:K.lookup f8=some ⟨oc8,od8,.func (PySem.W.fnOf "_law_joins" "_law_joins" (aG eJ) (aA eJ) (af eJ) .none kV8 dc8 pm8 an8 cd8 ct8),sl8⟩) (c8:PySem.W.codeIn K cd8 "_law_joins" = true) (k8:PySem.W.keepIn K (.ref f8)=true)
  (a9:PySem.W.nsIn K mainGlobals "_law_deeds" = some (some (.ref f9))) (l9:K.lookup f9=some ⟨oc9,od9,.func (PySem.W.fnOf "_law_deeds" "_law_deeds" (aG eO) (aA eO) (af eO) .none kV9 dc9 pm9 an9 cd9 ct9),sl9⟩) (c9:PySem.W.codeIn K cd9 "_law_deeds" = true) (k9:PySem.W.keepIn K (.ref f9)=true)
  (a10:PySem.W.nsIn K mainGlobals "is_whole" = some (some (.ref f10))) (l10:K.lookup f10=some ⟨oc10,od10,.func (PySem.W.fnOf "is_whole" "is_whole" (aG gt) (aA gt) (af gt) .none kV10 dc10 pm10 an10 cd10 ct10),sl10⟩) (c10:PySem.W.codeIn K cd10 "is_whole" = true) (k10:PySem.W.keepIn K (.ref f10)=true)
  (a11:PySem.W.nsIn K mainGlobals "is_many" = some (some (.ref f11))) (l11:K.lookup f11=some ⟨oc11,od11,.func (PySem.W.fnOf "is_many" "is_many" (aG ig) (aA ig) (af ig) .none kV11 dc11 pm11 an11 cd11 ct11),sl11⟩) (c11:PySem.W.codeIn K cd11 "is_many" = true) (k11:PySem.W.keepIn K (.ref f11)=true)
  (a12:PySem.W.nsIn K mainGlobals "check_many" = some (some (.ref f12))) (l12:K.lookup f12=some ⟨oc12,od12,.func (PySem.W.fnOf "check_many" "check_many" (aG eH) (aA eH) (af eH) .none kV12 dc12 pm12 an12 cd12 ct12),sl12⟩) (c12:PySem.W.codeIn K cd12 "check_many" = true) (k12:PySem.W.keepIn K (.ref f12)=true)
  (a13:PySem.W.nsIn K mainGlobals "is_way_of_joining" = some (some (.ref f13))) (l13:K.lookup f13=some ⟨oc13,od13,.func (PySem.W.fnOf "is_way_of_joining" "is_way_of_joining" (aG bD) (aA bD) (af bD) .none kV13 dc13 pm13 an13 cd13 ct13),sl13⟩) (c13:PySem.W.codeIn K cd13 "is_way_of_joining" = true) (k13:PySem.W.keepIn K (.ref f13)=true)
  (a14:PySem.W.nsIn K mainGlobals "check_join" = some (some (.ref f14))) (l14:K.lookup f14=some ⟨oc14,od14,.func (PySem.W.fnOf "check_join" "check_join" (aG eM) (aA eM) (af eM) .none kV14 dc14 pm14 an14 cd14 ct14),sl14⟩) (c14:PySem.W.codeIn K cd14 "check_join" = true) (k14:PySem.W.keepIn K (.ref f14)=true)
  (a15:PySem.W.nsIn K mainGlobals "is_short" = some (some (.ref f15))) (l15:K.lookup f15=some ⟨oc15,od15,.func (PySem.W.fnOf "is_short" "is_short" (aG eA) (aA eA) (af eA) .none kV15 dc15 pm15 an15 cd15 ct15),sl15⟩) (c15:PySem.W.codeIn K cd15 "is_short" = true) (k15:PySem.W.keepIn K (.ref f15)=true)
  (a16:PySem.W.nsIn K mainGlobals "check_short" = some (some (.ref f16))) (l16:K.lookup f16=some ⟨oc16,od16,.func (PySem.W.fnOf "check_short" "check_short" (aG dE) (aA dE) (af dE) .none kV16 dc16 pm16 an16 cd16 ct16),sl16⟩) (c16:PySem.W.codeIn K cd16 "check_short" = true) (k16:PySem.W.keepIn K (.ref f16)=true)
  (a17:PySem.W.nsIn K mainGlobals "new_store" = some (some (.ref f17))) (l17:K.lookup f17=some ⟨oc17,od17,.func (PySem.W.fnOf "new_store" "new_store" (aG fD) (aA fD) (af fD) .none kV17 dc17 pm17 an17 cd17 ct17),sl17⟩) (c17:PySem.W.codeIn K cd17 "new_store" = true) (k17:PySem.W.keepIn K (.ref f17)=true)
  (a18:PySem.W.nsIn K mainGlobals "find_in" = some (some (.ref f18))) (l18:K.lookup f18=some ⟨oc18,od18,.func (PySem.W.fnOf "find_in" "find_in" (aG fL) (aA fL) (af fL) .none kV18 dc18 pm18 an18 cd18 ct18),sl18⟩) (c18:PySem.W.codeIn K cd18 "find_in" = true) (k18:PySem.W.keepIn K (.ref f18)=true)
  (a19:PySem.W.nsIn K mainGlobals "copied" = some (some (.ref f19))) (l19:K.lookup f19=some ⟨oc19,od19,.func (PySem.W.fnOf "copied" "copied" (aG i4) (aA i4) (af i4) .none kV19 dc19 pm19 an19 cd19 ct19),sl19⟩) (c19:PySem.W.codeIn K cd19 "copied" = true) (k19:PySem.W.keepIn K (.ref f19)=true)
  (a20:PySem.W.nsIn K mainGlobals "find_done" = some (some (.ref f20))) (l20:K.lookup f20=some ⟨oc20,od20,.func (PySem.W.fnOf "find_done" "find_done" (aG fF) (aA fF) (af fF) .none kV20 dc20 pm20 an20 cd20 ct20),sl20⟩) (c20:PySem.W.codeIn K cd20 "find_done" = true) (k20:PySem.W.keepIn K (.ref f20)=true)
  (a21:PySem.W.nsIn K mainGlobals "first_stays" = some (some (.ref f21))) (l21:K.lookup f21=some ⟨oc21,od21,.func (PySem.W.fnOf "first_stays" "first_stays" (aG dI) (aA dI) (af dI) .none kV21 dc21 pm21 an21 cd21 ct21),sl21⟩) (c21:PySem.W.codeIn K cd21 "first_stays" = true) (k21:PySem.W.keepIn K (.ref f21)=true)
  (a22:PySem.W.nsIn K mainGlobals "mark_behind" = some (some (.ref f22))) (l22:K.lookup f22=some ⟨oc22,od22,.func (PySem.W.fnOf "mark_behind" "mark_behind" (aG dJ) (aA dJ) (af dJ) .none kV22 dc22 pm22 an22 cd22 ct22),sl22⟩) (c22:PySem.W.codeIn K cd22 "mark_behind" = true) (k22:PySem.W.keepIn K (.ref f22)=true)
  (a23:PySem.W.nsIn K mainGlobals "with_heads_joined" = some (some (.ref f23))) (l23:K.lookup f23=some ⟨oc23,od23,.func (PySem.W.fnOf "with_heads_joined" "with_heads_joined" (aG bw) (aA bw) (af bw) .none kV23 dc23 pm23 an23 cd23 ct23),sl23⟩) (c23:PySem.W.codeIn K cd23 "with_heads_joined" = true) (k23:PySem.W.keepIn K (.ref f23)=true)
  (a24:PySem.W.nsIn K mainGlobals "join_done" = some (some (.ref f24))) (l24:K.lookup f24=some ⟨oc24,od24,.func (PySem.W.fnOf "join_done" "join_done" (aG fK) (aA fK) (af fK) .none kV24 dc24 pm24 an24 cd24 ct24),sl24⟩) (c24:PySem.W.codeIn K cd24 "join_done" = true) (k24:PySem.W.keepIn K (.ref f24)=true)
  (a25:PySem.W.nsIn K mainGlobals "deed_done" = some (some (.ref f25))) (l25:K.lookup f25=some ⟨oc25,od25,.func (PySem.W.fnOf "deed_done" "deed_done" (aG fA) (aA fA) (af fA) .none kV25 dc25 pm25 an25 cd25 ct25),sl25⟩) (c25:PySem.W.codeIn K cd25 "deed_done" = true) (k25:PySem.W.keepIn K (.ref f25)=true)
  (a26:PySem.W.nsIn K mainGlobals "is_thing" = some (some (.ref f26))) (l26:K.lookup f26=some ⟨oc26,od26,.func (PySem.W.fnOf "is_thing" "is_thing" (aG gO) (aA gO) (af gO) .none kV26 dc26 pm26 an26 cd26 ct26),sl26⟩) (c26:PySem.W.codeIn K cd26 "is_thing" = true) (k26:PySem.W.keepIn K (.ref f26)=true)
  (a27:PySem.W.nsIn K mainGlobals "is_deed" = some (some (.ref f27))) (l27:K.lookup f27=some ⟨oc27,od27,.func (PySem.W.fnOf "is_deed" "is_deed" (aG ib) (aA ib) (af ib) .none kV27 dc27 pm27 an27 cd27 ct27),sl27⟩) (c27:PySem.W.codeIn K cd27 "is_deed" = true) (k27:PySem.W.keepIn K (.ref f27)=true)
  (a28:PySem.W.nsIn K mainGlobals "done" = some (some (.ref f28))) (l28:K.lookup f28=some ⟨oc28,od28,.func (PySem.W.fnOf "done" "done" (aG mh) (aA mh) (af mh) .none kV28 dc28 pm28 an28 cd28 ct28),sl28⟩) (c28:PySem.W.codeIn K cd28 "done" = true) (k28:PySem.W.keepIn K (.ref f28)=true)
  (a29:PySem.W.nsIn K mainGlobals "check_row" = some (some (.ref f29))) (l29:K.lookup f29=some ⟨oc29,od29,.func (PySem.W.fnOf "check_row" "check_row" (aG fI) (aA fI) (af fI) .none kV29 dc29 pm29 an29 cd29 ct29),sl29⟩) (c29:PySem.W.codeIn K cd29 "check_row" = true) (k29:PySem.W.keepIn K (.ref f29)=true)
  (a30:PySem.W.nsIn K mainGlobals "run" = some (some (.ref f30))) (l30:K.lookup f30=some ⟨oc30,od30,.func (PySem.W.fnOf "run" "run" (aG qe) (aA qe) (af qe) .none kV30 dc30 pm30 an30 cd30 ct30),sl30⟩) (c30:PySem.W.codeIn K cd30 "run" = true) (k30:PySem.W.keepIn K (.ref f30)=true)
  (a31:PySem.W.nsIn K mainGlobals "_law_renamed_right" = some (some (.ref f31))) (l31:K.lookup f31=some ⟨oc31,od31,.func (PySem.W.fnOf "_law_renamed_right" "_law_renamed_right" (aG bm) (aA bm) (af bm) .none kV31 dc31 pm31 an31 cd31 ct31),sl31⟩) (c31:PySem.W.codeIn K cd31 "_law_renamed_right" = true) (k31:PySem.W.keepIn K (.ref f31)=true)
  (a32:PySem.W.nsIn K mainGlobals "_law_way" = some (some (.ref f32))) (l32:K.lookup f32=some ⟨oc32,od32,.func (PySem.W.fnOf "_law_way" "_law_way" (aG gH) (aA gH) (af gH) .none kV32 dc32 pm32 an32 cd32 ct32),sl32⟩) (c32:PySem.W.codeIn K cd32 "_law_way" = true) (k32:PySem.W.keepIn K (.ref f32)=true)
  (a33:PySem.W.nsIn K mainGlobals "_law_again_right" = some (some (.ref f33))) (l33:K.lookup f33=some ⟨oc33,od33,.func (PySem.W.fnOf "_law_again_right" "_law_again_right" (aG bG) (aA bG) (af bG) .none kV33 dc33 pm33 an33 cd33 ct33),sl33⟩) (c33:PySem.W.codeIn K cd33 "_law_again_right" = true) (k33:PySem.W.keepIn K (.ref f33)=true)
  (a34:PySem.W.nsIn K mainGlobals "_law_beside_right" = some (some (.ref f34))) (l34:K.lookup f34=some ⟨oc34,od34,.func (PySem.W.fnOf "_law_beside_right" "_law_beside_right" (aG bz) (aA bz) (af bz) .none kV34 dc34 pm34 an34 cd34 ct34),sl34⟩) (c34:PySem.W.codeIn K cd34 "_law_beside_right" = true) (k34:PySem.W.keepIn K (.ref f34)=true)
  (a35:PySem.W.nsIn K mainGlobals "law" = some (some (.ref f35))) (l35:K.lookup f35=some ⟨oc35,od35,.func (PySem.W.fnOf "law" "law" (aG lr) (aA lr) (af lr) .none kV35 dc35 pm35 an35 cd35 ct35),sl35⟩) (c35:PySem.W.codeIn K cd35 "law" = true) (k35:PySem.W.keepIn K (.ref f35)=true)
  (z_abs:PySem.W.nsIn K mainGlobals "abs" = some none)
  (z_all:PySem.W.nsIn K mainGlobals "all" = some none)
  (z_bool:PySem.W.nsIn K mainGlobals "bool" = some none)
  (z_enumerate:PySem.W.nsIn K mainGlobals "enumerate" = some none)
  (z_int:PySem.W.nsIn K mainGlobals "int" = some none)
  (z_isinstance:PySem.W.nsIn K mainGlobals "isinstance" = some none)
  (z_len:PySem.W.nsIn K mainGlobals "len" = some none)
  (z_list:PySem.W.nsIn K mainGlobals "list" = some none)
  (z_max:PySem.W.nsIn K mainGlobals "max" = some none)
  (z_min:PySem.W.nsIn K mainGlobals "min" = some none)
  (z_range:PySem.W.nsIn K mainGlobals "range" = some none)
  (z_sorted:PySem.W.nsIn K mainGlobals "sorted" = some none)
  (z_str:PySem.W.nsIn K mainGlobals "str" = some none)
  (z_tuple:PySem.W.nsIn K mainGlobals "tuple" = some none)
  {tk_MOST_THINGS:Tok}
  (y_MOST_THINGS:PySem.W.nsIn K mainGlobals "MOST_THINGS" = some (some (.int 40 tk_MOST_THINGS)))
  {aM:Addr} {u0 u1 u2 u3 u4:Tok} (y_tab:PySem.W.nsIn K mainGlobals "MANNERS" = some (some (.ref aM)))
  (y_lay:K.lookup aM=some ⟨.type "dict",none,.dict #[⟨PyData.keyHash w.params "none",.str "none" u0,.ref f0⟩,⟨PyData.keyHash w.params "whole",.str "whole" u1,.ref f1⟩,⟨PyData.keyHash w.params "halves",.str "halves" u2,.ref f2⟩,⟨PyData.keyHash w.params "splits",.str "splits" u3,.ref f3⟩,⟨PyData.keyHash w.params "one",.str "one" u4,.ref f4⟩] 5,#[]⟩) (y_sys:(aM==sysModules)=false)
  {aK0:Addr} {oK0:Option Addr} {nK0:Nat} {sK0:Array (Option Value)} {tK0_0 tK0_1 tK0_2 tK0_3:Tok} (yk0:PySem.W.nsIn K mainGlobals "JOINS" = some (some (.ref aK0)))
  (lk0:K.lookup aK0=some ⟨.type "tuple",oK0,.seq #[.str "size" tK0_0,.str "rank" tK0_1,.str "told" tK0_2,.str "names" tK0_3] nK0,sK0⟩)
  {aK1:Addr} {tK1_0 vK1_0 tK1_1 vK1_1:Tok} (yk1:PySem.W.nsIn K mainGlobals "LENGTHS" = some (some (.ref aK1)))
  (lk1:K.lookup aK1=some ⟨.type "dict",none,.dict #[⟨PyData.keyHash w.params "find",.str "find" tK1_0,.int 2 vK1_0⟩,⟨PyData.keyHash w.params "join",.str "join" tK1_1,.int 3 vK1_1⟩] 2,#[]⟩) (sk1:(aK1==sysModules)=false)
  : ∃fd:FuncData,(∀(s:Shared) (u:Value),BindsTo s fd ⟨[u],[]⟩ [("_law_script",u)])/\∀base:Heap,K.In base/\base.Ns mainGlobals mg->FnOk l.prog w K mg base uQ 9 fa fd ["_law_script"] (p5 K):=by
 have T:Txt mg:=⟨PySem.W.mg_none_of X G z_abs,PySem.W.mg_none_of X G z_all,PySem.W.mg_none_of X G z_bool,PySem.W.mg_none_of X G z_enumerate,PySem.W.mg_none_of X G z_int,PySem.W.mg_none_of X G z_isinstance,PySem.W.mg_none_of X G z_len,PySem.W.mg_none_of X G z_list,PySem.W.mg_none_of X G z_max,PySem.W.mg_none_of X G z_min,PySem.W.mg_none_of X G z_range,PySem.W.mg_none_of X G z_sorted,PySem.W.mg_none_of X G z_str,PySem.W.mg_none_of X G z_tuple,⟨_,PySem.W.mg_of X G y_MOST_THINGS⟩⟩
 have TM:Tabs w K mg aM [("none",f0),("whole",f1),("halves",f2),("splits",f3),("one",f4)]:=⟨PySem.W.mg_of X G y_tab,⟨y_sys,(show List.Nodup (["none","whole","halves","splits","one"]:List Str) by decide +kernel),_,_,y_lay,.cons (.cons (.cons (.cons (.cons (.nil)))))⟩⟩
 have TK:Kon w K mg:=⟨⟨aK0,PySem.W.mg_of X G yk0,Dg lk0 (.str (.str (.str (.str .nil)))) (show 4≤sizeLine by decide)⟩,⟨aK1,PySem.W.mg_of X G yk1,⟨sk1,(show List.Nodup (["find","join"]:List Str) by decide +kernel),_,_,_,lk1,.cons (.cons (.nil))⟩⟩⟩
 have F_find_none:FunD K mg "find_none" dl ["ups","x"]:=aQ l0 c0 k0 (PySem.W.mg_of X G a0) fun _ _ _ _ _ _ us hl=>kQ hl fun _ _=>rfl
 have F_find_whole:FunD K mg "find_whole" cI ["ups","x"]:=aQ l1 c1 k1 (PySem.W.mg_of X G a1) fun _ _ _ _ _ _ us hl=>kQ hl fun _ _=>rfl
 have F_find_halves:FunD K mg "find_halves" cj ["ups","x"]:=aQ l2 c2 k2 (PySem.W.mg_of X G a2) fun _ _ _ _ _ _ us hl=>kQ hl fun _ _=>rfl
 have F_find_splits:FunD K mg "find_splits" cc ["ups","x"]:=aQ l3 c3 k3 (PySem.W.mg_of X G a3) fun _ _ _ _ _ _ us hl=>kQ hl fun _ _=>rfl
 have F_find_one:FunD K mg "find_one" eg ["ups","x"]:=aQ l4 c4 k4 (PySem.W.mg_of X G a4) fun _ _ _ _ _ _ us hl=>kQ hl fun _ _=>rfl
 have aD:FunD K mg "_law_numbers" cY ["_law_cell_here","_law_many_here"]:=aQ l5 c5 k5 (PySem.W.mg_of X G a5) fun _ _ _ _ _ _ us hl=>kQ hl fun _ _=>rfl
 have dm:FunD K mg "_law_many" fv ["_law_x"]:=aQ l6 c6 k6 (PySem.W.mg_of X G a6) fun _ _ _ _ _ _ us hl=>oB hl fun _=>rfl
 have aV:FunD K mg "_law_cell" fE ["_law_script","_law_k"]:=aQ l7 c7 k7 (PySem.W.mg_of X G a7) fun _ _ _ _ _ _ us hl=>kQ hl fun _ _=>rfl
 have cF:FunD K mg "_law_joins" eJ ["_law_script","_law_at","_law_many_here","_law_most"]:=aQ l8 c8 k8 (PySem.W.mg_of X G a8) fun _ _ _ _ _ _ us hl=>A7 hl fun _ _ _ _=>rfl
 have ca:FunD K mg "_law_deeds" eO ["_law_script","_law_at","_law_many_here","_law_most"]:=aQ l9 c9 k9 (PySem.W.mg_of X G a9) fun _ _ _ _ _ _ us hl=>A7 hl fun _ _ _ _=>rfl
 have cn:FunD K mg "is_whole" gt ["thing"]:=aQ l10 c10 k10 (PySem.W.mg_of X G a10) fun _ _ _ _ _ _ us hl=>oB hl fun _=>rfl
 have eI:FunD K mg "is_many" ig ["thing"]:=aQ l11 c11 k11 (PySem.W.mg_of X G a11) fun _ _ _ _ _ _ us hl=>oB hl fun _=>rfl
 have du:FunD K mg "check_many" eH ["many"]:=aQ l12 c12 k12 (PySem.W.mg_of X G a12) fun _ _ _ _ _ _ us hl=>oB hl fun _=>rfl
 have aY:FunD K mg "is_way_of_joining" bD ["thing"]:=aQ l13 c13 k13 (PySem.W.mg_of X G a13) fun _ _ _ _ _ _ us hl=>oB hl fun _=>rfl
 have dy:FunD K mg "check_join" eM ["join"]:=aQ l14 c14 k14 (PySem.W.mg_of X G a14) fun _ _ _ _ _ _ us hl=>oB hl fun _=>rfl
 have eC:FunD K mg "is_short" eA ["thing"]:=aQ l15 c15 k15 (PySem.W.mg_of X G a15) fun _ _ _ _ _ _ us hl=>oB hl fun _=>rfl
 have ck:FunD K mg "check_short" dE ["short"]:=aQ l16 c16 k16 (PySem.W.mg_of X G a16) fun _ _ _ _ _ _ us hl=>oB hl fun _=>rfl
 have bU:FunD K mg "new_store" fD ["many","join","short"]:=aQ l17 c17 k17 (PySem.W.mg_of X G a17) fun _ _ _ _ _ _ us hl=>xZ hl fun _ _ _=>rfl
 have fw:FunD K mg "find_in" fL ["ups","short","x"]:=aQ l18 c18 k18 (PySem.W.mg_of X G a18) fun _ _ _ _ _ _ us hl=>xZ hl fun _ _ _=>rfl
 have de:FunD K mg "copied" i4 ["numbers"]:=aQ l19 c19 k19 (PySem.W.mg_of X G a19) fun _ _ _ _ _ _ us hl=>oB hl fun _=>rfl
 have bp:FunD K mg "find_done" fF ["store","x"]:=aQ l20 c20 k20 (PySem.W.mg_of X G a20) fun _ _ _ _ _ _ us hl=>kQ hl fun _ _=>rfl
 have cg:FunD K mg "first_stays" dI ["join","marks","first","second"]:=aQ l21 c21 k21 (PySem.W.mg_of X G a21) fun _ _ _ _ _ _ us hl=>A7 hl fun _ _ _ _=>rfl
 have ci:FunD K mg "mark_behind" dJ ["join","top","under"]:=aQ l22 c22 k22 (PySem.W.mg_of X G a22) fun _ _ _ _ _ _ us hl=>xZ hl fun _ _ _=>rfl
 have aX:FunD K mg "with_heads_joined" bw ["store","first","second"]:=aQ l23 c23 k23 (PySem.W.mg_of X G a23) fun _ _ _ _ _ _ us hl=>xZ hl fun _ _ _=>rfl
 have dk:FunD K mg "join_done" fK ["store","x","y"]:=aQ l24 c24 k24 (PySem.W.mg_of X G a24) fun _ _ _ _ _ _ us hl=>xZ hl fun _ _ _=>rfl
 have bS:FunD K mg "deed_done" fA ["store","deed"]:=aQ l25 c25 k25 (PySem.W.mg_of X G a25) fun _ _ _ _ _ _ us hl=>kQ hl fun _ _=>rfl
 have d9:FunD K mg "is_thing" gO ["many","thing"]:=aQ l26 c26 k26 (PySem.W.mg_of X G a26) fun _ _ _ _ _ _ us hl=>kQ hl fun _ _=>rfl
 have bZ:FunD K mg "is_deed" ib ["many","thing"]:=aQ l27 c27 k27 (PySem.W.mg_of X G a27) fun _ _ _ _ _ _ us hl=>kQ hl fun _ _=>rfl
 have gF:FunD K mg "done" mh ["store","deed"]:=aQ l28 c28 k28 (PySem.W.mg_of X G a28) fun _ _ _ _ _ _ us hl=>kQ hl fun _ _=>rfl
 have dr:FunD K mg "check_row" fI ["many","row","is_right"]:=aQ l29 c29 k29 (PySem.W.mg_of X G a29) fun _ _ _ _ _ _ us hl=>xZ hl fun _ _ _=>rfl
 have kG:FunD K mg "run" qe ["store","row"]:=aQ l30 c30 k30 (PySem.W.mg_of X G a30) fun _ _ _ _ _ _ us hl=>kQ hl fun _ _=>rfl
 have F__law_renamed_right:FunD K mg "_law_renamed_right" bm ["_law_many_here","_law_join","_law_short","_law_row","_law_xs"]:=aQ l31 c31 k31 (PySem.W.mg_of X G a31) fun _ _ _ _ _ _ us hl=>Lc hl fun _ _ _ _ _=>rfl
 have bI:FunD K mg "_law_way" gH ["_law_ups","_law_x"]:=aQ l32 c32 k32 (PySem.W.mg_of X G a32) fun _ _ _ _ _ _ us hl=>kQ hl fun _ _=>rfl
 have F__law_again_right:FunD K mg "_law_again_right" bG ["_law_store","_law_x"]:=aQ l33 c33 k33 (PySem.W.mg_of X G a33) fun _ _ _ _ _ _ us hl=>kQ hl fun _ _=>rfl
 have F__law_beside_right:FunD K mg "_law_beside_right" bz ["_law_deep","_law_other","_law_told","_law_more"]:=aQ l34 c34 k34 (PySem.W.mg_of X G a34) fun _ _ _ _ _ _ us hl=>A7 hl fun _ _ _ _=>rfl
 have F_law:FunD K mg "law" lr ["_law_script"]:=aQ l35 c35 k35 (PySem.W.mg_of X G a35) fun _ _ _ _ _ _ us hl=>oB hl fun _=>rfl
 refine FunD.top (R:=fun base=>K.In base/\base.Ns mainGlobals mg) F_law hfa sc_law (fun vs H Q E h=>by obtain⟨a,ns,rfl,_⟩:=h;rfl) fun base hb f cdv A outer s H vs Q E hr h=>?_
 have D_find_none:=O17.rl (P:=l.prog) (w:=w) (base:=base) T F_find_none
 have D_find_whole:=O17.pA T F_find_whole D_find_none
 have D_find_halves:=O17.nU (P:=l.prog) (w:=w) (base:=base) T F_find_halves
 have D_find_splits:=O17.nS (P:=l.prog) (w:=w) (base:=base) T F_find_splits
 have D_find_one:=O17.tL T F_find_one D_find_none
 have D_L:=O17.sV (D_find_none.at (PySem.W.mg_of X G a0)) (D_find_whole.at (PySem.W.mg_of X G a1)) (D_find_halves.at (PySem.W.mg_of X G a2)) (D_find_splits.at (PySem.W.mg_of X G a3)) (D_find_one.at (PySem.W.mg_of X G a4))
 have D_find_in:=Dp.vT (O17.vj (O17.mO _ _ _ _ _) (O17.vS (P:=l.prog) (w:=w) (base:=base) T TM fw D_L))
 have D_is_short:=Dp.sL (O17.tj (O17.mO _ _ _ _ _) (O17.ss (P:=l.prog) (w:=w) (base:=base) T TM eC))
 have D__law_numbers:=mU (P:=l.prog) (w:=w) (base:=base) T aD
 have D__law_many:=qJ (P:=l.prog) (w:=w) (base:=base) T dm
 have D__law_cell:=rD (P:=l.prog) (w:=w) (base:=base) T aV
 have D__law_joins:=pj (P:=l.prog) (w:=w) (base:=base) T cF D__law_numbers D__law_cell
 have D__law_deeds:=pk (P:=l.prog) (w:=w) (base:=base) T ca D__law_joins D__law_numbers D__law_cell
 have D_is_whole:=uc (P:=l.prog) (w:=w) (base:=base) T cn
 have D_is_many:=ur (P:=l.prog) (w:=w) (base:=base) T eI D_is_whole
 have D_check_many:=pJ (P:=l.prog) (w:=w) (base:=base) T du D_is_many
 have D_is_way_of_joining:=jI (P:=l.prog) (w:=w) (base:=base) T TK aY
 have D_check_join:=pi (P:=l.prog) (w:=w) (base:=base) T dy D_is_way_of_joining
 have D_check_short:=oJ (P:=l.prog) (w:=w) (base:=base) T ck D_is_short
 have D_new_store:=qH (P:=l.prog) (w:=w) (base:=base) T bU D_check_many D_check_join D_check_short
 have D_copied:=xb (P:=l.prog) (w:=w) (base:=base) T de
 have D_find_done:=r0 (P:=l.prog) (w:=w) (base:=base) T bp D_find_in D_copied
 have D_first_stays:=oU (P:=l.prog) (w:=w) (base:=base) T cg
 have D_mark_behind:=ot (P:=l.prog) (w:=w) (base:=base) T ci
 have D_with_heads_joined:=jJ (P:=l.prog) (w:=w) (base:=base) T aX D_first_stays D_mark_behind
 have D_join_done:=rO (P:=l.prog) (w:=w) (base:=base) T dk D_find_done D_with_heads_joined
 have D_deed_done:=qX (P:=l.prog) (w:=w) (base:=base) T bS D_join_done D_find_done
 have D_is_thing:=sZ (P:=l.prog) (w:=w) (base:=base) T d9 D_is_whole
 have D_is_deed:=uX (P:=l.prog) (w:=w) (base:=base) T TK bZ D_is_thing
 have D_done:=Ds (P:=l.prog) (w:=w) (base:=base) T gF D_deed_done D_is_deed
 have D_check_row_OF_is_deed:=qM (P:=l.prog) (w:=w) (base:=base) T dr (t:=[(f27,Dp.bZ)]) (fun z G1 hz=>by obtain⟨hz1,hz2⟩:=Kz hz;subst hz1 hz2;exact D_is_deed.at (PySem.W.mg_of X G a27))
 have D_run:=GX (P:=l.prog) (w:=w) (base:=base) T kG (PySem.W.mg_of X G a27) D_check_row_OF_is_deed D_copied D_deed_done
 have D__law_renamed_right:=jA (P:=l.prog) (w:=w) (base:=base) T F__law_renamed_right D_new_store D_run
 have D__law_way:=sY (P:=l.prog) (w:=w) (base:=base) T bI
 have D__law_again_right:=ky (P:=l.prog) (w:=w) (base:=base) T F__law_again_right D_done D__law_way
 have D__law_beside_right:=jF (P:=l.prog) (w:=w) (base:=base) T F__law_beside_right D__law_way
 exact zK T hr h D__law_numbers D__law_many D__law_deeds D__law_cell D_new_store D_done D__law_renamed_right D__law_again_right D__law_beside_right
end K17
def PySem.W.Fast.tw10011799960616374840 : Unit := ()
def PySem.W.Fast.tw18171985828814839031 : Unit := ()
def PySem.W.Fast.tw6851011965466094015 : Unit := ()
def PySem.W.Fast.tw7836286558176286962 : Unit := ()
def PySem.W.Fast.tw9850638221733738652 : Unit := ()
def PySem.W.Fast.tw2306599567127753325 : Unit := ()
def PySem.W.Fast.tw15679198744054700108 : Unit := ()
def PySem.W.Fast.tw4028043105028076599 : Unit := ()
def PySem.W.Fast.tw16343744148974405694 : Unit := ()
def PySem.W.Fast.tw15110639229948341813 : Unit := ()
def PySem.W.Fast.tw15424637095030860319 : Unit := ()
def PySem.W.Fast.tw16193002346628196406 : Unit := ()
def PySem.W.Fast.tw10025892474353388904 : Unit := ()
def PySem.W.Fast.tw1431773867265504639 : Unit := ()
open PySem PySem.W PyProof.Rows
set_option maxRecDepth 100000 in
set_option maxHeartbeats 0 in
theorem PySem.Challenge.cw_lotheads_k17_whole_manners_beside_each_o_holds : PySem.Challenge.rw_lotheads_k17_whole_manners_beside_each_o.Holds := by
 w_on;o_law;k_head;(case hw=>w_witness2)
 k_fill
 refine Pu.Lk (k:=9) (by decide) (l:=PySem.Challenge.rw_lotheads_k17_whole_manners_beside_each_o) rfl rfl (fun w h Y=>PySem.W.kIn_of Y) ?F
 case F=>
  intro w mg fa h KX G hmg
  refine' K17.HH KX G hmg ?a0 ?l0 ?c0 ?k0 ?a1 ?l1 ?c1 ?k1 ?a2 ?l2 ?c2 ?k2 ?a3 ?l3 ?c3 ?k3 ?a4 ?l4 ?c4 ?k4 ?a5 ?l5 ?c5 ?k5 ?a6 ?l6 ?c6 ?k6 ?a7 ?l7 ?c7 ?k7 ?a8 ?l8 ?c8 ?k8 ?a9 ?l9 ?c9 ?k9 ?a10 ?l10 ?c10 ?k10 ?a11 ?l11 ?c11 ?k11 ?a12 ?l12 ?c12 ?k12 ?a13 ?l13 ?c13 ?k13 ?a14 ?l14 ?c14 ?k14 ?a15 ?l15 ?c15 ?k15 ?a16 ?l16 ?c16 ?k16 ?a17 ?l17 ?c17 ?k17 ?a18 ?l18 ?c18 ?k18 ?a19 ?l19 ?c19 ?k19 ?a20 ?l20 ?c20 ?k20 ?a21 ?l21 ?c21 ?k21 ?a22 ?l22 ?c22 ?k22 ?a23 ?l23 ?c23 ?k23 ?a24 ?l24 ?c24 ?k24 ?a25 ?l25 ?c25 ?k25 ?a26 ?l26 ?c26 ?k26 ?a27 ?l27 ?c27 ?k27 ?a28 ?l28 ?c28 ?k28 ?a29 ?l29 ?c29 ?k29 ?a30 ?l30 ?c30 ?k30 ?a31 ?l31 ?c31 ?k31 ?a32 ?l32 ?c32 ?k32 ?a33 ?l33 ?c33 ?k33 ?a34 ?l34 ?c34 ?k34 ?a35 ?l35 ?c35 ?k35 ?z_abs ?z_all ?z_bool ?z_enumerate ?z_int ?z_isinstance ?z_len ?z_list ?z_max ?z_min ?z_range ?z_sorted ?z_str ?z_tuple ?y_MOST_THINGS ?y_tab ?y_lay ?y_sys ?yk0 ?lk0 ?yk1 ?lk1 ?sk1
  (case a0=>k_is);(case l0=>k_is);(case c0=>k_is);(case k0=>k_is)
  (case a1=>k_is);(case l1=>k_is);(case c1=>k_is);(case k1=>k_is)
  (case a2=>k_is);(case l2=>k_is);(case c2=>k_is);(case k2=>k_is)
  (case a3=>k_is);(case l3=>k_is);(case c3=>k_is);(case k3=>k_is)
  (case a4=>k_is);(case l4=>k_is);(case c4=>k_is);(case k4=>k_is)
  (case a5=>k_is);(case l5=>k_is);(case c5=>k_is);(case k5=>k_is)
  (case a6=>k_is);(case l6=>k_is);(case c6=>k_is);(case k6=>k_is)
  (case a7=>k_is);(case l7=>k_is);(case c7=>k_is);(case k7=>k_is)
  (case a8=>k_is);(case l8=>k_is);(case c8=>k_is);(case k8=>k_is)
  (case a9=>k_is);(case l9=>k_is);(case c9=>k_is);(case k9=>k_is)
  (case a10=>k_is);(case l10=>k_is);(case c10=>k_is);(case k10=>k_is)
  (case a11=>k_is);(case l11=>k_is);(case c11=>k_is);(case k11=>k_is)
  (case a12=>k_is);(case l12=>k_is);(case c12=>k_is);(case k12=>k_is)
  (case a13=>k_is);(case l13=>k_is);(case c13=>k_is);(case k13=>k_is)
  (case a14=>k_is);(case l14=>k_is);(case c14=>k_is);(case k14=>k_is)
  (case a15=>k_is);(case l15=>k_is);(case c15=>k_is);(case k15=>k_is)
  (case a16=>k_is);(case l16=>k_is);(case c16=>k_is);(case k16=>k_is)
  (case a17=>k_is);(case l17=>k_is);(case c17=>k_is);(case k17=>k_is)
  (case a18=>k_is);(case l18=>k_is);(case c18=>k_is);(case k18=>k_is)
  (case a19=>k_is);(case l19=>k_is);(case c19=>k_is);(case k19=>k_is)
  (case a20=>k_is);(case l20=>k_is);(case c20=>k_is);(case k20=>k_is)
  (case a21=>k_is);(case l21=>k_is);(case c21=>k_is);(case k21=>k_is)
  (case a22=>k_is);(case l22=>k_is);(case c22=>k_is);(case k22=>k_is)
  (case a23=>k_is);(case l23=>k_is);(case c23=>k_is);(case k23=>k_is)
  (case a24=>k_is);(case l24=>k_is);(case c24=>k_is);(case k24=>k_is)
  (case a25=>k_is);(case l25=>k_is);(case c25=>k_is);(case k25=>k_is)
  (case a26=>k_is);(case l26=>k_is);(case c26=>k_is);(case k26=>k_is)
  (case a27=>k_is);(case l27=>k_is);(case c27=>k_is);(case k27=>k_is)
  (case a28=>k_is);(case l28=>k_is);(case c28=>k_is);(case k28=>k_is)
  (case a29=>k_is);(case l29=>k_is);(case c29=>k_is);(case k29=>k_is)
  (case a30=>k_is);(case l30=>k_is);(case c30=>k_is);(case k30=>k_is)
  (case a31=>k_is);(case l31=>k_is);(case c31=>k_is);(case k31=>k_is)
  (case a32=>k_is);(case l32=>k_is);(case c32=>k_is);(case k32=>k_is)
  (case a33=>k_is);(case l33=>k_is);(case c33=>k_is);(case k33=>k_is)
  (case a34=>k_is);(case l34=>k_is);(case c34=>k_is);(case k34=>k_is)
  (case a35=>k_is);(case l35=>k_is);(case c35=>k_is);(case k35=>k_is)
  (case z_abs=>k_is)
  (case z_all=>k_is)
  (case z_bool=>k_is)
  (case z_enumerate=>k_is)
  (case z_int=>k_is)
  (case z_isinstance=>k_is)
  (case z_len=>k_is)
  (case z_list=>k_is)
  (case z_max=>k_is)
  (case z_min=>k_is)
  (case z_range=>k_is)
  (case z_sorted=>k_is)
  (case z_str=>k_is)
  (case z_tuple=>k_is)
  (case y_MOST_THINGS=>k_is)
  (case y_tab=>k_is)
  (case y_lay=>k_is)
  (case y_sys=>rfl)
  (case yk0=>k_is)
  (case lk0=>k_is)
  (case yk1=>k_is)
  (case lk1=>k_is)
  (case sk1=>rfl)
end
